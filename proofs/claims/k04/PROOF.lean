import PyProof.Rows.All
import Wide.All
import OpenK.AllK
import Wide.FinOn
import HandS.ForMost
import HandS.ForExc
import HandS.Wide
import HandS.IsInst
import HandS.Property
import HandS.GenList
import HandS.GenYield
import HandS.Star
import HandS.StrMore
import HandS.Conv
import HandS.Flow
import HandS.TupAny
import HandS.TupMul
import HandS.Deep
import HandS.Evl
import HandS.RaiseMore
import HandS.Zip
import HandS.Walk
import HandS.TryMany
import HandS.ExcInit
import HandS.ExcSuper
import HandS.Strs
import HandS.OwnIter
import HandS.IterNext
import KE.GoesMore
import KE.GoesZip
import HandS.Codes
import HandS.WordsExc
import KE.KSuper
import HandS.Nested
import HandS.ExcIs
import HandS.ExcOwn
import HandS.RaiseFrom
import HandS.HotCalls
import HandS.FStr
import PyProof.FString2
import KE.KWithOwn
import HandS.Finally
import PySem.Challenge.RW_untoldrule_k04_whole_trials
import HandS.ExcField

set_option Elab.async false
set_option linter.all false
set_option maxRecDepth 100000
set_option maxHeartbeats 2000000
/-! rules of our own: text * int, tuple * int, len(set(texts)) -/
namespace UL
open PySem PySem.Spec PyProof.Rows L2

/-! ### text * 0, text * 1 -/
def rMulS : R2 := fun x y H Q => ∃ z n, x = .str z ∧ y = .int n ∧ ((n = 0 ∧ Q (.str Str.empty) H) ∨ (n = 1 ∧ Q (.str z) H))
theorem op_mulS {X : Cx} : OpR X (binaryOp .Mult) rMulS := by
  intro pins s σ H x y v u Q I rx ry h
  obtain ⟨z, n, rfl, rfl, h⟩ := h
  obtain ⟨t, rfl⟩ := rx
  obtain ⟨t', rfl⟩ := ry
  rcases h with ⟨rfl, q⟩ | ⟨rfl, q⟩
  · exact P.mul_str_none (by decide) (by decide) ⟨.str Str.empty, H, I.tok _, ⟨_, rfl⟩, q⟩
  · refine P.mul_str (by decide) (fun _ e => ?_) (fun _ e => ?_) ?_
    · simp at e
    · simp at e
    · rw [if_neg (by decide), if_pos (by simp)]
      exact ⟨.str z, H, I, ⟨_, rfl⟩, q⟩

/-! ### tuple * int -/
theorem tuple_mul1 (l : Addr) (items : Array Value) (n : Nat) (dd : Option Addr) (sl : Array (Option Value)) (x : Int) (u : Tok) (c0 : (decide (x < -(2 ^ 63)) || decide (x ≥ 2 ^ 63)) = false) (c1 : (items.isEmpty || x == 1) = true) :
    Meets (Builtin.«tuple.__mul__» ⟨[.ref l, .int x u], []⟩) (fun _ R s => s.heap.get? l = some { cls := .type "tuple", dict := dd, data := .seq items n, slots := sl } ∧
      R (.ok (.ret (Value.ref l))) s) :=
  .of_wp fun prog w A R s h => by
    obtain ⟨hp, g, d, tk, os⟩ := s
    obtain ⟨hl, h⟩ := h
    have f1 := AutoSeq1.idx_int
    wp_walk using wpAny_loadPart' hl
    repeat (first
      | (refine wpAny_ite_false (decide_eq_false (by rw [c0]; exact Bool.false_ne_true)) ?_; wp_walk using wpAny_loadPart' hl)
      | (refine wpAny_ite_true (decide_eq_true c1) ?_; wp_walk using wpAny_loadPart' hl))
    exact ⟨_, rfl, h⟩
/-- the answer is a tuple of the items so often: a new one, or the same -/
def rRepU (K : PySem.W.Frag) : R2 := fun x y H Q => ∃ l k xs, x = .ref l ∧ y = .int k ∧ SqT K H l xs ∧ xs ≠ [] ∧ 1 ≤ k ∧ k ≤ 1000 ∧ xs.length ≤ 1000 ∧ (k = 1 → Q (.ref l) H) ∧ (2 ≤ k → ∀ p, H p = none → Q (.ref p) (upd H p (.tup (List.replicate k.toNat xs).flatten)))
theorem op_repU {X : Cx} : OpR X (binaryOp .Mult) (rRepU X.K) := by
  intro pins s σ H x y v u Q I rx ry h
  obtain ⟨l, k, xs, rfl, rfl, hT, hne, h1, h2, hz, q1, q2⟩ := h
  by_cases hk : k = 1
  · subst hk
    cases rx
    obtain ⟨t, rfl⟩ := ry
    obtain ⟨its, r, ⟨⟨cls, dd, data, sl⟩, ho, hc, n, hd⟩, hs⟩ := I.tuple hT
    simp only at hc hd
    subst hc hd
    have c0 : (decide ((1 : Int) < -(2 ^ 63)) || decide ((1 : Int) ≥ 2 ^ 63)) = false := by decide
    have c1 : (its.toArray.isEmpty || (1 : Int) == 1) = true := by simp
    refine wpAny_binaryOp_repeat_ref (T := "tuple") (U := "int") (by decide) ⟨_, ho, rfl⟩ (fun s' => typeIs_int s' 1 t) noFill_tuple_mul F.fills_int_mul F.slot_int_rmul repeat_tuple F.slot_int_index.lookup
      (call_meets F.slot_int_rmul (typeIs_int s 1 t) F.entry_int_rmul (F.args_int_rmul_2 _ _) (int_rmul_tuple 1 t l its.toArray n dd sl)
        ⟨ho, rfl, ⟨_, ho, rfl⟩, call_meets F.slot_tuple_mul ⟨_, ho, rfl⟩ F.entry_tuple_mul (F.args_tuple_mul_2 _ _) (tuple_mul1 l its.toArray n dd sl 1 t c0 c1) ⟨ho, ?_⟩⟩)
    exact ⟨.ref l, H, I, rfl, q1 rfl⟩
  · exact op_repT pins s σ H _ _ v u Q I rx ry ⟨l, k, xs, rfl, rfl, hT, hne, by omega, h2, hz, fun p hp => q2 (by omega) p hp⟩
end UL

/-! ### len(set(texts)) -/
namespace UL
open PySem PySem.Spec PyProof.Rows
/-- the texts met so far, each once -/
def met (xs : List Str) : List Str := xs.foldl (fun acc x => if acc.any (· == x) then acc else acc ++ [x]) []
theorem met_snoc (xs : List Str) (x : Str) : met (xs ++ [x]) = if (met xs).any (· == x) then met xs else met xs ++ [x] := by
  unfold met
  rw [List.foldl_append]
  rfl
theorem met_len (xs : List Str) : (met xs).length ≤ xs.length := by
  have h : ∀ (ys acc : List Str), (ys.foldl (fun acc x => if acc.any (· == x) then acc else acc ++ [x]) acc).length ≤ acc.length + ys.length := by
    intro ys
    induction ys with
    | nil => intro acc; simp
    | cons y r ih =>
      intro acc
      rw [List.foldl_cons]
      refine Nat.le_trans (ih _) ?_
      split <;> simp only [List.length_append, List.length_cons, List.length_nil] <;> omega
  simpa [met] using h xs []
theorem met_take (xs : List Str) {i : Nat} (h : i < xs.length) (k : Str) :
    (((met (xs.take i)).any (· == k) || decide (k = xs.getD i Str.empty)) = (met (xs.take (i + 1))).any (· == k)) ∧
      (if (met (xs.take i)).any (· == xs.getD i Str.empty) = true then (met (xs.take i)).length else (met (xs.take i)).length + 1) = (met (xs.take (i + 1))).length := by
  have hx : xs[i]? = some (xs.getD i Str.empty) := by
    rw [List.getD_eq_getElem?_getD]; simp [h]
  have ht : xs.take (i + 1) = xs.take i ++ [xs.getD i Str.empty] := by
    rw [List.take_add_one, hx]; rfl
  rw [ht, met_snoc]; generalize xs.getD i Str.empty = x
  by_cases e : (met (xs.take i)).any (· == x) = true
  · rw [if_pos e, if_pos e]
    refine ⟨?_, rfl⟩
    by_cases e2 : k = x
    · subst e2; simp [e]
    · simp [e2]
  · rw [if_neg e, if_neg e, List.any_append]
    refine ⟨?_, by simp⟩
    by_cases e2 : k = x
    · subst e2; simp
    · have hb : (x == k) = false := beq_eq_false_iff_ne.mpr fun z => e2 z.symm
      simp [e2, hb]
section
variable {prog : Program} {w : World} {A : Around} {E : Value → Shared → Prop} {s : Shared} {I : Addr} {fp wr : List Addr} {G : Array GenState → Array GenState → Prop} {n : Nat} {P : Nat → Value → Prop} {St : Nat → Shared → Prop}
/-- the set at S holds the first i texts -/
def Holds (prog : Program) (w : World) (S : Addr) (xs : List Str) (i : Nat) (h : Heap) : Prop := h.SetOf (PySem.strKind prog w) S (fun k => (met (xs.take i)).any (· == k)) (met (xs.take i)).length
theorem Holds.at {S : Addr} {xs : List Str} {i : Nat} {h h' : Heap} (x : Holds prog w S xs i h) (k : ∀ o, h.get? S = some o → h'.get? S = some o) : Holds prog w S xs i h' := by
  obtain ⟨o, es, ep, t, ho, r⟩ := x; exact ⟨o, es, ep, t, k o ho, r⟩
/-- the walk that fills a set with texts, from turn i on -/
theorem fills (W : WalksS prog w A.in1 I fp wr G n P St) {S : Addr} (hS : S ∉ fp) {xs : List Str} (hl : xs.length = n) (hb : n + 1 < scanBound) (hv : ∀ i v, P i v → ∃ t, v = .str (xs.getD i Str.empty) t) {R : Result → Shared → Prop} :
    ∀ (d i : Nat) (s : Shared), i + d = n → St i s → Holds prog w S xs i s.heap → (∀ s', Moved (S :: wr) G s s' → Holds prog w S xs n s'.heap → R (.ok (.ret .none)) s') →
      codeAny (model prog w) A (.builtin "set.update.loop" ⟨[.ref S, .ref I], []⟩) R s := by
  have nw : S ∉ wr := fun z => hS (W.sub _ z)
  have up : ∀ b ∈ wr, b ∈ S :: wr := fun b z => List.mem_cons_of_mem _ z
  intro d
  induction d with
  | zero =>
    intro i s e st hd hR
    cases (show i = n from e)
    refine codeAny_builtin PyProof.Rows.F.entry_set_update_loop ?_; rw [Around.under_plainId PyProof.Rows.F.plain_set_update_loop _]
    refine wpAny_bind (m := pyNext (.ref I)) (W.done s _ _ st fun s' m => wpAny_pure (hR s' (m.mono up) (hd.at fun o q => m.heap S o nw q)))
  | succ d ih =>
    intro i s e st hd hR
    have lt : i < n := by omega
    refine codeAny_builtin PyProof.Rows.F.entry_set_update_loop ?_; rw [Around.under_plainId PyProof.Rows.F.plain_set_update_loop _]
    refine wpAny_bind (m := pyNext (.ref I)) (W.item i s _ _ lt st fun v s' p st' m => ?_)
    obtain ⟨t, rfl⟩ := hv i v p
    have ml : (met (xs.take i)).length ≤ i := Nat.le_trans (met_len _) (by rw [List.length_take]; omega)
    refine wpAny_bind (m := holding [Value.str (xs.getD i Str.empty) t] (setAdd S (.str (xs.getD i Str.empty) t))) (wpAny_holding ?_)
    unfold setAdd
    refine wpAny_holding (wpAny_bind ((PySem.strKind prog w).pyHash (k := xs.getD i Str.empty) (strKind_is _ _ _ _) ?_))
    have hd' : Holds prog w S xs i s'.heap := hd.at fun o q => m.heap S o nw q
    refine wpAny_setAddHashed_of (knd := PySem.strKind prog w) (s := { s' with toks := s'.toks + 1 }) (strKind_is _ _ _ _) rfl hd' (by omega) fun h' sb new => ?_
    have hd2 : Holds prog w S xs (i + 1) h' := by
      obtain ⟨o, es, ep, tb, ho, r⟩ := new
      have e1 := fun k => (met_take xs (show i < xs.length by omega) k).1
      have e2 := (met_take xs (show i < xs.length by omega) Str.empty).2
      exact SetOf_congr ⟨o, es, ep, tb, ho, r⟩ e1 e2
    have off : ∀ b, b ∈ fp → b ≠ S := fun b z q => hS (q ▸ z)
    refine wpAny_pure ⟨plainId_quiet PyProof.Rows.F.plain_set_update_loop _, ih (i + 1) _ (by omega) (W.frame _ s' _ _ st' (Nat.le_succ _) fun b z o q => (sb.2 b (off b z)).trans q) hd2 fun s2 m2 q2 => hR s2 ?_ q2⟩
    exact Moved.trans W.gtrans ((m.mono up).then_heap (Nat.le_succ _) fun b o z q => (sb.2 b fun y => z (y ▸ List.mem_cons_self)).trans q) m2
/-- set(x): a new set, then its __init__ -/
theorem call_set1 {x : Value} {Q : Value → Shared → Prop} (h : ∀ led : Bool, wpAny (model prog w) A.in1.in1 (Builtin.«set.__init__» ⟨[.ref s.heap.objs.size, x], []⟩)
      (fun fin s' => match fin with | .done f => wants (fun r s₂ => r = .none ∧ Q (.ref s.heap.objs.size) s₂) E (.ok f) s' | .again c' => c'.quiet = true ∧ codeAny (model prog w) A.in1 c' (wants (fun r s₂ => r = .none ∧ Q (.ref s.heap.objs.size) s₂) E) s')
      (fun e s' => wants (fun r s₂ => r = .none ∧ Q (.ref s.heap.objs.size) s₂) E (.error e) s') { s with heap := s.heap.push { cls := .type "set", dict := none, data := .set #[] 0 (.fresh 0 0 led) } }) :
    wpAny (model prog w) A (call (.type "set") [x]) Q E s := by
  have ⟨c, tl, hmro⟩ := PySem.F.called_set.mro; have hmade := PySem.F.called_set.made; have hsub := PySem.F.called_set.sub
  refine wpAny_call (codeAny_of_tree (wpAny_pure ⟨Code.quiet_builtin _ (by decide +kernel), codeAny_builtin PySem.F.entry_type_call ?_⟩))
  rw [Around.under_plain (weight_type_call_type "set" [x] []) rfl]
  have h1 := PySem.F.called_set.notType; have h2 := PySem.F.called_set.canCreate; have hct := PySem.F.typeCall_set_1 x
  repeat (any_goals (first | assumption | wp_step))
  refine codeAny_mono (code_set_new_1 x (E := E) (Q₁ := fun obj s₁ => ∃ led : Bool, obj = .ref s.heap.objs.size ∧ s₁ = { s with heap := s.heap.push { cls := .type "set", dict := none, data := .set #[] 0 (.fresh 0 0 led) } }) fun led => ⟨led, rfl, rfl⟩) fun r s₁ hr => ?_
  match r, hr with
  | .error e, hr => exact hr
  | .ok .next, hr | .ok .brk, hr | .ok .cont, hr => exact hr.elim
  | .ok (.ret obj), ⟨led, e1, e2⟩ =>
    subst e1 e2
    have hT : Shared.TypeIs { s with heap := s.heap.push { cls := .type "set", dict := none, data := .set #[] 0 (.fresh 0 0 led) } } (.ref s.heap.objs.size) "set" := ⟨_, Heap.get?_push_size _ rfl, rfl⟩
    have hli := PySem.F.called_set.init.lookup; have hbi := PySem.F.called_set.init.bind (.ref s.heap.objs.size)
    repeat (any_goals (first | assumption | wp_step))
    refine codeAny_mono (codeAny_call_builtin PySem.F.called_set.init.plain PySem.F.entry_set_init (check_set_init_1 hT (h led))) fun r₂ s₂ hr₂ => ?_
    match r₂, hr₂ with
    | .error e, hr₂ => exact hr₂
    | .ok .next, hr₂ | .ok .brk, hr₂ | .ok .cont, hr₂ => exact hr₂.elim
    | .ok (.ret r), ⟨e1, hq⟩ =>
      subst e1
      repeat (any_goals (first | assumption | wp_step))

abbrev freshSet (led : Bool) : Obj := { cls := .type "set", dict := none, data := .set #[] 0 (.fresh 0 0 led) }
/-- the same of a list, of a tuple -/
theorem call_set_strs {l : Addr} {items : Array Value} {xs : List Str} {Q : Value → Shared → Prop} (hh : A.handled = none) (hl : s.heap.IsList l items ∨ s.heap.IsTuple l items) (hi : StrsAre items.toList xs) (hb : items.size + 1 < scanBound)
    (h : ∀ (h' : Heap) (tk : Nat), Holds prog w s.heap.objs.size xs items.size h' → (∀ b o, b < s.heap.objs.size → s.heap.get? b = some o → h'.get? b = some o) → Q (.ref s.heap.objs.size) { s with heap := h', toks := tk }) :
    wpAny (model prog w) A (call (.type "set") [.ref l]) Q E s := by
  have hsz : xs.length = items.size := by rw [← StrsAre.len_eq hi, Array.length_toList]
  have hval : ∀ (i : Nat) (v : Value), items[i]? = some v → ∃ t, v = .str (xs.getD i Str.empty) t := fun i v hv => SS.strs_at hi i v (by rw [Array.getElem?_toList]; exact hv)
  have h3 : A.in1.in1.in1.handled = none := by simp [hh]
  refine call_set1 fun led => ?_
  have gS : (s.heap.push (freshSet led)).get? s.heap.objs.size = some (freshSet led) := Heap.get?_push_size _ rfl
  -- once an iterator stands behind the set
  have fin : ∀ (cl : String) (vs : Array Value) (l0 : Addr) (P : Nat → Value → Prop) (St : Nat → Heap → Prop), (∀ i v, P i v → ∃ t, v = .str (xs.getD i Str.empty) t) →
      Walks prog w A.in1.in1.in1 (s.heap.objs.size + 1) [s.heap.objs.size + 1, l0] [s.heap.objs.size + 1] items.size P St → l0 < s.heap.objs.size → St 0 ((s.heap.push (freshSet led)).push { cls := .type cl, data := .fields vs }) →
      codeAny (model prog w) A.in1.in1 (.builtin "set.update.loop" ⟨[.ref s.heap.objs.size, .ref (s.heap.objs.size + 1)], []⟩) (fun r s' => r = .ok (.ret .none) ∧ ∃ h' tk, s' = { s with heap := h', toks := tk } ∧ Holds prog w s.heap.objs.size xs items.size h' ∧
        (∀ b o, b < s.heap.objs.size → s.heap.get? b = some o → h'.get? b = some o)) { s with heap := (s.heap.push (freshSet led)).push { cls := .type cl, data := .fields vs } } := by
    intro cl vs l0 P St hP W hl0 st
    refine fills W.toS (by simp only [List.mem_cons, List.not_mem_nil, or_false, not_or]; exact ⟨Nat.ne_of_lt (Nat.lt_succ_self _), Nat.ne_of_gt hl0⟩) hsz hb hP items.size 0 _ (by omega) st ?_ fun s' m q => ?_
    · exact SetOf_congr ((setObjOf_fresh (knd := PySem.strKind prog w) led).setOf (Heap.get?_push_of_some _ gS) (by unfold scanBound; omega)) (fun _ => rfl) rfl
    · obtain ⟨h', g', d', tk', os'⟩ := s'
      cases (show g' = s.gens from m.gens); cases (show d' = s.drawn from m.drawn); cases (show os' = s.os from m.os)
      refine ⟨rfl, h', tk', rfl, q, fun b o lt e => m.heap b o ?_ (Heap.get?_push_of_some _ (Heap.get?_push_of_some _ e))⟩
      simp only [List.mem_cons, List.not_mem_nil, or_false, not_or]; exact ⟨Nat.ne_of_lt lt, Nat.ne_of_lt (Nat.lt_succ_of_lt lt)⟩
  have push1 : (s.heap.push (freshSet led)).objs.size = s.heap.objs.size + 1 := Heap.size_push _ _
  have gI : ∀ (cl : String) (vs : Array Value), ((s.heap.push (freshSet led)).push { cls := .type cl, data := .fields vs }).get? (s.heap.objs.size + 1) = some { cls := .type cl, data := .fields vs } := fun cl vs => by
    have g := Heap.get?_push_size (s.heap.push (freshSet led)) (o := { cls := .type cl, data := .fields vs }) rfl
    rwa [push1] at g
  rcases hl with ⟨⟨ocls, odict, odata, oslots⟩, ho, hc, nl, hd⟩ | ⟨⟨ocls, odict, odata, oslots⟩, ho, hc, nl, hd⟩
  all_goals (simp only at hc hd; subst hc hd)
  · have ho' := Heap.get?_push_of_some (freshSet led) ho
    have hl1 : (s.heap.push (freshSet led)).IsList l items := ⟨_, ho', rfl, nl, rfl⟩
    have f1 := PySem.F.sub_list_set; have f2 := PySem.F.sub_list_frozenset; have f3 : (Value.type "list" == Value.type "dict") = false := by decide
    unfold Builtin.«set.__init__» noKeywords Builtin.Frozenset.updateFrom; generalize hPI : pyIter = PI; wp_walk; subst hPI
    refine wpAny_pyIter_list hl1 (wpAny_bind (wpAny_runValue ?_))
    rw [push1]
    have lt := Heap.lt_size ho
    refine codeAny_mono (fin _ _ l _ _ hval (Walks.list h3 _ l (Nat.ne_of_lt (Nat.lt_succ_of_lt lt)) items) lt ⟨⟨_, gI _ _, rfl, rfl⟩, hl1.push _⟩) fun r s' q => ?_
    obtain ⟨e1, h', tk, e2, q1, q2⟩ := q
    subst e1 e2
    exact wpAny_pure (wpAny_pure ⟨rfl, h h' tk q1 q2⟩)
  · have ho' := Heap.get?_push_of_some (freshSet led) ho
    have hl1 : (s.heap.push (freshSet led)).IsTuple l items := ⟨_, ho', rfl, nl, rfl⟩
    have f1 : isSubtype (.type "tuple") (.type "set") = pure false := by rw [isSubtype_type]; kernel_rfl
    have f2 : isSubtype (.type "tuple") (.type "frozenset") = pure false := by rw [isSubtype_type]; kernel_rfl
    have f3 : (Value.type "tuple" == Value.type "dict") = false := by decide
    unfold Builtin.«set.__init__» noKeywords Builtin.Frozenset.updateFrom; generalize hPI : pyIter = PI; wp_walk; subst hPI
    refine wpAny_pyIter_tuple hl1 (wpAny_bind (wpAny_runValue ?_))
    rw [push1]
    have lt := Heap.lt_size ho
    refine codeAny_mono (fin _ _ l _ _ hval (Walks.tuple h3 _ l (Nat.ne_of_lt (Nat.lt_succ_of_lt lt)) items) lt ⟨⟨_, gI _ _, rfl, rfl⟩, hl1.push _⟩) fun r s' q => ?_
    obtain ⟨e1, h', tk, e2, q1, q2⟩ := q
    subst e1 e2
    exact wpAny_pure (wpAny_pure ⟨rfl, h h' tk q1 q2⟩)
end
section
open L2
variable {X : Cx}
theorem strs_of_vals : ∀ {zs : List Str} {us : List Value}, Vals (zs.map V.str) us → StrsAre us zs
  | [], _, .nil => .nil
  | z :: zs, _, .cons r t => by obtain ⟨tk, rfl⟩ := r; exact .cons _ _ (strs_of_vals t)
def tLenSetS (K : PySem.W.Frag) (ta : TE) : TE := fun σ H Q => ta σ H fun x H1 => ∃ (l : Addr) (zs : List Str), x = V.ref l ∧ (SqL K H1 l (zs.map V.str) ∨ SqT K H1 l (zs.map V.str)) ∧ zs.length < 64 ∧ Q (.int (met zs).length) H1
theorem pe_lenSetS {a : Expr} {ta : TE} {p p2 q pos : Pos} (hc : X.calm = true) (hg : Gl X "len") (hm : X.mg "len" = none) (hg2 : Gl X "set") (hm2 : X.mg "set" = none) (ha : PE X a ta)
    (na : starEach [a] X.env = (false, eval a X.env) :: starEach [] X.env := by rfl) : PE X (.Call (.Name "len" p) [.Call (.Name "set" p2) [a] [] q] [] pos) (tLenSetS X.K ta) := by
  refine ⟨fun pins s σ H Q I h => Call_ (ld_blt I hg hm PySem.boot_len (callWith_builtin1 (args_cons (Call_ (ld_blt I hg2 hm2 boot_set ?_)) rfl) rfl rfl))⟩
  refine callWith_type1 (args_cons (thn (ha.run pins s σ H _ I h) fun v s1 ⟨x, H1, I1, r1, q1⟩ => args_nil ?_) na) na rfl
  obtain ⟨l, zs, rfl, hq, hn, q1⟩ := q1
  cases r1
  have go : ∀ its : List Value, Vals (zs.map V.str) its → (s1.heap.IsList l its.toArray ∨ s1.heap.IsTuple l its.toArray) → its.length = zs.length := fun its r _ => by rw [← r.length, List.length_map]
  obtain ⟨its, r, pl⟩ : ∃ its : List Value, Vals (zs.map V.str) its ∧ (s1.heap.IsList l its.toArray ∨ s1.heap.IsTuple l its.toArray) := by
    rcases hq with hq | hq
    · obtain ⟨its, r, pl, _⟩ := I1.list hq; exact ⟨its, r, .inl pl.isList⟩
    · obtain ⟨its, r, pl, _⟩ := I1.tuple hq; exact ⟨its, r, .inr pl⟩
  have hl : its.toArray.size = zs.length := by rw [List.size_toArray, ← r.length, List.length_map]
  refine call_set_strs (I1.ok.hd hc) pl (xs := zs) (by simpa using strs_of_vals r) (by unfold scanBound; omega) fun h' tk hS hk => args_nil ?_
  rw [hl] at hS
  unfold Holds at hS
  rw [List.take_length] at hS
  obtain ⟨o, es, ep, t, ho, hex, hd, _, _, _, hf, hn2⟩ := hS
  have I2 : Inv X pins σ H1 { s1 with heap := h', toks := tk } := I1.kept fun b o e => hk b o (Heap.lt_size e) e
  have := met_len zs
  exact call_len_set ho hex hd hf (by rw [hn2] <;> omega) ⟨.int (met zs).length, H1, I2.tok _, ⟨_, by rw [hn2]⟩, q1⟩
end
end UL

set_option Elab.async false
set_option linter.all false
set_option maxRecDepth 100000
set_option maxHeartbeats 2000000
/-! own __getitem__, __setitem__, __iter__ -/
namespace UL
open PySem PySem.Spec PyProof.Rows L2
section
variable {X : Cx} {CX : CXT} {k : Nat} {C f a dx : Addr} {fs : List (Str × V)} {fd : FuncData} {ps : List Str} {sp : Sp} {E : XK} {pins : List (Addr × Obj)} {σ : L2.St} {H : Hp} {s : Shared}

/-- a def called one level down (in1), on values -/
theorem run_in1 {Q : VK} {us : List Value} {vs : List V} (F : FnOk X.prog X.w X.K X.mg X.base CX k f fd ps sp) (hr : Room (k + 1) X.A) (hb : Binds X.K fd ps []) (hx : Passes CX X E)
    (I : Inv X pins σ H s) (r : Vals vs us) (h : sp vs H Q E) : wpAny (model X.prog X.w) X.A.in1 (call (.ref f) us) (EP X pins σ Q) X.xe s := by
  have hl : (us ++ []).length = ps.length := by rw [List.append_nil, ← r.length]; exact F.len _ _ _ _ h
  have hb' := hb s us I.kIn hl
  rw [List.append_nil] at hb'
  refine wpAny_call (codeAny_mono (F.run X.A.in1 X.stack s H ⟨us, []⟩ us vs Q E hr.in1 I.env0.in1 hb' r h) fun r s' hq => ?_)
  match r, hq with
  | .error e, hq => exact hx pins σ H s e s' I hq
  | .ok (.ret u), hq => exact I.after hq
  | .ok .next, hq | .ok .brk, hq | .ok .cont, hq => exact hq.elim
theorem inst_of (I : Inv X pins σ H s) (e : H a = some (.ins C dx fs)) : ∃ od, PySem.W.InstAt s.heap a (PySem.W.instObj C dx) C (some od) := by
  obtain ⟨mA, O, _⟩ := ins_get I.hok e
  obtain ⟨od, J, _⟩ := O.look
  exact ⟨od, J⟩

/-! ### o[i] by an own __getitem__ -/
structure GetO (K : PySem.W.Frag) (C f : Addr) : Prop where
  at_ : PySem.W.findIn K (.ref C) "__getitem__" = some (some (.ref f))
  fn : PySem.W.fnIn K f = true
  is : PySem.W.isFn K (.ref f) = true
def tSubO (C : Addr) (sp : Sp) (E : XK) (ta tb : TE) : TE := fun σ H Q => ta σ H fun x H1 => tb σ H1 fun y H2 => ∃ a dx fs, x = .ref a ∧ H2 a = some (.ins C dx fs) ∧ sp [.ref a, y] H2 Q E
theorem pe_subO {ea eb : Expr} {ta tb : TE} {pos : Pos} (ha : PE X ea ta) (hb : PE X eb tb) (c : GetO X.K C f) (F : FnOk X.prog X.w X.K X.mg X.base CX k f fd ps sp) (hr : Room (k + 1) X.A) (bn : Binds X.K fd ps []) (hx : Passes CX X E)
    (hs : ∀ o i, subscripted eb true o i = runValue (.builtin "lifetime.subscript" ⟨[o, i], []⟩)) : PE X (.Subscript ea eb pos) (tSubO C sp E ta tb) := by
  refine ⟨fun pins s σ H Q I h => Subscript_ (binT ha hb I h fun v u s2 x y H2 I2 rx ry q => ?_)⟩
  obtain ⟨a, dx, fs, e, ho, q⟩ := q
  subst e
  cases rx
  obtain ⟨od, J⟩ := inst_of I2 ho
  obtain ⟨m, hF⟩ := I2.fr
  exact PySem.W.sub_K hF I2.ok.mod.kin J c.at_ c.fn c.is (run_in1 (us := [.ref a, u]) (vs := [.ref a, y]) F hr bn hx I2 (.cons rfl (.cons ry .nil)) q) (hs _ _)

/-! ### o[i] = v by an own __setitem__ -/
structure SetO_ (K : PySem.W.Frag) (C f : Addr) : Prop where
  sq : PySem.W.noSeq K C = true
  at_ : PySem.W.findIn K (.ref C) "__setitem__" = some (some (.ref f))
  is : PySem.W.isFn K (.ref f) = true
def rSetO (C : Addr) (sp : Sp) (E : XK) : TSet := fun o i v H Q => ∃ a dx fs, o = .ref a ∧ H a = some (.ins C dx fs) ∧ sp [.ref a, i, v] H (fun _ H' => Q H') E
theorem set_own (c : SetO_ X.K C f) (F : FnOk X.prog X.w X.K X.mg X.base CX k f fd ps sp) (hr : Room k X.A) (bn : Binds X.K fd ps []) (hx : Passes CX X E) : PSet X (rSetO C sp E) := by
  intro pins s σ H o i v ov iv u Q I ro ri rv h
  obtain ⟨a, dx, fs, e, ho, q⟩ := h
  subst e
  cases ro
  obtain ⟨od, J⟩ := inst_of I ho
  obtain ⟨m, hF⟩ := I.fr
  refine PySem.W.ksp_setItem hF I.ok.mod.kin J c.sq c.at_ c.is (thn (run_fn (us := [.ref a, iv, u]) (vs := [.ref a, i, v]) F hr bn .nil hx I (.cons rfl (.cons ri (.cons rv .nil))) q) fun z s' hz => ?_)
  obtain ⟨_, H', I', _, q'⟩ := hz
  exact ⟨H', I', q'⟩

/-! ### iter(a tuple) -/
def ItT (t it : Addr) (i : Nat) : HO := .ext fun h => h.IsTupleIter it t i
/-- something that nobody asks for any more -/
def Gone : HO := .ext fun _ => True
theorem itT_ok {P : Program} {w : World} {H : Hp} {h : Heap} {t it : Addr} {i : Nat} (e : h.IsTupleIter it t i) : ObjOk P w H h it (ItT t it i) := ⟨e, let ⟨o, z, _⟩ := e; ⟨o, z⟩, fun _ _ q k => q.at k⟩
def rIterT (K : PySem.W.Frag) : List V → Hp → VK → Prop := fun xs H Q => ∃ (t : Addr) (zs : List V), xs = [.ref t] ∧ SqT K H t zs ∧ ∀ it, H it = none → Q (.ref it) (upd H it (ItT t it 0))
theorem call_iterT : CallR X (.builtin "iter") (rIterT X.K) := by
  intro pins s σ H xs us Q I r h
  obtain ⟨t, zs, e, hq, q⟩ := h
  subst e
  obtain rfl := Vals.ref1 r
  obtain ⟨its, rv, pl, hz⟩ := I.tuple hq
  refine Calls.call_function_entry (by decide +kernel) (by decide +kernel) PySem.W.kdk_entry_iter (PySem.W.kdk_args_iter _) ?_
  unfold Builtin.«iter»
  refine wpAny_bind (m := someArgs "iter" 1 2 _) (wpAny_of_eq (a := [Value.ref t]) (by first | rfl | kernel_rfl!) (wpAny_bind (m := pyIter (.ref t)) (wpAny_pyIter_tuple (show s.heap.IsTuple t its.toArray from pl) (wpAny_pure ⟨_, rfl, ?_⟩))))
  exact ⟨.ref s.heap.objs.size, _, I.laid (t' := s.toks) (fun b u e => Heap.get?_push_of_some _ e) (Nat.le_refl _) (itT_ok ⟨_, Heap.get?_push_size _ rfl, rfl, rfl⟩), rfl, q _ (I.hok.fresh (Nat.le_refl _))⟩

/-! ### list(o), where o's own __iter__ hands back an iterator over a tuple -/
structure IterO (K : PySem.W.Frag) (C f : Addr) : Prop where
  it : PySem.W.findIn K (.ref C) "__iter__" = some (some (.ref f))
  is : PySem.W.isFn K (.ref f) = true
  nolen : PySem.W.findIn K (.ref C) "__len__" = some none
  nohint : PySem.W.findIn K (.ref C) "__length_hint__" = some none
def rListO (K : PySem.W.Frag) (C : Addr) (sp : Sp) (E : XK) : List V → Hp → VK → Prop := fun xs H Q => ∃ a dx fs, xs = [.ref a] ∧ H a = some (.ins C dx fs) ∧ ∀ q, H q = none →
  sp [.ref a] (upd H q (.lst [])) (fun v H1 => ∃ it t zs, v = .ref it ∧ H1 a = some (.ins C dx fs) ∧ H1 q = some (.lst []) ∧ H1 it = some (ItT t it 0) ∧ SqT K H1 t zs ∧ it ≠ t ∧ zs.length ≤ sizeLine ∧ Q (.ref q) (upd (upd H1 it Gone) q (.lst zs))) E
theorem next_tup : typeLookup (.type "tuple_iterator") "__next__" = pure (some (.builtin "tuple_iterator.__next__")) := by rw [typeLookup_type, builtinLookup_eq_fast]; kernel_rfl
theorem upd_self {H : Hp} {a : Addr} {o : HO} (h : H a = some o) : upd H a o = H := by
  funext b
  by_cases e : b = a
  · rw [e, upd_same, h]
  · rw [upd_ne e]
/-- a tuple's iterator at its end: it stays an object -/
theorem tup_end {A : Around} {E' : Value → Shared → Prop} {it t : Addr} {i : Nat} {items : Array Value} {Q : Option Value → Shared → Prop} (hh : A.handled = none) (hit : s.heap.IsTupleIter it t i) (ht : s.heap.IsTuple t items) (hx : items[i]? = none)
    (hQ : ∀ h', Heap.ExtBut it s.heap h' → (∃ o, h'.get? it = some o) → Q none { s with heap := h' }) : wpAny (model X.prog X.w) A (pyNext (.ref it)) Q E' s := by
  have ⟨o, ho, hc, hd⟩ := hit; have ⟨ol, hol, _, nl, hdl⟩ := ht
  have e0 : ¬ ((Value.ref t == Value.none) = true) := Bool.false_ne_true
  unfold pyNext
  refine wpAny_bind (wpAny_attempt (wpAny_callSpecial?_slot (name := Str.ofString "__next__") hit.typeIs PySem.F.slot_tuple_iterator_next (wpAny_call_entry PySem.F.slot_tuple_iterator_next hit.typeIs PySem.F.entry_tuple_iterator_next ?_ (PySem.F.args_tuple_iterator_next_1 _))))
  refine wpAny_bind (m := field (.ref it) 0) (wpAny_field ho hd (x := .ref t) rfl ?_)
  show wpAny _ _ (if (Value.ref t == Value.none) = true then _ else _) _ _ s; rw [if_neg e0]
  refine wpAny_bind (m := field (.ref it) 1) (wpAny_field ho hd (x := .int i 0) rfl (wpAny_bind (m := seqItems? (.ref t)) (wpAny_seqItems hol hdl ?_)))
  simp only [Int.toNat_natCast, hx]
  refine wpAny_bind (wpAny_rule (wpAny_bind (wpAny_setField ho hd (by simp) (wpAny_bind (m := newExc (.type "StopIteration") []) ?_))))
  simp only [newExc, newTuple]
  refine wpAny_bind (wpAny_newObj_type (wpAny_bind (m := firstArgMember _ _) (wpAny_of_eq (a := Value.none) (by first | rfl | (simp only [firstArgMember]; rfl)) (wpAny_newObj_type ?_ (by size_fits)))) (by size_fits))
  simp only [raiseNew]; refine wpAny_bind (wpAny_handled ?_); rw [show A.in1.handled = none from hh]
  refine wpAny_bind (wpAny_pure (wpAny_throw ?_)); refine wpAny_bind (wpAny_isInstance (T := "StopIteration") (b := true) ⟨_, Heap.get?_push_size _ rfl, rfl⟩ isSubtype_stop (wpAny_pure (hQ _ (((Heap.SameBut.update ..).extBut.push _).push _) ?_)))
  exact ⟨_, Heap.get?_push_of_some _ (Heap.get?_push_of_some _ (Heap.get?_update_self _ ho (by obtain ⟨c, d, dt, sl⟩ := o; simp only at hd; subst hd; rfl)))⟩
section
variable {A1 : Around} {q it t : Addr} {zs : List V} {Rs : Result → Shared → Prop} {Q : VK}
/-- the tracked iterator has turned -/
theorem Inv.turnT {h' : Heap} {o : HO} {t' : Nat} (I : Inv X pins σ H s) (hi : ∃ j, H it = some (ItT t it j)) (k : ∀ b u, b ≠ it → s.heap.get? b = some u → h'.get? b = some u) (hs : ∃ u, h'.get? it = some u) (new : ObjOk X.prog X.w (upd H it o) h' it o) :
    Inv X pins σ (upd H it o) { s with heap := h', toks := t' } := by
  obtain ⟨j, hi⟩ := hi
  exact I.write (by rw [hi]; exact trivial) (.inl rfl) k hs new
/-- the rest of the tuple's items is pushed onto the list at q -/
theorem push_tup (hA : A1.in1.handled = none) (hq0 : q ≠ it) (hne : t ≠ it) (hz : zs.length ≤ sizeLine) (h : ∀ s' H', Inv X pins σ (upd (upd H' it Gone) q (.lst zs)) s' → (∀ b, b ≠ it → b ≠ q → H' b = H b) → Rs (.ok (.ret .none)) s') (ht : ∀ H', (∀ b, b ≠ it → b ≠ q → H' b = H b) → SqT X.K H' t zs) :
    ∀ (d i : Nat) (s : Shared) (H' : Hp), i + d = zs.length → (∀ b, b ≠ it → b ≠ q → H' b = H b) → Inv X pins σ H' s → H' q = some (.lst (zs.take i)) → H' it = some (ItT t it i) → codeAny (model X.prog X.w) A1 (.builtin "list.extend.loop" ⟨[.ref q, .ref it, .none], []⟩) Rs s := by
  intro d
  induction d with
  | zero =>
    intro i s H' e same I hq hi
    obtain ⟨its, rv, pl, _⟩ := I.tuple (ht H' same)
    have hlen := rv.length
    refine codeAny_builtin PySem.F.entry_extend_loop ?_; rw [Around.under_plainId PySem.F.plain_extend_loop _]
    refine wpAny_bind (m := pyNext (.ref it)) (tup_end hA ((I.hok it _ hi).1) (show s.heap.IsTuple t its.toArray from pl) (by simp; omega) fun h' eb ex => wpAny_pure ?_)
    have I2 := Inv.turnT (h' := h') (o := Gone) (t' := s.toks) I ⟨i, hi⟩ (fun b u n z => eb b u n z) ex ⟨trivial, ex, fun _ _ _ _ => trivial⟩
    have hq2 : upd H' it Gone q = some (.lst zs) := by rw [upd_ne hq0, hq, show i = zs.length by omega, List.take_length]
    exact h _ H' (by rw [upd_self hq2]; exact I2) same
  | succ d ih =>
    intro i s H' e same I hq hi
    obtain ⟨its, rv, pl, _⟩ := I.tuple (ht H' same)
    have hlen := rv.length
    have lt : i < zs.length := by omega
    obtain ⟨u, hu, ru⟩ := rv.get (i := i) (x := zs[i]) (by simp [lt])
    refine codeAny_builtin PySem.F.entry_extend_loop ?_; rw [Around.under_plainId PySem.F.plain_extend_loop _]
    refine wpAny_bind (m := pyNext (.ref it)) (wpAny_pyNext_tuple_item ((I.hok it _ hi).1) (show s.heap.IsTuple t its.toArray from pl) (x := u) (by simpa using hu) fun h' st' sb => ?_)
    have I2 := Inv.turnT (h' := h') (o := ItT t it (i + 1)) (t' := s.toks) I ⟨i, hi⟩ (fun b u n z => (sb.2 b n).trans z) (let ⟨o, z, _⟩ := st'; ⟨o, z⟩) (itT_ok st')
    have hq2 : upd H' it (ItT t it (i + 1)) q = some (.lst (zs.take i)) := by rw [upd_ne hq0, hq]
    obtain ⟨z, its2, k2, r2, hl2, e2⟩ := I2.lstM hq2
    have hl3 : its2.length = i := by rw [← hl2, List.length_take]; omega
    have ht2 : zs.take (i + 1) = zs.take i ++ [zs[i]] := by simp
    refine wpAny_bind (m := updateSeq q (·.push u)) (wpAny_updateSeq e2 rfl (wpAny_pure ⟨plainId_quiet PySem.F.plain_extend_loop _, ?_⟩) (by rw [List.size_toArray]; omega) (by show (its2.toArray.push u).size ≤ sizeLine + 1; rw [Array.size_push, List.size_toArray]; omega))
    have I3 := I2.lset (f := (·.push u)) (its' := its2 ++ [u]) (ys := zs.take i ++ [zs[i]]) (t' := s.toks) hq2 e2 (by simp) (r2.append (.cons ru .nil)) (by rw [← ht2, List.length_take]; omega)
    refine ih (i + 1) _ _ (by omega) (fun b n1 n2 => by rw [upd_ne n2, upd_ne n1]; exact same b n1 n2) I3 (by rw [upd_same, ht2]) (by rw [upd_ne (Ne.symm hq0), upd_same])
end
/-- nothing is said of the length -/
theorem no_hint {M : Model} {A : Around} {E' : Value → Shared → Prop} {Q : Bool → Shared → Prop} {g : Addr} {ox : Obj} {od : Option Obj} (c : IterO X.K C g) (hK : X.K.In s.heap) (J : PySem.W.InstAt s.heap a ox C od) (h : Q true s) :
    wpAny M A (Builtin.List.listLengthHint (.ref a)) Q E' s := by
  unfold Builtin.List.listLengthHint
  refine wpAny_bind (wpAny_bind (J.type.here ((PySem.W.looks_findIn hK c.nolen).here (PySem.W.KFB.if_not rfl (PySem.W.KFB.if_not rfl ?_)))))
  exact wpAny_bind (wpAny_bind (J.type.here ((PySem.W.looks_findIn hK c.nohint).here (wpAny_pure h))))
theorem call_listO (c : IterO X.K C f) (F : FnOk X.prog X.w X.K X.mg X.base CX k f fd ps sp) (bn : Binds X.K fd ps []) (hx : Passes CX X E) (hr : Room (k + 2) X.A) : CallR X (.type "list") (rListO X.K C sp E) := by
  intro pins s σ H xs us Q I rv h
  obtain ⟨a, dx, fs, e, ha, hq⟩ := h
  subst e
  obtain ⟨u, rfl, ru⟩ := rv.one
  cases ru
  refine callType_codes (Q₁ := fun obj s₁ => obj = .ref s.heap.objs.size ∧ s₁ = { s with heap := s.heap.push { cls := .type "list", data := .seq #[] } }) PySem.F.called_list (PySem.F.typeCall_list_1 _) PySem.F.entry_list_init (code_list_new _ ⟨rfl, rfl⟩) fun obj s₁ h₁ => ?_
  obtain ⟨e1, e2⟩ := h₁
  subst e1 e2
  have fr : H s.heap.objs.size = none := I.fresh
  have hS : (s.heap.push { cls := .type "list", data := .seq #[] }).get? s.heap.objs.size = some { cls := .type "list", data := .seq #[] } := Heap.get?_push_size _ rfl
  refine ⟨⟨_, hS, rfl⟩, PySem.F.args_list_init_2 _ _, ?_⟩
  have I1 := Inv.lnew (its := []) (ys := []) (t' := s.toks) I .nil (Nat.zero_le _)
  show wpAny _ _ (Builtin.List.listItems (.ref s.heap.objs.size) >>= fun old => Builtin.List.listUpdate (.ref s.heap.objs.size) (fun _ => #[]) >>= fun _ => letGo old.toList.reverse >>= fun _ => Builtin.List.listExtendWith (.ref s.heap.objs.size) (.ref a) .none) _ _ _
  refine wpAny_bind (m := Builtin.List.listItems _) ?_; unfold Builtin.List.listItems; refine wpAny_bind (wpAny_seqItems hS rfl (wpAny_pure ?_))
  refine wpAny_bind (m := updateSeq s.heap.objs.size (fun _ => #[])) (wpAny_updateSeq hS rfl (wpAny_bind (wpAny_letGo ?_)))
  have I2 := I1.lset (f := fun _ => #[]) (its := []) (its' := []) (ys := []) (t' := s.toks) upd_same hS rfl .nil (Nat.zero_le _)
  rw [upd_upd] at I2
  have nq : a ≠ s.heap.objs.size := ne_of_none ha fr
  have ha2 : upd H s.heap.objs.size (.lst []) a = some (.ins C dx fs) := by rw [upd_ne nq]; exact ha
  obtain ⟨od, J⟩ := inst_of I2 ha2
  obtain ⟨m0, hF⟩ := I2.fr
  unfold Builtin.List.listExtendWith
  refine wpAny_bind (J.type.here ?_)
  have h1 : Builtin.List.listSameRef (.ref s.heap.objs.size) (.ref a) = false := by simp [Builtin.List.listSameRef, Ne.symm nq]
  have h2 : (Value.ref C == Value.type "list") = false := rfl
  have h3 : (Value.ref C == Value.type "tuple") = false := rfl
  simp only [h1, h2, h3, Bool.or_false, Bool.false_eq_true, if_false]
  have hsp := hq _ fr
  have hl : ([Value.ref a] ++ []).length = ps.length := by rw [← F.len _ _ _ _ hsp]; rfl
  have hr2 : Room k X.A.in1.in1 := (Room.in1 (k := k) (Room.in1 (k := k + 1) hr))
  refine wpAny_bind (PySem.W.owit_iter hF I2.ok.mod.kin J c.it c.is (wpAny_call (codeAny_mono (F.run X.A.in1.in1 X.stack _ _ ⟨[.ref a], []⟩ [.ref a] [.ref a] _ E hr2 I2.env0.in1.in1 (by have z := bn _ [.ref a] I2.kIn hl; simpa using z) (.cons rfl .nil) hsp) fun r s' hr' => ?_)))
  match r, hr' with
  | .error e, hr' => exact hx pins σ _ _ e s' I2 hr'
  | .ok .next, hr' | .ok .brk, hr' | .ok .cont, hr' => exact hr'.elim
  | .ok (.ret u), hr' =>
    obtain ⟨v, H', I', rv2, it, t, zs, ev, ha', hq', hi', ht', hne, hz, q⟩ := I2.after hr'
    subst ev
    cases rv2
    have hit : s'.heap.IsTupleIter it t 0 := (I'.hok it _ hi').1
    have nqi : s.heap.objs.size ≠ it := ne_of hq' hi' (fun z => nomatch z)
    unfold PySem.W.OwitIt
    refine wpAny_specialOf hit.typeIs next_tup ?_
    obtain ⟨od', J'⟩ := inst_of I' ha'
    refine wpAny_bind (wpAny_holding (no_hint c I'.kIn J' ?_))
    have nqt : s.heap.objs.size ≠ t := by
      rintro e
      obtain ⟨its, _, ⟨o, z, cl, _⟩, _⟩ := I'.tuple ht'
      obtain ⟨_, _, _, _, _, e0⟩ := I'.lstM hq'
      rw [← e, e0] at z
      cases z
      exact absurd cl (by show Value.type "list" ≠ .type "tuple"; decide +kernel)
    have go : ∀ s2, Inv X pins σ H' s2 → codeAny (model X.prog X.w) X.A.in1 (.builtin "list.extend.loop" ⟨[.ref s.heap.objs.size, .ref it, .none], []⟩) (wants (fun r s₂ => r = .none ∧ EP X pins σ Q (.ref s.heap.objs.size) s₂) X.xe) s2 := fun s2 J2 => by
      refine push_tup (A1 := X.A.in1) (zs := zs) (t := t) (H := H') hr.hd nqi (Ne.symm hne) hz (fun s3 H3 I3 sm => ⟨rfl, .ref s.heap.objs.size, _, I3, rfl, ?_⟩) (fun H3 sm => ?_) zs.length 0 s2 H' (by omega) (fun _ _ _ => rfl) J2 hq' hi'
      · rcases ht' with (z | ⟨o, z⟩) | z
        · exact .inl (.inl ((sm t (Ne.symm hne) (Ne.symm nqt)).trans z))
        · exact .inl (.inr ⟨o, (sm t (Ne.symm hne) (Ne.symm nqt)).trans z⟩)
        · exact .inr z
      · have e : upd (upd H3 it Gone) s.heap.objs.size (.lst zs) = upd (upd H' it Gone) s.heap.objs.size (.lst zs) := by
          funext b
          by_cases e1 : b = s.heap.objs.size
          · rw [e1, upd_same, upd_same]
          · rw [upd_ne e1, upd_ne e1]
            by_cases e2 : b = it
            · rw [e2, upd_same, upd_same]
            · rw [upd_ne e2, upd_ne e2, sm b e2 e1]
        rw [e]
        exact q
    refine wpAny_ite_split (fun _ => ?_) (fun _ => wpAny_pure ⟨plainId_quiet PySem.F.plain_extend_loop _, go _ I'⟩)
    -- a place is made and given back
    obtain ⟨z, its, k3, r3, hl3, e3⟩ := I'.lstM hq'
    cases r3
    refine wpAny_bind (wpAny_rule (wpAny_bind (m := updateSeq _ (·.push .none) >>= fun _ => updateSeq _ (·.pop)) (wpAny_bind (wpAny_updateSeq e3 rfl ?_))))
    have I3 := I'.lset (f := (·.push Value.none)) (its' := [Value.none]) (ys := [.non]) (t' := s'.toks) hq' e3 (by simp) (.cons rfl .nil) (by rw [List.length_singleton, sizeLine_eq]; decide)
    obtain ⟨z4, its4, k4, r4, hl4, e4⟩ := I3.lstM upd_same
    obtain ⟨u4, rfl, ru4⟩ := r4.one
    refine wpAny_updateSeq e4 rfl ?_ (by show 1 ≤ sizeLine; rw [sizeLine_eq]; decide) (by show 0 ≤ sizeLine + 1; exact Nat.zero_le _)
    have I4 := I3.lset (f := (·.pop)) (its := [u4]) (its' := []) (ys := []) (t' := s'.toks) upd_same e4 (by rfl) .nil (Nat.zero_le _)
    rw [upd_upd, upd_self hq'] at I4
    exact wpAny_pure ⟨plainId_quiet PySem.F.plain_extend_loop _, go _ I4⟩
end
end UL

set_option Elab.async false
set_option linter.all false
set_option maxRecDepth 100000
set_option maxHeartbeats 2000000
/-! zip of two sequences of any two kinds; yield from a list -/
namespace UL
open PySem PySem.Spec PyProof.Rows L2
inductive Kd where | l | t
def Kd.Iter : Kd → Heap → Addr → Addr → Nat → Prop
  | .l, h, it, a, i => h.IsListIter it a i
  | .t, h, it, a, i => h.IsTupleIter it a i
def Kd.Is : Kd → Heap → Addr → Array Value → Prop
  | .l, h, a, xs => h.IsList a xs
  | .t, h, a, xs => h.IsTuple a xs
def Kd.Sq : Kd → PySem.W.Frag → Hp → Addr → List V → Prop
  | .l, K, H, a, xs => SqL K H a xs
  | .t, K, H, a, xs => SqT K H a xs
def Kd.obj : Kd → Addr → Obj
  | .l, a => { cls := .type "list_iterator", data := .fields #[.ref a, .int 0 0] }
  | .t, a => { cls := .type "tuple_iterator", data := .fields #[.ref a, .int 0 0] }
theorem Kd.begins (k : Kd) (a : Addr) (xs : Array Value) : Begins (.ref a) (k.obj a) fun h => k.Is h a xs := match k with
  | .l => begins_list a xs
  | .t => begins_tuple a xs
theorem Kd.start (k : Kd) {h : Heap} {it a : Addr} (e : h.get? it = some (k.obj a)) : k.Iter h it a 0 := match k, e with
  | .l, e => ⟨_, e, rfl, rfl⟩
  | .t, e => ⟨_, e, rfl, rfl⟩
theorem Kd.iterAt (k : Kd) {h h' : Heap} {it a : Addr} {i : Nat} (x : k.Iter h it a i) (f : ∀ o, h.get? it = some o → h'.get? it = some o) : k.Iter h' it a i := match k, x with
  | .l, x => Heap.IsListIter.at x f
  | .t, x => Heap.IsTupleIter.at x f
theorem Kd.isAt (k : Kd) {h h' : Heap} {a : Addr} {xs : Array Value} (x : k.Is h a xs) (f : ∀ o, h.get? a = some o → h'.get? a = some o) : k.Is h' a xs := match k, x with
  | .l, x => Heap.IsList.at x f
  | .t, x => Heap.IsTuple.at x f
theorem Kd.iterObj (k : Kd) {h : Heap} {it a : Addr} {i : Nat} (x : k.Iter h it a i) : ∃ o, h.get? it = some o ∧ ∀ v, o.data ≠ .cell v := match k, x with
  | .l, ⟨o, e, _, d⟩ => ⟨o, e, fun v q => by rw [d] at q; cases q⟩
  | .t, ⟨o, e, _, d⟩ => ⟨o, e, fun v q => by rw [d] at q; cases q⟩
theorem Kd.draws (k : Kd) {prog : Program} {w : World} {A : Around} (hh : A.handled = none) (it a : Addr) (ne : a ≠ it) (xs : Array Value) : Draws prog w A it [it, a] xs.size (fun i v => xs[i]? = some v) (fun i h => k.Iter h it a i ∧ k.Is h a xs) := match k with
  | .l => Draws.list hh it a ne xs
  | .t => Draws.tuple hh it a ne xs
section
variable {X : Cx} {pins : List (Addr × Obj)} {σ : L2.St} {H : Hp} {s : Shared} {a : Addr} {xs ys : List V}
theorem Kd.read (k : Kd) (I : Inv X pins σ H s) (h : k.Sq X.K H a xs) : ∃ its : List Value, Vals xs its ∧ k.Is s.heap a its.toArray := match k, h with
  | .l, h => let ⟨its, r, p, _⟩ := I.list h; ⟨its, r, p.isList⟩
  | .t, h => let ⟨its, r, p, _⟩ := I.tuple h; ⟨its, r, p⟩
theorem Kd.inj (k : Kd) (I : Inv X pins σ H s) (h : k.Sq X.K H a xs) (h' : k.Sq X.K H a ys) : xs = ys := match k, h, h' with
  | .l, h, h' => I.list_inj h h'
  | .t, h, h' => I.tuple_inj h h'
theorem Kd.lt (k : Kd) {h : Heap} {xs : Array Value} (x : k.Is h a xs) : a < h.objs.size := match k, x with
  | .l, ⟨_, e, _⟩ => Heap.lt_size e
  | .t, ⟨_, e, _⟩ => Heap.lt_size e
end
/-- the items of the two at each turn, in new pairs -/
def ItzK (k1 k2 : Kd) (K : PySem.W.Frag) (a b : Addr) : It :=
  ⟨fun i H => ∃ (xs ys : List V) (x y : V), k1.Sq K H a xs ∧ k2.Sq K H b ys ∧ xs[i]? = some x ∧ ys[i]? = some y,
    fun i H v H' => ∃ T x y, v = .ref T ∧ H T = none ∧ H' = upd H T (.tup [x, y]) ∧ (∀ xs, k1.Sq K H a xs → xs[i]? = some x) ∧ ∀ ys, k2.Sq K H b ys → ys[i]? = some y,
    fun i H => ∃ xs ys : List V, k1.Sq K H a xs ∧ k2.Sq K H b ys ∧ i ≤ xs.length ∧ i ≤ ys.length ∧ (xs.length = i ∨ ys.length = i)⟩
theorem turn_zipK {P : Program} {w : World} {K : PySem.W.Frag} {elts : List Expr} {kk : Nat} {tpos : Pos} {k1 k2 : Kd} {a b z TI TO i1 i2 : Addr} (S : ZipSep2 z TI TO i1 i2 [i1, a] [i2, b]) (na : a ≠ i1) (nb : b ≠ i2) :
    Turn P w K (.Tuple elts kk tpos) (ItzK k1 k2 K a b) [z, TI, TO, i1, i2] z (fun i h => IsZip h z TI TO .none ∧ IsTupOf2 h TI (.ref i1) (.ref i2) ∧ (∃ x y, IsTupOf2 h TO x y) ∧ k1.Iter h i1 a i ∧ k2.Iter h i2 b i) where
  mem := by simp
  obj := fun i h st c hc => by
    obtain ⟨hz, hTI, ⟨x, y, hTO⟩, h1, h2⟩ := st
    simp only [List.mem_cons, List.not_mem_nil, or_false] at hc
    rcases hc with q | q | q | q | q <;> subst q
    · exact ⟨_, hz, fun v q => nomatch q⟩
    · exact ⟨_, hTI, fun v q => nomatch q⟩
    · exact ⟨_, hTO, fun v q => nomatch q⟩
    · exact k1.iterObj h1
    · exact k2.iterObj h2
  keep := fun i h h' st k => by
    obtain ⟨hz, hTI, ⟨x, y, hTO⟩, h1, h2⟩ := st
    exact ⟨k z (by simp) _ hz, k TI (by simp) _ hTI, ⟨x, y, k TO (by simp) _ hTO⟩, k1.iterAt h1 fun o q => k i1 (by simp) o q, k2.iterAt h2 fun o q => k i2 (by simp) o q⟩
  item := by
    intro X hP hw hK hc i pins s σ H E I hf st hg
    subst hP hw hK
    obtain ⟨hz, hTI, ⟨x0, y0, hTO⟩, h1, h2⟩ := st
    obtain ⟨xs, ys, x, y, hqx, hqy, hx, hy⟩ := hg
    obtain ⟨its, rv, p⟩ := k1.read I hqx
    obtain ⟨its2, rv2, p2⟩ := k2.read I hqy
    obtain ⟨u, hu, ru⟩ := rv.get hx
    obtain ⟨u2, hu2, ru2⟩ := rv2.get hy
    have hzl : z < s.heap.objs.size := Heap.lt_size hz
    have l1 : i < its.toArray.size := by rw [List.size_toArray]; exact (List.getElem?_eq_some_iff.mp hu).1
    have l2 : i < its2.toArray.size := by rw [List.size_toArray]; exact (List.getElem?_eq_some_iff.mp hu2).1
    have hh : X.A.in1.handled = none := I.ok.hd hc
    refine wpAny_pyNext_zipD2_item S (k1.draws hh i1 a na its.toArray) (k2.draws hh i2 b nb its2.toArray) hz hTI hTO ⟨h1, p⟩ ⟨h2, p2⟩ l1 l2 fun x1 x2 h' tk q1 q2 z' TO' st1 st2 hT hsz hk => ?_
    have e1 : x1 = u := by rw [List.getElem?_toArray, hu] at q1; exact (Option.some.inj q1).symm
    have e2 : x2 = u2 := by rw [List.getElem?_toArray, hu2] at q2; exact (Option.some.inj q2).symm
    subst e1 e2
    refine ⟨_, rfl, wpAny_letOwnedTupleGo_zip (s := { s with heap := h', toks := tk }) z' fun h'' z'' sb => ?_⟩
    have hT2 := (sb.2 _ (Nat.ne_of_gt hzl)).trans hT
    have all : ∀ c o, c ∉ [z, TI, TO, i1, i2] → s.heap.get? c = some o → h''.get? c = some o := fun c o hb q => by
      simp only [List.mem_cons, List.not_mem_nil, or_false, not_or] at hb
      exact (sb.2 c hb.1).trans (hk c o hb.1 hb.2.2.1 hb.2.2.2.1 hb.2.2.2.2 q)
    have I1 := I.turnedNew (ob := .tup [x, y]) (h' := h'') (t' := tk) all hf (Nat.le_refl _) ⟨by show 2 ≤ sizeLine; decide, [x1, x2], .cons ru (.cons ru2 .nil), ⟨_, hT2, rfl, _, rfl⟩⟩
    refine ⟨.ref s.heap.objs.size, _, I1, rfl, ⟨_, x, y, rfl, I.hok.fresh (Nat.le_refl _), rfl, fun l hl => by rw [k1.inj I hl hqx]; exact hx, fun l hl => by rw [k2.inj I hl hqy]; exact hy⟩, ⟨z'', ?_, ⟨x1, x2, ?_⟩, ?_, ?_⟩, fun c hcm => ?_⟩
    · exact (sb.2 _ S.TIz).trans (hk _ _ S.TIz S.TITO S.TIi1 S.TIi2 hTI)
    · exact (sb.2 _ S.TOz).trans TO'
    · exact k1.iterAt st1.1 fun o q => (sb.2 _ S.zi1.symm).trans q
    · exact k2.iterAt st2.1 fun o q => (sb.2 _ S.zi2.symm).trans q
    · rw [upd_ne (fun e => ?_)]
      · exact (hf c hcm).1
      · subst e
        simp only [List.mem_cons, List.not_mem_nil, or_false] at hcm
        obtain ⟨_, e1, _⟩ := k1.iterObj h1; obtain ⟨_, e2, _⟩ := k2.iterObj h2
        have g1 := Heap.lt_size e1; have g2 := Heap.lt_size e2; have g3 := Heap.lt_size hTI; have g4 := Heap.lt_size hTO
        rcases hcm with q | q | q | q | q
        · exact absurd q (Nat.ne_of_gt hzl)
        · exact absurd q (Nat.ne_of_gt g3)
        · exact absurd q (Nat.ne_of_gt g4)
        · exact absurd q (Nat.ne_of_gt g1)
        · exact absurd q (Nat.ne_of_gt g2)
  done := by
    intro X hP hw hK hc i pins s σ H E I hf st hg
    subst hP hw hK
    obtain ⟨hz, hTI, ⟨x0, y0, hTO⟩, h1, h2⟩ := st
    obtain ⟨xs, ys, hqx, hqy, le1, le2, hend⟩ := hg
    obtain ⟨its, rv, p⟩ := k1.read I hqx
    obtain ⟨its2, rv2, p2⟩ := k2.read I hqy
    have l1 : xs.length = its.toArray.size := by rw [List.size_toArray]; exact rv.length
    have l2 : ys.length = its2.toArray.size := by rw [List.size_toArray]; exact rv2.length
    have hh : X.A.in1.handled = none := I.ok.hd hc
    refine wpAny_pyNext_zipD2_end S (k1.draws hh i1 a na its.toArray) (k2.draws hh i2 b nb its2.toArray) hz hTI hTO ⟨h1, p⟩ ⟨h2, p2⟩ (by omega) (by omega) (by omega) fun h' tk hk => ⟨rfl, I.turnedL (t' := tk) (ch := [z, TI, TO, i1, i2]) (fun c o hb q => ?_) hf⟩
    simp only [List.mem_cons, List.not_mem_nil, or_false, not_or] at hb
    exact hk c o hb.1 hb.2.2.1 hb.2.2.2.1 hb.2.2.2.2 q
  self := fun A i s Q E st h => wpAny_pyIter_zip st.1 h
def iZipK (k1 k2 : Kd) (K : PySem.W.Frag) (ta : TA) : TI := fun σ H R => ta σ H fun vs H1 => ∃ a b xs ys, vs = [.ref a, .ref b] ∧ k1.Sq K H1 a xs ∧ k2.Sq K H1 b ys ∧ R (ItzK k1 k2 K a b) H1
theorem zip_it {X : Cx} {pins : List (Addr × Obj)} {σ : L2.St} {H : Hp} {s : Shared} {R : It → Hp → Prop} {elts : List Expr} {kk : Nat} {tpos : Pos} (k1 k2 : Kd) {a b : Addr} {xs ys : List V} (I : Inv X pins σ H s) (hx : k1.Sq X.K H a xs) (hy : k2.Sq X.K H b ys) (q : R (ItzK k1 k2 X.K a b) H) :
    wpAny (model X.prog X.w) X.A (call (.type "zip") [.ref a, .ref b]) (fun v s1 => wpAny (model X.prog X.w) X.A (pyIter v) (PIE X pins σ (.Tuple elts kk tpos) R) X.xe s1) X.xe s := by
  obtain ⟨its, rv, p⟩ := k1.read I hx
  obtain ⟨its2, rv2, p2⟩ := k2.read I hy
  have la := k1.lt p; have lb := k2.lt p2
  refine zip_begins2 (k1.begins a its.toArray) (k2.begins b its2.toArray) p p2 fun h' hz hTI hTO g1 g2 hsz hk => wpAny_pyIter_zip hz ?_
  have ns : ∀ j c : Nat, c < s.heap.objs.size → c ≠ s.heap.objs.size + j := fun j c h => by omega
  have S : ZipSep2 (s.heap.objs.size + 4) (s.heap.objs.size + 2) (s.heap.objs.size + 3) s.heap.objs.size (s.heap.objs.size + 1) [s.heap.objs.size, a] [s.heap.objs.size + 1, b] := by
    have a0 := ns 0 a la; have a1 := ns 1 a la; have a3 := ns 3 a la; have a4 := ns 4 a la
    have b0 := ns 0 b lb; have b3 := ns 3 b lb; have b4 := ns 4 b lb
    generalize s.heap.objs.size = n at *
    refine ⟨?_, ?_, ?_, ?_, ?_, ?_, ?_, ?_, ?_, ?_, ?_, ?_, ?_⟩ <;> (try simp only [List.mem_cons, List.not_mem_nil, or_false, not_or, true_or]) <;> (try trivial) <;> (first | (show ¬ (_ : Nat) = _; omega) | (refine ⟨?_, ?_⟩ <;> (show ¬ (_ : Nat) = _; omega)) | trivial)
  refine ⟨s.heap.objs.size + 4, [s.heap.objs.size + 4, s.heap.objs.size + 2, s.heap.objs.size + 3, s.heap.objs.size, s.heap.objs.size + 1], _, _, H, rfl, I.kept (t' := s.toks) hk, turn_zipK S (by have := ns 0 a la; simpa using this) (ns 1 b lb), ⟨hz, hTI, ⟨_, _, hTO⟩, k1.start g1, k2.start g2⟩, fun c hc => ?_, q⟩
  have hle : s.heap.objs.size ≤ c := by
    simp only [List.mem_cons, List.not_mem_nil, or_false] at hc
    rcases hc with z | z | z | z | z <;> subst z <;> first | exact Nat.le_add_right _ _ | exact Nat.le_refl _
  exact I.fpOk hle (I.hok.fresh hle)
/-- zip(a, b): whatever of lists and tuples they are -/
theorem pi_zipK {X : Cx} {e e2 : Expr} {ta : TA} {p pos tpos : Pos} {elts : List Expr} {kk : Nat} (k1 k2 : Kd) (hg : Gl X "zip") (hm : X.mg "zip" = none) (ha : PA X [e, e2] ta)
    (hs : starEach [e, e2] X.env = (false, eval e X.env) :: starEach [e2] X.env := by rfl) (hpl : (backTo pos (starEach [e2] X.env)).any (·.1) = false := by rfl) :
    PI X (.Tuple elts kk tpos) (.Call (.Name "zip" p) [e, e2] [] pos) (iZipK k1 k2 X.K ta) := by
  refine ⟨fun pins s σ H R I h => Call_ (ld_blt I hg hm boot_zip (callWith_type1 (thn (ha.run pos pins s σ H _ I h) fun us s1 ⟨vs, H1, I1, r1, q1⟩ => ?_) hs hpl))⟩
  obtain ⟨a, b, xs, ys, e, hx, hy, q⟩ := q1
  subst e
  obtain ⟨u, w', rfl, ru, rw'⟩ := vals2 r1
  cases ru; cases rw'
  exact zip_it k1 k2 I1 hx hy q
/-- the same where either kind may come -/
def iZipB (K : PySem.W.Frag) (ta : TA) : TI := fun σ H R => ta σ H fun vs H1 => ∃ a b xs ys k1 k2, vs = [.ref a, .ref b] ∧ Kd.Sq k1 K H1 a xs ∧ Kd.Sq k2 K H1 b ys ∧ R (ItzK k1 k2 K a b) H1
theorem pi_zipB {X : Cx} {e e2 : Expr} {ta : TA} {p pos tpos : Pos} {elts : List Expr} {kk : Nat} (hg : Gl X "zip") (hm : X.mg "zip" = none) (ha : PA X [e, e2] ta)
    (hs : starEach [e, e2] X.env = (false, eval e X.env) :: starEach [e2] X.env := by rfl) (hpl : (backTo pos (starEach [e2] X.env)).any (·.1) = false := by rfl) :
    PI X (.Tuple elts kk tpos) (.Call (.Name "zip" p) [e, e2] [] pos) (iZipB X.K ta) := by
  refine ⟨fun pins s σ H R I h => Call_ (ld_blt I hg hm boot_zip (callWith_type1 (thn (ha.run pos pins s σ H _ I h) fun us s1 ⟨vs, H1, I1, r1, q1⟩ => ?_) hs hpl))⟩
  obtain ⟨a, b, xs, ys, k1, k2, e, hx, hy, q⟩ := q1
  subst e
  obtain ⟨u, w', rfl, ru, rw'⟩ := vals2 r1
  cases ru; cases rw'
  exact zip_it k1 k2 I1 hx hy q
/-- a loop over two sequences of one length that stay as they are -/
theorem for_zipK {K : PySem.W.Frag} {k1 k2 : Kd} {a b : Addr} {xs ys : List V} {g : TG} {tb : TS} {D : Ends} {σ : L2.St} {H : Hp} (hl : xs.length = ys.length) (Pv : Nat → L2.St → Hp → Prop) (h0 : Pv 0 σ H) (hq : ∀ i σ H, Pv i σ H → k1.Sq K H a xs ∧ k2.Sq K H b ys)
    (hs : ∀ (i : Nat) (x y : V) (T : Addr) (σ : L2.St) (H : Hp), xs[i]? = some x → ys[i]? = some y → Pv i σ H → H T = none → g (.ref T) σ (upd H T (.tup [x, y])) fun σ2 H2 => tb { D with nx := Pv (i + 1), ct := Pv (i + 1), bk := D.nx } σ2 H2) (hd : ∀ σ H, Pv xs.length σ H → D.nx σ H) :
    ∃ W : Nat → Nat → L2.St → Hp → Prop, (∃ m, W 0 m σ H) ∧ ∀ i m σ H, W i m σ H →
      ((ItzK k1 k2 K a b).stop i H ∧ D.nx σ H) ∨ ((ItzK k1 k2 K a b).go i H ∧ ∃ N : L2.St → Hp → Prop, (∀ σ' H', N σ' H' → ∃ m', m' < m ∧ W (i + 1) m' σ' H') ∧ ∀ x H', (ItzK k1 k2 K a b).yld i H x H' → g x σ H' fun σ2 H2 => tb { D with nx := N, ct := N, bk := D.nx } σ2 H2) := by
  refine ⟨fun i m σ H => m = xs.length - i ∧ i ≤ xs.length ∧ Pv i σ H, ⟨xs.length, by simp, Nat.zero_le _, h0⟩, ?_⟩
  rintro i m σ H ⟨rfl, hi, p⟩
  obtain ⟨q1, q2⟩ := hq i σ H p
  by_cases lt : i < xs.length
  · have lt2 : i < ys.length := by omega
    refine .inr ⟨⟨xs, ys, xs[i], ys[i], q1, q2, by simp [lt], by simp [lt2]⟩, Pv (i + 1), fun σ' H' p' => ⟨xs.length - (i + 1), by omega, rfl, lt, p'⟩, fun x H' y => ?_⟩
    obtain ⟨T, x1, y1, e, hT, e2, z1, z2⟩ := y
    subst e e2
    exact hs i x1 y1 T σ H (z1 xs q1) (z2 ys q2) p hT
  · have e : i = xs.length := by omega
    subst e
    exact .inl ⟨⟨xs, ys, q1, q2, Nat.le_refl _, by omega, .inl rfl⟩, hd σ H p⟩
end UL

set_option Elab.async false
set_option linter.all false
set_option maxRecDepth 100000
set_option maxHeartbeats 2000000
/-! yield from a list -/
namespace UL
open PySem PySem.Spec PyProof.Rows L2
section
variable {prog : Program} {w : World} {A : Around} {E : Value → Shared → Prop} {s : Shared}
theorem list_next {it l : Addr} {i : Nat} {items : Array Value} {x : Value} {Q : Option Value → Shared → Prop} (hit : s.heap.IsListIter it l i) (hl : s.heap.IsList l items) (hx : items[i]? = some x)
    (hQ : ∀ h', h'.IsListIter it l (i + 1) → Heap.SameBut it s.heap h' → Q (some x) { s with heap := h' }) : wpAny (model prog w) A (callSpecial? (.ref it) "__next__") Q E s := by
  have ⟨o, ho, hc, hd⟩ := hit; have ⟨ol, hol, _, nl, hdl⟩ := hl
  refine wpAny_callSpecial?_slot (name := Str.ofString "__next__") hit.typeIs slot_listiter_next (wpAny_call_entry slot_listiter_next hit.typeIs entry_listiter_next ?_ (args_listiter_next _))
  refine wpAny_bind (m := field (.ref it) 0) (wpAny_field ho hd (x := .ref l) rfl ?_)
  show wpAny _ _ (if (Value.ref l == Value.none) = true then _ else _) _ _ s; rw [if_neg (show ¬ ((Value.ref l == Value.none) = true) from Bool.false_ne_true)]
  refine wpAny_bind (m := field (.ref it) 1) (wpAny_field ho hd (x := .int i 0) rfl (wpAny_bind (m := seqItems? (.ref l)) (wpAny_seqItems hol hdl ?_)))
  simp only [Int.toNat_natCast, hx]
  refine wpAny_bind (wpAny_setField ho hd (by simp) (wpAny_pure ⟨x, rfl, hQ _ ⟨_, Heap.get?_update_self _ ho (Obj.isFreed_of_fields (Obj.data_mapFields hd _)), (Obj.cls_mapFields ..).trans hc, ?_⟩ (Heap.SameBut.update ..)⟩))
  rw [Obj.data_mapFields hd]; simp [rawInt]
theorem list_stop {it l : Addr} {i : Nat} {items : Array Value} {Q : Option Value → Shared → Prop} (hh : A.handled = none) (hit : s.heap.IsListIter it l i) (hl : s.heap.IsList l items) (hx : items[i]? = none)
    (hE : ∀ e h', StopX e h' → Heap.ExtBut it s.heap h' → E e { s with heap := h' }) : wpAny (model prog w) A (callSpecial? (.ref it) "__next__") Q E s := by
  have ⟨o, ho, hc, hd⟩ := hit; have ⟨ol, hol, _, nl, hdl⟩ := hl
  refine wpAny_callSpecial?_slot (name := Str.ofString "__next__") hit.typeIs slot_listiter_next (wpAny_call_entry slot_listiter_next hit.typeIs entry_listiter_next ?_ (args_listiter_next _))
  refine wpAny_bind (m := field (.ref it) 0) (wpAny_field ho hd (x := .ref l) rfl ?_)
  show wpAny _ _ (if (Value.ref l == Value.none) = true then _ else _) _ _ s; rw [if_neg (show ¬ ((Value.ref l == Value.none) = true) from Bool.false_ne_true)]
  refine wpAny_bind (m := field (.ref it) 1) (wpAny_field ho hd (x := .int i 0) rfl (wpAny_bind (m := seqItems? (.ref l)) (wpAny_seqItems hol hdl ?_)))
  simp only [Int.toNat_natCast, hx]
  refine wpAny_bind (wpAny_rule (wpAny_bind (wpAny_setField ho hd (by simp) (wpAny_bind (m := newExc (.type "StopIteration") []) ?_))))
  simp only [newExc, newTuple]
  refine wpAny_bind (wpAny_newObj_type (wpAny_bind (m := firstArgMember _ _) (wpAny_of_eq (a := Value.none) (by first | rfl | (simp only [firstArgMember]; rfl)) (wpAny_newObj_type ?_ (by size_fits)))) (by size_fits))
  simp only [raiseNew]; refine wpAny_bind (wpAny_handled ?_); rw [show A.in1.handled = none from hh]
  refine wpAny_bind (wpAny_pure (wpAny_throw (hE _ _ ⟨_, _, _, rfl, Heap.get?_push_size _ rfl, rfl, rfl, ?_⟩ (((Heap.SameBut.update ..).extBut.push _).push _))))
  first | rfl | (rw [Array.getElem?_append_left (by decide)]; rfl) | kernel_rfl
end
theorem close_list : typeLookup (.type "list_iterator") "close" = pure none := by rw [typeLookup_type, builtinLookup_eq_fast]; kernel_rfl
def tYfLst (te : TE) : TYf := fun σ H Q => te σ H fun x H1 => ∃ a xs, x = .ref a ∧ H1 a = some (.lst xs) ∧ Q xs H1
theorem yf_lst {X : Cx} {e : Expr} {te : TE} (he : PE X e te) : YfE X e (tYfLst te) := by
  refine ⟨fun pins s σ H Q I h => thn (he.run pins s σ H _ I h) fun v s1 ⟨x, H1, I1, r1, a, xs, ex, ha, hq⟩ => ?_⟩
  subst ex
  obtain rfl : v = Value.ref a := r1
  obtain ⟨its, rits, pl, hz⟩ := I1.list (SqL.of ha)
  obtain ⟨ol, hol, hcl, nl, hdl⟩ := id pl.isList
  refine ⟨"list", ⟨ol, hol, hcl⟩, by decide, wpAny_pyIter_list pl.isList ?_⟩
  have lt := Heap.lt_size hol
  have old : ∀ b o, s1.heap.get? b = some o → b ≠ s1.heap.objs.size := fun b o e => Nat.ne_of_lt (Heap.lt_size e)
  refine ⟨s1.heap.objs.size, H1, xs, fun j h => h.IsListIter s1.heap.objs.size a j ∧ h.IsList a its.toArray, rfl, I1.kept (t' := s1.toks) fun b o e => Heap.get?_push_of_some _ e, .inr I1.sz, Nat.ne_of_gt I1.lt, fun y c hy => ?_, I1.fresh, fun p hp => old p.1 _ (I1.pin p hp).1,
    ⟨⟨_, Heap.get?_push_size _ rfl, rfl, rfl⟩, pl.isList.push _⟩, ⟨⟨"list_iterator", fun j h q => ?_, close_list, by decide⟩, fun j h h' q hk => ?_, fun A' j x s2 Q' E' hA hx q hQ => ?_, fun A' s2 Q' E' hA q hE => ?_⟩, hq⟩
  · obtain ⟨v, o, ho, _⟩ := I1.cell y c hy; exact old c o ho
  · obtain ⟨⟨o, ho, hc, _⟩, _⟩ := q; exact ⟨o, ho, hc⟩
  · exact ⟨Heap.IsListIter.at q.1 fun o e => hk _ o (.inl rfl) e, Heap.IsList.at q.2 fun o e => hk _ o (.inr (by rw [ha]; exact fun z => by cases z)) e⟩
  · obtain ⟨u, hu, ru⟩ := rits.get hx
    exact list_next q.1 q.2 (x := u) (by simpa using hu) fun h' q1 hs => hQ u h' s2.toks ru ⟨q1, q.2.extBut hs.extBut (Nat.ne_of_lt lt)⟩ fun b o hb e => hs.extBut b o hb e
  · have e := rits.length
    exact list_stop hA q.1 q.2 (by simp; omega) fun e h' hS hk => hE e h' s2.toks hS fun b o hb eb => hk b o hb eb
end UL

set_option Elab.async false
set_option linter.all false
set_option maxRecDepth 100000
set_option maxHeartbeats 2000000
/-! bundles: a def, a method as they stand; rules for what may be of several kinds -/
namespace UL
open PySem PySem.Spec PyProof.Rows L2

/-! ### operators on values of several kinds -/
section
variable {X : Cx}
abbrev rAddS' : R2 := fun x y H Q => ∃ i j, x = .str i ∧ y = .str j ∧ i.length + j.length ≤ sizeLine ∧ Q (.str (i ++ j)) H
def rAddA (K : PySem.W.Frag) : R2 := fun x y H Q => rI0 (fun i j => .int (i + j)) x y H Q ∨ rAddS' x y H Q ∨ rCatA K x y H Q ∨ rCat x y H Q
theorem op_addA : OpR X (binaryOp .Add) (rAddA X.K) := OpR.or op_add (OpR.or op_add_str (OpR.or op_catA op_cat))
def rMulA (K : PySem.W.Frag) : R2 := fun x y H Q => rI CMul (fun i j => .int (i * j)) x y H Q ∨ rMulS x y H Q ∨ rRepU K x y H Q
theorem op_mulA : OpR X (binaryOp .Mult) (rMulA X.K) := OpR.or op_mul (OpR.or op_mulS op_repU)
def rEqA (K : PySem.W.Frag) : R2 := fun x y H Q => rEq x y H Q ∨ rEqD K x y H Q
def rNeA (K : PySem.W.Frag) : R2 := fun x y H Q => rNe x y H Q ∨ rNeD K x y H Q
theorem op_eqA (hu : X.A.units + 64 < cLine) : OpR X (compareOp .Eq) (rEqA X.K) := OpR.or op_eq (op_eqD hu)
theorem op_neA (hu : X.A.units + 64 < cLine) : OpR X (compareOp .NotEq) (rNeA X.K) := OpR.or op_ne (op_neD hu)
abbrev rInC : R2 := fun x y H Q => ∃ (c : Nat) (z : Str), x = .str ⟨#[c]⟩ ∧ y = .str z ∧ Q (.bl (decide (c ∈ z.cps.toList))) H
abbrev rNInC : R2 := fun x y H Q => ∃ (c : Nat) (z : Str), x = .str ⟨#[c]⟩ ∧ y = .str z ∧ Q (.bl (!decide (c ∈ z.cps.toList))) H
def rInA (K : PySem.W.Frag) : R2 := fun x y H Q => rInC x y H Q ∨ rIn K false x y H Q
def rNInA (K : PySem.W.Frag) : R2 := fun x y H Q => rNInC x y H Q ∨ rIn K true x y H Q
theorem op_inA : OpR X (compareOp .In) (rInA X.K) := OpR.or op_in_sign op_in_seq
theorem op_ninA : OpR X (compareOp .NotIn) (rNInA X.K) := OpR.or op_notIn_sign op_notIn_seq
def rIsNone : R2 := fun x y H Q => y = .non ∧ Q (.bl (decide (x = .non))) H
def rNotNone : R2 := fun x y H Q => y = .non ∧ Q (.bl (!decide (x = .non))) H
theorem op_isNone : OpR X (compareOp .Is) rIsNone := op_isN
theorem op_notNone : OpR X (compareOp .IsNot) rNotNone := op_notN
def rMod : R2 := rI (fun _ j => 0 < j) fun i j => .int (i % j)
def rDivW : R2 := rI CDivW fun i j => .int (i / j)
def rSub_ : R2 := rI0 fun i j => .int (i - j)
def rLt : R2 := rI0 fun i j => .bl (decide (i < j))
def rLe : R2 := rI0 fun i j => .bl (decide (i ≤ j))
def rGt_ : R2 := rI0 fun i j => .bl (decide (j < i))
def rGe_ : R2 := rI0 fun i j => .bl (decide (j ≤ i))
def rPow : R2 := rI CPow fun i j => .int (i ^ j.toNat)
theorem op_modA : OpR X (binaryOp .Mod) rMod := op_mod
theorem op_divA : OpR X (binaryOp .FloorDiv) rDivW := op_fdivW
theorem op_subA : OpR X (binaryOp .Sub) rSub_ := op_sub
theorem op_powA : OpR X (binaryOp .Pow) rPow := op_pow
theorem op_ltA : OpR X (compareOp .Lt) rLt := op_lt
theorem op_leA : OpR X (compareOp .LtE) rLe := op_le
theorem op_gtA : OpR X (compareOp .Gt) rGt_ := op_gt
theorem op_geA : OpR X (compareOp .GtE) rGe_ := op_ge
def rNeg : V → Hp → VK → Prop := rU fun i => .int (-i)
theorem un_negA : UnR X (unaryOp .USub) rNeg := un_neg
/-! ### built-in calls -/
def cLen (K : PySem.W.Frag) : List V → Hp → VK → Prop := fun xs H Q => ∃ x n, xs = [x] ∧ LenV K x H n ∧ Q (.int n) H
theorem call_lenA : CallR X (.builtin "len") (cLen X.K) := call_len
def cAbs : List V → Hp → VK → Prop := fun xs H Q => ∃ i, xs = [.int i] ∧ Q (.int (if i < 0 then -i else i)) H
theorem call_absA : CallR X (.builtin "abs") cAbs := call_abs
def cInt : List V → Hp → VK → Prop := fun xs H Q => ∃ i, xs = [.int i] ∧ Q (.int i) H
theorem call_intA : CallR X (.type "int") cInt := fun pins s σ H xs us Q I r h => call_int1 pins s σ H xs us Q I r (.inl h)
def cStr : List V → Hp → VK → Prop := fun xs H Q => (∃ i, xs = [.int i] ∧ i.natAbs.log2 < 1920 ∧ Q (.str (toString i)) H) ∨ ∃ a, xs = [.str a] ∧ Q (.str a) H
theorem call_strA : CallR X (.type "str") cStr := CallR.or call_str_int SkE.call_str_str
def cList (K : PySem.W.Frag) : List V → Hp → VK → Prop := fun xs H Q => ∃ p ys, xs = [.ref p] ∧ (SqL K H p ys ∨ SqT K H p ys) ∧ ∀ l, H l = none → Q (.ref l) (upd H l (.lst ys))
theorem call_listA : CallR X (.type "list") (cList X.K) := call_list_of
def cTup (K : PySem.W.Frag) : List V → Hp → VK → Prop := fun xs H Q => ∃ p ys, xs = [.ref p] ∧ ((SqL K H p ys ∧ ∀ l, H l = none → Q (.ref l) (upd H l (.tup ys))) ∨ (SqT K H p ys ∧ Q (.ref p) H))
theorem call_tupA : CallR X (.type "tuple") (cTup X.K) := call_tuple_of
end

/-! ### a def of the top, a method, as they stand -/
structure TD (K : PySem.W.Frag) (mg : Str → Option Value) (x : Str) (st : Stmt) : Prop where
  ex : ∃ f fd, Fun K x x st f fd ∧ mg x = some (.ref f)
/-- .. and what it promises -/
structure Dn (P : Program) (w : World) (K : PySem.W.Frag) (mg : Str → Option Value) (base : Heap) (CX : CXT) (k : Nat) (x : Str) (sp : Sp) : Prop where
  ex : ∃ (f : Addr) (fd : FuncData) (ps : List Str), FnOk P w K mg base CX k f fd ps sp ∧ mg x = some (.ref f) ∧ PySem.W.keepIn K (.ref f) = true ∧ Binds K fd ps []
structure MD (K : PySem.W.Frag) (C : Addr) (m qual : Str) (st : Stmt) : Prop where
  ex : ∃ f fd, Fun K m qual st f fd ∧ Meth K C m f
structure Mn (P : Program) (w : World) (K : PySem.W.Frag) (mg : Str → Option Value) (base : Heap) (CX : CXT) (k : Nat) (C : Addr) (m : Str) (sp : Sp) : Prop where
  ex : ∃ (f : Addr) (fd : FuncData) (ps : List Str), FnOk P w K mg base CX k f fd ps sp ∧ Meth K C m f ∧ Binds K fd ps []
section
variable {P : Program} {w : World} {K : PySem.W.Frag} {mg : Str → Option Value} {base : Heap} {C : Addr} {x m qual : Str} {st : Stmt} {N ps : List Str} {k : Nat} {sp : Sp}
abbrev BindOk (x qual : Str) (st : Stmt) (ps : List Str) : Prop := ∀ (kV doc pm : Value) (an : Option Addr) (cdv ct : Value) (us : List Value), us.length = ps.length → bindArgs (PySem.W.fnOf x qual (defArgs st) (defBody st) (defScope st) .none kV doc pm an cdv ct) ⟨us, []⟩ = pure (ps.zip us)
abbrev Body0 (P : Program) (w : World) (K : PySem.W.Frag) (mg : Str → Option Value) (base : Heap) (qual : Str) (st : Stmt) (N : List Str) (k : Nat) (sp : Sp) : Prop :=
  ∀ (f : Addr) (cdv : Value) (A : Around) (outer : List Env) (s : Shared) (H : Hp) (vs : List V) (Q : VK) (E : XK), Room k (A.deeper (envOfC qual (defScope st) s.heap.objs.size f cdv)) → sp vs H Q E →
      ∃ t, PSs (cxOf CX0 P w K mg base N qual (defScope st) f cdv A outer s H E).nox (defBody st) t ∧ t { nx := fun _ H' => Q .non H', rt := Q } (L2.start N vs) H
abbrev BodyX (P : Program) (w : World) (K : PySem.W.Frag) (mg : Str → Option Value) (base : Heap) (qual : Str) (st : Stmt) (N : List Str) (k : Nat) (sp : Sp) : Prop :=
  ∀ (f : Addr) (cdv : Value) (A : Around) (outer : List Env) (s : Shared) (H : Hp) (vs : List V) (Q : VK) (E : XK), Room k (A.deeper (envOfC qual (defScope st) s.heap.objs.size f cdv)) → sp vs H Q E →
      ∃ t, PSs (cxOf (L2.CX P w) P w K mg base N qual (defScope st) f cdv A outer s H E) (defBody st) t ∧ t { nx := fun _ H' => Q .non H', rt := Q } (L2.start N vs) H
theorem TD.dn (D : TD K mg x st) (S : FnScope N ps (defScope st)) (b : BindOk x x st ps) (len : ∀ vs H Q E, sp vs H Q E → vs.length = ps.length) (body : Body0 P w K mg base x st N k sp) : Dn P w K mg base CX0 (k + 1) x sp :=
  let ⟨f, fd, F, hm⟩ := D.ex
  ⟨f, fd, ps, F.ok S len (body f), hm, F.kp, F.binds b⟩
theorem TD.dx (D : TD K mg x st) (S : FnScope N ps (defScope st)) (b : BindOk x x st ps) (len : ∀ vs H Q E, sp vs H Q E → vs.length = ps.length) (body : BodyX P w K mg base x st N k sp) : Dn P w K mg base (L2.CX P w) (k + 1) x sp :=
  let ⟨f, fd, F, hm⟩ := D.ex
  ⟨f, fd, ps, F.okX S len (body f), hm, F.kp, F.binds b⟩
theorem MD.mn (D : MD K C m qual st) (S : FnScope N ps (defScope st)) (b : BindOk m qual st ps) (len : ∀ vs H Q E, sp vs H Q E → vs.length = ps.length) (body : Body0 P w K mg base qual st N k sp) : Mn P w K mg base CX0 (k + 1) C m sp :=
  let ⟨f, fd, F, hm⟩ := D.ex
  ⟨f, fd, ps, F.ok S len (body f), hm, F.binds b⟩
theorem MD.mx (D : MD K C m qual st) (S : FnScope N ps (defScope st)) (b : BindOk m qual st ps) (len : ∀ vs H Q E, sp vs H Q E → vs.length = ps.length) (body : BodyX P w K mg base qual st N k sp) : Mn P w K mg base (L2.CX P w) (k + 1) C m sp :=
  let ⟨f, fd, F, hm⟩ := D.ex
  ⟨f, fd, ps, F.okX S len (body f), hm, F.binds b⟩
end
section
variable {X : Cx} {CX : CXT} {k j : Nat} {C : Addr} {sp : Sp} {E : XK} {x m : Str} {p pos apos : Pos} {e o : Expr} {es : List Expr} {ta : TE} {t : TA}
/-- f(e, ..) -/
theorem pe_d (d : Dn X.prog X.w X.K X.mg X.base CX k x sp) (hr : Room j X.A) (hk : k ≤ j) (hx : Passes CX X E) (hg : Gl X x) (ha : PA X (e :: es) t) (hdb : (x == ("__debug__" : Str)) = false := by decide)
    (he : starEach (e :: es) X.env = (false, eval e X.env) :: starEach es X.env := by rfl) (hpl : (backTo pos (starEach es X.env)).any (·.1) = false := by rfl) : PE X (.Call (.Name x p) (e :: es) [] pos) (tCall sp [] E t) := by
  obtain ⟨f, fd, ps, F, hm, hkp, hb⟩ := d.ex
  exact pe_call F (hr.mono hk) hg hm hkp hb .nil hx ha hdb he hpl
/-- o.m(e, ..), o.m() -/
theorem pe_m {pl : Sem Bool} (d : Mn X.prog X.w X.K X.mg X.base CX k C m sp) (c : Cls X.K C) (hr : Room j X.A) (hk : k ≤ j) (hx : Passes CX X E) (he : PE X o ta) (ha : PA X (e :: es) t)
    (hst : starEach (e :: es) X.env = (false, eval e X.env) :: starEach es X.env := by rfl) (hpl : (backTo pos (starEach es X.env)).any (·.1) = false := by rfl)
    (ht : eval (.Call (.Attribute o m apos) (e :: es) [] pos) X.env = (do
      let ov ← eval o X.env
      standAt apos.atName
      let (f, first) ← holding [ov] (getMethod ov m pl)
      callWith pos f first (backTo pos (starEach (e :: es) X.env)) (backToKw pos (keywordEach [] X.env))) := by rfl) : PE X (.Call (.Attribute o m apos) (e :: es) [] pos) (tMeth C m sp [] E ta t) := by
  obtain ⟨f, fd, ps, F, hm, hb⟩ := d.ex
  exact pe_meth he c hm F (hr.mono hk) hb .nil hx ha hst hpl ht
theorem pe_m' {pl : Sem Bool} (d : Mn X.prog X.w X.K X.mg X.base CX k C m sp) (c : Cls X.K C) (hr : Room j X.A) (hk : k ≤ j) (hx : Passes CX X E) (he : PE X o ta)
    (ht : eval (.Call (.Attribute o m apos) [] [] pos) X.env = (do
      let ov ← eval o X.env
      standAt apos.atName
      let (f, first) ← holding [ov] (getMethod ov m pl)
      callWith pos f first (backTo pos (starEach [] X.env)) (backToKw pos (keywordEach [] X.env))) := by rfl) : PE X (.Call (.Attribute o m apos) [] [] pos) (tMeth C m sp [] E ta tNil) := by
  obtain ⟨f, fd, ps, F, hm, hb⟩ := d.ex
  exact pe_meth0 he c hm F (hr.mono hk) hb .nil hx ht
/-- C(e, ..) -/
structure Kn (P : Program) (w : World) (K : PySem.W.Frag) (mg : Str → Option Value) (base : Heap) (CX : CXT) (k : Nat) (C : Addr) (x : Str) (sp : Sp) : Prop where
  ex : ∃ (f : Addr) (fd : FuncData) (ps : List Str), FnOk P w K mg base CX k f fd ps sp ∧ Mk K C f ∧ Binds K fd ps [] ∧ mg x = some (.ref C)
theorem pe_k (d : Kn X.prog X.w X.K X.mg X.base CX k C x sp) (hr : Room j X.A) (hk : k + 1 ≤ j) (hx : Passes CX X E) (hg : Gl X x) (ha : PA X (e :: es) t) (hdb : (x == ("__debug__" : Str)) = false := by decide)
    (he : starEach (e :: es) X.env = (false, eval e X.env) :: starEach es X.env := by rfl) (hpl : (backTo pos (starEach es X.env)).any (·.1) = false := by rfl) : PE X (.Call (.Name x p) (e :: es) [] pos) (tMake C sp [] E t) := by
  obtain ⟨f, fd, ps, F, M, hb, hm⟩ := d.ex
  exact pe_make M F (hr.mono hk) hg hm hb .nil hx ha hdb he hpl
end

/-! ### what of the heap is kept -/
/-- all but p is as it was -/
def But (p : Addr) (H H' : Hp) : Prop := ∀ b o, H b = some o → b ≠ p → H' b = some o
theorem Same.but {p : Addr} {H H' : Hp} (s : Same H H') : But p H H' := fun b o e _ => s b o e
theorem But.trans {p : Addr} {H H1 H2 : Hp} (a : But p H H1) (b : But p H1 H2) : But p H H2 := fun c o e n => b c o (a c o e n) n
theorem But.refl {p : Addr} (H : Hp) : But p H H := fun _ _ e _ => e
theorem Same.new {H : Hp} {p : Addr} {o : HO} (h : H p = none) : Same H (upd H p o) := fun b u e => by rw [upd_ne (ne_of_none e h)]; exact e
theorem But.at_ {p : Addr} {H : Hp} {o : HO} : But p H (upd H p o) := fun b u e n => by rw [upd_ne n]; exact e
/-- changed at a place that H does not know -/
theorem Same.put {H H' : Hp} {p : Addr} {o : HO} (s : Same H H') (h : H p = none) : Same H (upd H' p o) := fun b u e => by rw [upd_ne (ne_of_none e h)]; exact s b u e
theorem But.put {q : Addr} {H H' : Hp} {p : Addr} {o : HO} (s : But q H H') (h : H p = none) : But q H (upd H' p o) := fun b u e n => by rw [upd_ne (ne_of_none e h)]; exact s b u e n
theorem But.sqL {K : PySem.W.Frag} {p a : Addr} {H H' : Hp} {xs : List V} (s : But p H H') (n : a ≠ p) (h : SqL K H a xs) : SqL K H' a xs := by
  rcases h with (h | ⟨o, h⟩) | h
  · exact .inl (.inl (s _ _ h n))
  · exact .inl (.inr ⟨o, s _ _ h n⟩)
  · exact .inr h
theorem But.sqT {K : PySem.W.Frag} {p a : Addr} {H H' : Hp} {xs : List V} (s : But p H H') (n : a ≠ p) (h : SqT K H a xs) : SqT K H' a xs := by
  rcases h with (h | ⟨o, h⟩) | h
  · exact .inl (.inl (s _ _ h n))
  · exact .inl (.inr ⟨o, s _ _ h n⟩)
  · exact .inr h
theorem Same.sqT {K : PySem.W.Frag} {a : Addr} {H H' : Hp} {xs : List V} (s : Same H H') (h : SqT K H a xs) : SqT K H' a xs := by
  rcases h with (h | ⟨o, h⟩) | h
  · exact .inl (.inl (s _ _ h))
  · exact .inl (.inr ⟨o, s _ _ h⟩)
  · exact .inr h
theorem Same.sqL {K : PySem.W.Frag} {a : Addr} {H H' : Hp} {xs : List V} (s : Same H H') (h : SqL K H a xs) : SqL K H' a xs := Same.seq s h
/-- the pool of drawn ints -/
def Pl (H : Hp) (p : Addr) : Prop := ∃ ns : List Int, H p = some (.lst (ns.map V.int))
theorem Pl.same {H H' : Hp} {p : Addr} (x : Pl H p) (s : Same H H') : Pl H' p := let ⟨ns, e⟩ := x; ⟨ns, s _ _ e⟩
theorem Pl.put {H : Hp} {p q : Addr} {o : HO} (x : Pl H p) (n : p ≠ q) : Pl (upd H q o) p := let ⟨ns, e⟩ := x; ⟨ns, by rw [upd_ne n]; exact e⟩
theorem Pl.ne {H : Hp} {p q : Addr} (x : Pl H p) (h : H q = none) : p ≠ q := let ⟨_, e⟩ := x; ne_of_none e h
theorem But.free {H H' : Hp} {p q : Addr} (s : But p H H') (x : Pl H' p) (h : H' q = none) : H q = none := by
  cases e : H q with
  | none => rfl
  | some o => rw [s q o e (Ne.symm (x.ne h))] at h; cases h
end UL

set_option Elab.async false
set_option linter.all false
set_option maxRecDepth 100000
set_option maxHeartbeats 2000000
/-! readings of the unions at values of known kind -/
namespace UL
open PySem PySem.Spec PyProof.Rows L2
section
variable {X : Cx} {K : PySem.W.Frag} {H : Hp} {Q : VK} {i j : Int} {x y : Str} {a b : Addr}
theorem op_inK (K : PySem.W.Frag) (h : X.K = K) : OpR X (compareOp .In) (rInA K) := h ▸ op_inA
theorem pa_starK (K : PySem.W.Frag) (hK : X.K = K) {e : Expr} {es : List Expr} {p : Pos} {te : TE} {t : TA} (he : PE X e te) (hr : PA X es t) (hs : starEach (.Starred e p :: es) X.env = (true, eval e X.env) :: starEach es X.env := by rfl) : PA X (.Starred e p :: es) (StX.tStar K te t) := hK ▸ StX.pa_star he hr hs
theorem cxK {CX : CXT} {P : Program} {w : World} {mg : Str → Option Value} {base : Heap} {N : List Str} {qual : Str} {scope : Scope} {f : Addr} {cd : Value} {A : Around} {outer : List Env} {s : Shared} {H : Hp} {E : XK} : (cxOf CX P w K mg base N qual scope f cd A outer s H E).K = K := rfl
theorem noxK : (X.nox).K = X.K := rfl
theorem addII : rAddA K (.int i) (.int j) H Q ↔ Q (.int (i + j)) H := by
  simp [rAddA, rI0, rCatA, rCat]
theorem addSS : rAddA K (.str x) (.str y) H Q ↔ (x.length + y.length ≤ sizeLine ∧ Q (.str (x ++ y)) H) := by
  simp [rAddA, rAddS', rI0, rCatA, rCat]
theorem mulII : rMulA K (.int i) (.int j) H Q ↔ (CMul i j ∧ Q (.int (i * j)) H) := by
  simp [rMulA, rI, rMulS, rRepU]
theorem cIntI : cInt [.int i] H Q ↔ Q (.int i) H := by simp [cInt]
theorem cAbsI : cAbs [.int i] H Q ↔ Q (.int (if i < 0 then -i else i)) H := by simp [cAbs]
theorem dpI {d : PyData} : Dp K H (.int i) d ↔ d = .int i := ⟨fun h => by cases h; rfl, fun h => h ▸ .int i⟩
theorem dpS {d : PyData} : Dp K H (.str x) d ↔ d = .str x := ⟨fun h => by cases h; rfl, fun h => h ▸ .str x⟩
theorem eqII : rEqA K (.int i) (.int j) H Q ↔ Q (.bl (decide (i = j))) H := by
  have e : (i == j) = decide (i = j) := rfl
  constructor
  · rintro (⟨_, q⟩ | ⟨d, e', h1, h2, _, _, q⟩)
    · simpa using q
    · rw [dpI] at h1 h2; subst h1 h2; exact q
  · intro q; exact .inl ⟨rfl, by simpa using q⟩
theorem neII : rNeA K (.int i) (.int j) H Q ↔ Q (.bl (!decide (i = j))) H := by
  constructor
  · rintro (⟨_, q⟩ | ⟨d, e', h1, h2, _, _, q⟩)
    · simpa using q
    · rw [dpI] at h1 h2; subst h1 h2; exact q
  · intro q; exact .inl ⟨rfl, by simpa using q⟩
theorem neSS : rNeA K (.str x) (.str y) H Q ↔ Q (.bl (!decide (x = y))) H := by
  have e : (x == y) = decide (x = y) := by rw [Bool.eq_iff_iff]; simp
  constructor
  · rintro (⟨_, q⟩ | ⟨d, e', h1, h2, _, _, q⟩)
    · simpa using q
    · rw [dpS] at h1 h2; subst h1 h2; rw [← e]; exact q
  · intro q; exact .inl ⟨rfl, by simpa using q⟩
/-- an int or a text -/
def fl2 : V → Bool
  | .int _ => true
  | .str x => PyData.strOk x
  | _ => false
def dV : V → PyData
  | .int i => .int i
  | .str x => .str x
  | _ => .none
theorem dV_dp {v : V} (h : fl2 v = true) : Dp K H v (dV v) := by
  cases v <;> first | exact .int _ | exact .str _ | exact nomatch h
theorem dV_all : ∀ {xs : List V}, xs.all fl2 = true → DpAll K H xs (xs.map dV)
  | [], _ => .nil
  | x :: r, h => by
    rw [List.all_cons, Bool.and_eq_true] at h
    exact .cons (dV_dp h.1) (dV_all h.2)
theorem dV_shape : ∀ {xs : List V}, xs.all fl2 = true → PyData.canLayAll0 (xs.map dV) = true ∧ PyData.depthAll (xs.map dV) ≤ 1
  | [], _ => by simp [PyData.canLayAll0, PyData.depthAll]
  | x :: r, h => by
    rw [List.all_cons, Bool.and_eq_true] at h
    have ih := dV_shape (xs := r) h.2
    have h0 : PyData.canLay0 (dV x) = true ∧ PyData.depth (dV x) ≤ 1 := by cases x <;> simp_all [dV, fl2, PyData.canLay0, PyData.depth]
    simp only [List.map_cons, PyData.canLayAll0, PyData.depthAll, h0.1, ih.1, Bool.and_self, true_and]
    omega
theorem dV_eqv : ∀ {xs : List V}, PyData.eqvAll (xs.map dV) (xs.map dV) = true
  | [] => by simp [PyData.eqvAll]
  | x :: r => by
    have ih := dV_eqv (xs := r)
    have h0 : PyData.eqv (dV x) (dV x) = true := by cases x <;> simp [dV, PyData.eqv]
    simp only [List.map_cons, PyData.eqvAll, h0, ih, Bool.and_self]
theorem lst_shape {xs : List V} (hf : xs.all fl2 = true) : SeqAt.shaped (.list (xs.map dV)) = true := by
  have h := dV_shape hf
  have h2 := h.2
  have h1 : PyData.canLay0 (.list (xs.map dV)) = true := by rw [PyData.canLay0]; exact h.1
  have h3 : PyData.depth (.list (xs.map dV)) ≤ 64 := by rw [PyData.depth]; omega
  show (_ && _) = true
  rw [h1, decide_eq_true h3]; rfl
/-- two lists of the same ints and texts -/
theorem eqLL {xs : List V} (hf : xs.all fl2 = true) (ha : SqL K H a xs) (hb : SqL K H b xs) (q : Q (.bl true) H) : rEqA K (.ref a) (.ref b) H Q :=
  .inr ⟨.list (xs.map dV), .list (xs.map dV), .lst ha (dV_all hf), .lst hb (dV_all hf), lst_shape hf, lst_shape hf, by rw [PyData.eqv, dV_eqv]; exact q⟩
theorem neLL {xs : List V} (hf : xs.all fl2 = true) (ha : SqL K H a xs) (hb : SqL K H b xs) (q : Q (.bl false) H) : rNeA K (.ref a) (.ref b) H Q :=
  .inr ⟨.list (xs.map dV), .list (xs.map dV), .lst ha (dV_all hf), .lst hb (dV_all hf), lst_shape hf, lst_shape hf, by rw [PyData.eqv, dV_eqv]; exact q⟩
/-- xs == [] -/
theorem eqL0 {xs : List V} (hf : xs.all fl2 = true) (ha : SqL K H a xs) (hb : SqL K H b []) (q : Q (.bl (decide (xs = []))) H) : rEqA K (.ref a) (.ref b) H Q :=
  .inr ⟨.list (xs.map dV), .list [], .lst ha (dV_all hf), .lst hb .nil, lst_shape hf, lst_shape (xs := []) rfl, by
    have e : PyData.eqv (.list (xs.map dV)) (.list []) = decide (xs = []) := by cases xs <;> simp [PyData.eqv, PyData.eqvAll]
    rw [e]; exact q⟩
theorem fl2_ints {ns : List Int} : (ns.map V.int).all fl2 = true := by simp [fl2]
theorem fl2_strs {ns : List Str} (h : ∀ z ∈ ns, PyData.strOk z = true) : (ns.map V.str).all fl2 = true := by simpa [fl2] using h
/-- isinstance of what is known -/
theorem isiI {t : String} {r : Bool} (hk : PySem.W.kitOne K (.type "int") (.type t) = some r) (q : Q (.bl r) H) : rIsi K [.int i, .ty t] H Q := ⟨_, _, _, _, _, rfl, .ty t, .base (.int i), hk, q⟩
theorem isiS {t : String} {r : Bool} (hk : PySem.W.kitOne K (.type "str") (.type t) = some r) (q : Q (.bl r) H) : rIsi K [.str x, .ty t] H Q := ⟨_, _, _, _, _, rfl, .ty t, .base (.str x), hk, q⟩
theorem lenL {xs : List V} (h : SqL K H a xs) (q : Q (.int xs.length) H) : cLen K [.ref a] H Q := ⟨_, _, rfl, .inl ⟨xs, h, rfl⟩, q⟩
theorem lenT {xs : List V} (h : SqT K H a xs) (q : Q (.int xs.length) H) : cLen K [.ref a] H Q := ⟨_, _, rfl, .inr ⟨xs, h, rfl⟩, q⟩
theorem lenS (h : x.length ≤ sizeLine) (q : Q (.int x.length) H) : cLen K [.str x] H Q := ⟨_, _, rfl, ⟨h, rfl⟩, q⟩
theorem ixL {xs : List V} {v : V} (h : SqL K H a xs) (e : atI xs i = some v) (q : Q v H) : rIx K (.ref a) (.int i) H Q := .inl ⟨a, xs, i, v, rfl, rfl, h, e, q⟩
theorem ixT {xs : List V} {v : V} (h : SqT K H a xs) (e : atI xs i = some v) (q : Q v H) : rIx K (.ref a) (.int i) H Q := .inr (.inl ⟨a, xs, i, v, rfl, rfl, h, e, q⟩)
theorem ixS {c : Nat} (h : x.length ≤ sizeLine) (e : atI x.cps.toList i = some c) (q : Q (.str ⟨#[c]⟩) H) : rIx K (.str x) (.int i) H Q := .inr (.inr ⟨x, i, c, rfl, rfl, h, e, q⟩)
theorem atN {α : Type} {xs : List α} {n : Nat} {v : α} (h : xs[n]? = some v) : atI xs (n : Int) = some v := by
  obtain ⟨l, _⟩ := List.getElem?_eq_some_iff.mp h
  unfold atI ixN
  rw [if_pos (Int.natCast_nonneg n), if_pos (by omega)]
  exact h
theorem chain2 {ta tb tc : TE} {f g : Int → Int → Bool} {σ : L2.St} {i j k : Int} (h1 : ∀ R : VK, R (.int i) H → ta σ H R) (h2 : ∀ R : VK, R (.int j) H → tb σ H R) (h3 : ∀ R : VK, R (.int k) H → tc σ H R) (q : Q (.bl (f i j && g j k)) H) :
    tChain (rI0 fun i j => .bl (f i j)) (rI0 fun i j => .bl (g i j)) ta tb tc σ H Q := by
  refine h1 _ (h2 _ ⟨i, j, rfl, rfl, f i j, rfl, ?_⟩)
  cases e : f i j
  · rw [e] at q; exact q
  · rw [e, Bool.true_and] at q; rw [if_pos rfl]; exact h3 _ ⟨j, k, rfl, rfl, q⟩
end
end UL

set_option Elab.async false
set_option linter.all false
set_option maxRecDepth 100000
set_option maxHeartbeats 2000000
/-! loops as words that a reading stops at -/
namespace UL
open PySem PySem.Spec PyProof.Rows L2
/-- what a for over J wants -/
def FJ (J : It) (g : TG) (tb : TS) (D : Ends) (σ : L2.St) (H : Hp) : Prop := ∃ W : Nat → Nat → L2.St → Hp → Prop, (∃ m, W 0 m σ H) ∧ ∀ i m σ H, W i m σ H →
  (J.stop i H ∧ D.nx σ H) ∨ (J.go i H ∧ ∃ N : L2.St → Hp → Prop, (∀ σ' H', N σ' H' → ∃ m', m' < m ∧ W (i + 1) m' σ' H') ∧ ∀ x H', J.yld i H x H' → g x σ H' fun σ2 H2 => tb { D with nx := N, ct := N, bk := D.nx } σ2 H2)
theorem tFor_eq {wi : TI} {g : TG} {tb : TS} {D : Ends} {σ : L2.St} {H : Hp} : tFor wi g tb D σ H = wi σ H fun J H1 => FJ J g tb D σ H1 := rfl
/-- what a comprehension over J wants of its list at D -/
def LJ (J : It) (g : TG) (tt : TT) (te : TE) (vs : List Nat) (σ : L2.St) (D : Addr) (Qd : Hp → Prop) (H1 : Hp) : Prop := ∃ W : Nat → Nat → Hp → Prop, (∃ m, W 0 m (upd H1 D (.lst []))) ∧ ∀ i m H, W i m H →
  (J.stop i H ∧ Qd H) ∨ (J.go i H ∧ ∃ Nx : Hp → Prop, (∀ H', Nx H' → ∃ m', m' < m ∧ W (i + 1) m' H') ∧ ∀ x H', J.yld i H x H' → g x (wipe σ vs) H' fun σ2 H2 => wipe σ2 vs = wipe σ vs ∧ tt σ2 H2 fun b H3 =>
    if b = true then te σ2 H3 fun y H4 => ∃ acc, H4 D = some (.lst acc) ∧ acc.length < sizeLine ∧ Nx (upd H4 D (.lst (acc ++ [y]))) else Nx H3)
theorem tLc_eq {wi : TI} {g : TG} {tt : TT} {te : TE} {vs : List Nat} {σ : L2.St} {H : Hp} {Q : VK} : tLc wi g tt te vs σ H Q = wi σ H fun J H1 => ∀ D, H1 D = none → LJ J g tt te vs σ D (fun H2 => Q (.ref D) H2) H1 := rfl
theorem iRng1_eq {ta : TA} {σ : L2.St} {H : Hp} {R : It → Hp → Prop} : iRng1 ta σ H R = ta σ H fun vs H1 => ∃ j : Int, vs = [.int j] ∧ -(2 ^ 62) ≤ j ∧ j < 2 ^ 62 ∧ R (Itr 0 j.toNat) H1 := rfl
section
variable {K : PySem.W.Frag} {J : It} {n : Nat} {G : Hp → Prop} {Y : Nat → Hp → V → Hp → Prop} {g : TG} {tb : TS} {D : Ends} {σ : L2.St} {H : Hp} {a b : Addr} {xs ys : List V} {lo : Int}
theorem FJ.range (Pv : Nat → L2.St → Hp → Prop) (h0 : Pv 0 σ H) (hs : ∀ i σ H, i < n → Pv i σ H → g (.int (lo + i)) σ H fun σ2 H2 => tb { D with nx := Pv (i + 1), ct := Pv (i + 1), bk := D.nx } σ2 H2) (hd : ∀ σ H, Pv n σ H → D.nx σ H) : FJ (Itr lo n) g tb D σ H := for_range Pv h0 hs hd
/-- range(j) -/
theorem FJ.rangeI {j : Int} (Pv : Nat → L2.St → Hp → Prop) (hj : 0 ≤ j) (h0 : Pv 0 σ H) (hs : ∀ (i : Nat) σ H, (i : Int) < j → Pv i σ H → g (.int i) σ H fun σ2 H2 => tb { D with nx := Pv (i + 1), ct := Pv (i + 1), bk := D.nx } σ2 H2) (hd : ∀ σ H, Pv j.toNat σ H → D.nx σ H) : FJ (Itr 0 j.toNat) g tb D σ H :=
  for_range Pv h0 (fun i σ H hi p => by have := hs i σ H (by omega) p; simpa using this) hd
theorem FJ.list (Pv : Nat → L2.St → Hp → Prop) (h0 : Pv 0 σ H) (hl : ∀ i σ H, i ≤ xs.length → Pv i σ H → SqL K H a xs)
    (hs : ∀ i x σ H, xs[i]? = some x → Pv i σ H → g x σ H fun σ2 H2 => tb { D with nx := Pv (i + 1), ct := Pv (i + 1), bk := D.nx } σ2 H2) (hd : ∀ σ H, Pv xs.length σ H → D.nx σ H) : FJ (Itl K a) g tb D σ H := for_list Pv h0 hl hs hd
theorem FJ.tup (Pv : Nat → L2.St → Hp → Prop) (h0 : Pv 0 σ H) (hl : ∀ i σ H, i ≤ xs.length → Pv i σ H → SqT K H a xs)
    (hs : ∀ i x σ H, xs[i]? = some x → Pv i σ H → g x σ H fun σ2 H2 => tb { D with nx := Pv (i + 1), ct := Pv (i + 1), bk := D.nx } σ2 H2) (hd : ∀ σ H, Pv xs.length σ H → D.nx σ H) : FJ (Itt K a) g tb D σ H := for_tup Pv h0 hl hs hd
theorem FJ.zip {k1 k2 : Kd} (hl : xs.length = ys.length) (Pv : Nat → L2.St → Hp → Prop) (h0 : Pv 0 σ H) (hq : ∀ i σ H, Pv i σ H → k1.Sq K H a xs ∧ k2.Sq K H b ys)
    (hs : ∀ (i : Nat) (x y : V) (T : Addr) (σ : L2.St) (H : Hp), xs[i]? = some x → ys[i]? = some y → Pv i σ H → H T = none → g (.ref T) σ (upd H T (.tup [x, y])) fun σ2 H2 => tb { D with nx := Pv (i + 1), ct := Pv (i + 1), bk := D.nx } σ2 H2) (hd : ∀ σ H, Pv xs.length σ H → D.nx σ H) :
    FJ (ItzK k1 k2 K a b) g tb D σ H := for_zipK hl Pv h0 hq hs hd
variable {tt : TT} {te : TE} {vs : List Nat} {D : Addr} {Qd : Hp → Prop} {H1 : Hp}
theorem LJ.it (w : Walk J n G Y) (Pv : Nat → Hp → Prop) (h0 : Pv 0 (upd H1 D (.lst []))) (hG : ∀ i H, i ≤ n → Pv i H → G H)
    (hs : ∀ i x H H', i < n → Pv i H → Y i H x H' → g x (wipe σ vs) H' fun σ2 H2 => wipe σ2 vs = wipe σ vs ∧ tt σ2 H2 fun b H3 =>
      if b = true then te σ2 H3 fun y H4 => ∃ acc, H4 D = some (.lst acc) ∧ acc.length < sizeLine ∧ Pv (i + 1) (upd H4 D (.lst (acc ++ [y]))) else Pv (i + 1) H3) (hd : ∀ H, Pv n H → Qd H) : LJ J g tt te vs σ D Qd H1 := lc_it w Pv h0 hG hs hd
end
/-- the inner loop of a comprehension with two fors -/
def NJ (J1 : It) (g1 : TG) (tt1 : TT) (te : TE) (vs1 : List Nat) (σ2 : L2.St) (D : Addr) (Nx : Hp → Prop) (H4 : Hp) : Prop := ∃ W1 : Nat → Nat → Hp → Prop, (∃ m, W1 0 m H4) ∧ ∀ j k H, W1 j k H →
      (J1.stop j H ∧ Nx H) ∨ (J1.go j H ∧ ∃ Nx1 : Hp → Prop, (∀ H', Nx1 H' → ∃ k', k' < k ∧ W1 (j + 1) k' H') ∧ ∀ x H', J1.yld j H x H' → g1 x (wipe σ2 vs1) H' fun σ3 H5 => wipe σ3 vs1 = wipe σ2 vs1 ∧ tt1 σ3 H5 fun b H6 =>
        if b = true then te σ3 H6 fun y H7 => ∃ acc, H7 D = some (.lst acc) ∧ acc.length < sizeLine ∧ Nx1 (upd H7 D (.lst (acc ++ [y]))) else Nx1 H6)
def LJ2 (J : It) (g : TG) (tt : TT) (wi1 : TI) (g1 : TG) (tt1 : TT) (te : TE) (vs vs1 : List Nat) (σ : L2.St) (D : Addr) (Qd : Hp → Prop) (H1 : Hp) : Prop := ∃ W : Nat → Nat → Hp → Prop, (∃ m, W 0 m (upd H1 D (.lst []))) ∧ ∀ i m H, W i m H →
  (J.stop i H ∧ Qd H) ∨ (J.go i H ∧ ∃ Nx : Hp → Prop, (∀ H', Nx H' → ∃ m', m' < m ∧ W (i + 1) m' H') ∧ ∀ x H', J.yld i H x H' → g x (wipe σ vs) H' fun σ2 H2 => wipe σ2 vs = wipe σ vs ∧ tt σ2 H2 fun b H3 =>
    if b = true then wi1 σ2 H3 fun J1 H4 => NJ J1 g1 tt1 te vs1 σ2 D Nx H4 else Nx H3)
theorem tLc2_eq {wi : TI} {g : TG} {tt : TT} {wi1 : TI} {g1 : TG} {tt1 : TT} {te : TE} {vs vs1 : List Nat} {σ : L2.St} {H : Hp} {Q : VK} :
    tLc2 wi g tt wi1 g1 tt1 te vs vs1 σ H Q = wi σ H fun J H1 => ∀ D, H1 D = none → LJ2 J g tt wi1 g1 tt1 te vs vs1 σ D (fun H2 => Q (.ref D) H2) H1 := rfl
section
variable {J : It} {n : Nat} {G : Hp → Prop} {Y : Nat → Hp → V → Hp → Prop} {g g1 : TG} {tt tt1 : TT} {te : TE} {wi1 : TI} {σ : L2.St} {vs vs1 : List Nat} {D : Addr} {Qd : Hp → Prop} {H1 : Hp}
theorem NJ.it (w : Walk J n G Y) (Pv : Nat → Hp → Prop) (h0 : Pv 0 H1) (hG : ∀ i H, i ≤ n → Pv i H → G H)
    (hs : ∀ i x H H', i < n → Pv i H → Y i H x H' → g x (wipe σ vs) H' fun σ2 H2 => wipe σ2 vs = wipe σ vs ∧ tt σ2 H2 fun b H3 =>
      if b = true then te σ2 H3 fun y H4 => ∃ acc, H4 D = some (.lst acc) ∧ acc.length < sizeLine ∧ Pv (i + 1) (upd H4 D (.lst (acc ++ [y]))) else Pv (i + 1) H3) (hd : ∀ H, Pv n H → Qd H) : NJ J g tt te vs σ D Qd H1 := by
  refine ⟨fun i m H => m = n - i ∧ i ≤ n ∧ Pv i H, ⟨n, by simp, Nat.zero_le _, h0⟩, ?_⟩
  rintro i m H ⟨rfl, hi, p⟩
  have q := hG i H hi p
  by_cases hlt : i < n
  · exact .inr ⟨w.goes i H hlt q, Pv (i + 1), fun H' p' => ⟨n - (i + 1), by omega, rfl, hlt, p'⟩, fun x H' y => hs i x H H' hlt p (w.yields i H x H' hlt q y)⟩
  · have e : i = n := by omega
    subst e
    exact .inl ⟨w.stops H q, hd H p⟩
theorem LJ2.it (w : Walk J n G Y) (Pv : Nat → Hp → Prop) (h0 : Pv 0 (upd H1 D (.lst []))) (hG : ∀ i H, i ≤ n → Pv i H → G H)
    (hs : ∀ i x H H', i < n → Pv i H → Y i H x H' → g x (wipe σ vs) H' fun σ2 H2 => wipe σ2 vs = wipe σ vs ∧ tt σ2 H2 fun b H3 =>
      if b = true then wi1 σ2 H3 fun J1 H4 => NJ J1 g1 tt1 te vs1 σ2 D (Pv (i + 1)) H4 else Pv (i + 1) H3) (hd : ∀ H, Pv n H → Qd H) : LJ2 J g tt wi1 g1 tt1 te vs vs1 σ D Qd H1 := by
  refine ⟨fun i m H => m = n - i ∧ i ≤ n ∧ Pv i H, ⟨n, by simp, Nat.zero_le _, h0⟩, ?_⟩
  rintro i m H ⟨rfl, hi, p⟩
  have q := hG i H hi p
  by_cases hlt : i < n
  · exact .inr ⟨w.goes i H hlt q, Pv (i + 1), fun H' p' => ⟨n - (i + 1), by omega, rfl, hlt, p'⟩, fun x H' y => hs i x H H' hlt p (w.yields i H x H' hlt q y)⟩
  · have e : i = n := by omega
    subst e
    exact .inl ⟨w.stops H q, hd H p⟩
end
end UL

set_option Elab.async false
set_option linter.all false
set_option maxRecDepth 100000
set_option maxHeartbeats 2000000
/-! a tuple that is known to have no dict: tuple(list), and its methods -/
namespace UL
open PySem PySem.Spec PyProof.Rows L2
section
variable {X : Cx}
def cTupF (K : PySem.W.Frag) : List V → Hp → VK → Prop := fun xs H Q => ∃ p ys, xs = [.ref p] ∧ SqL K H p ys ∧ ∀ l o, H l = none → o.dict = none → Q (.ref l) (upd H l (.frz o (.tup ys)))
theorem call_tupF : CallR X (.type "tuple") (cTupF X.K) := by
  intro pins s σ H xs us Q I r h
  obtain ⟨p, ys, rfl, hq, q⟩ := h
  obtain rfl := Vals.ref1 r
  obtain ⟨its, r', pl, hz⟩ := I.list hq
  have hlen := r'.length
  refine call_tuple_list pl.isList (fun h' kp => ?_) (by simp only [List.size_toArray] <;> omega)
  have I1 : Inv X pins σ H { s with heap := h' } := I.kept (t' := s.toks) kp
  exact ⟨.ref h'.objs.size, _, I1.laid (t' := s.toks) (fun b o e => Heap.get?_push_of_some _ e) (Nat.le_refl _) (show ObjOk X.prog X.w _ _ _ (.frz { cls := .type "tuple", data := .seq its.toArray } (.tup ys)) from ⟨Heap.get?_push_size _ rfl, hz, its, r', IsTup.new _ _⟩), rfl, q _ _ (I1.hok.fresh (Nat.le_refl _)) rfl⟩
/-- of a tuple without a dict -/
def tBMF (r : V → List V → Hp → VK → Prop) (to : TE) (t : TA) : TE := fun σ H Q => to σ H fun x H1 => (∃ p o ys, x = .ref p ∧ H1 p = some (.frz o (.tup ys)) ∧ o.dict = none) ∧ t σ H1 fun xs H2 => r x xs H2 Q
variable {o e : Expr} {es : List Expr} {to : TE} {t : TA} {name : Str} {apos cpos : Pos} {id : String} {r : V → List V → Hp → VK → Prop}
theorem pe_bmF (slot : Slot "tuple" name id) (hty : typeOf (.builtin id) = pure (.type "method_descriptor")) (hm : MtR X id r) (ho : PE X o to) (ha : PA X (e :: es) t)
    (hbase : attributeBase o name X.env (eval o X.env) = eval o X.env := by rfl)
    (hfew : ((backTo cpos (starEach (e :: es) X.env)).all (fun x => !x.1) && (backToKw cpos (keywordEach [] X.env)).all (fun x => x.1.isSome)
      && decide ((e :: es).length + ([] : List Keyword).length + (if ([] : List Keyword).isEmpty then 0 else 1) < 30)) = true := by rfl)
    (hline : (apos.endLine == cpos.line) = true := by rfl) (hs : starEach (e :: es) X.env = (false, eval e X.env) :: starEach es X.env := by rfl) (hplain : (backTo cpos (starEach es X.env)).any (·.1) = false := by rfl) :
    PE X (.Call (.Attribute o name apos) (e :: es) [] cpos) (tBMF r to t) := by
  refine ⟨fun pins s σ H Q I h => ?_⟩
  refine wpAny_Call_method_late hbase hfew hline rfl (thn (ho.run pins s σ H _ I h) fun v s1 ⟨x, H1, I1, r1, ⟨p, ob, ys, ex, hp, hd⟩, q1⟩ => ?_)
  subst ex
  cases r1
  obtain ⟨e1, hl, its, rv, ht⟩ := I1.hok p _ hp
  obtain ⟨o2, e2, hc2, _⟩ := ht
  refine ⟨"tuple", id, PySem.F.plainAttrs_tuple, slot, hty, ⟨o2, e2, hc2⟩, fun a ea => ?_, ?_⟩
  · cases ea; exact ⟨ob, e1, hd⟩
  have hA := ha.run cpos pins s1 σ H1 _ I1 q1
  rw [hs] at hA ⊢
  refine Calls.callWith_builtin (by show (false || (backTo cpos (starEach es X.env)).any (·.1)) = false; rw [hplain] <;> rfl) (Calls.evalArgs_plain ?_)
  exact thn hA fun us s2 ⟨vs, H2, I2, r2, q2⟩ => hm pins s2 σ H2 (.ref p) vs (.ref p) us Q I2 rfl r2 q2
end
end UL

set_option Elab.async false
set_option linter.all false
set_option maxRecDepth 100000
set_option maxHeartbeats 2000000
/-! bundles: own __getitem__, __iter__, a property, a generator method -/
namespace UL
open PySem PySem.Spec PyProof.Rows L2
structure Gn (P : Program) (w : World) (K : PySem.W.Frag) (mg : Str → Option Value) (base : Heap) (CX : CXT) (k : Nat) (C : Addr) (sp : Sp) : Prop where
  ex : ∃ (f : Addr) (fd : FuncData) (ps : List Str), FnOk P w K mg base CX k f fd ps sp ∧ GetO K C f ∧ Binds K fd ps []
structure Itn (P : Program) (w : World) (K : PySem.W.Frag) (mg : Str → Option Value) (base : Heap) (CX : CXT) (k : Nat) (C : Addr) (sp : Sp) : Prop where
  ex : ∃ (f : Addr) (fd : FuncData) (ps : List Str), FnOk P w K mg base CX k f fd ps sp ∧ IterO K C f ∧ Binds K fd ps []
structure Pn (P : Program) (w : World) (K : PySem.W.Frag) (mg : Str → Option Value) (base : Heap) (CX : CXT) (k : Nat) (C : Addr) (x : Str) (sp : Sp) : Prop where
  ex : ∃ (p g : Addr) (fd : FuncData) (ps : List Str), FnOk P w K mg base CX k g fd ps sp ∧ PropOf K C x p g ∧ Binds K fd ps []
structure GMn (P : Program) (w : World) (K : PySem.W.Frag) (mg : Str → Option Value) (base : Heap) (k : Nat) (C : Addr) (m : Str) (sp : SpG) : Prop where
  ex : ∃ (f : Addr) (fd : FuncData) (ps : List Str), GFn P w K mg base k f fd ps sp ∧ Meth K C m f ∧ Binds K fd ps []
section
variable {P : Program} {w : World} {K : PySem.W.Frag} {mg : Str → Option Value} {base : Heap} {CX : CXT} {C : Addr} {m qual : Str} {st : Stmt} {N ps : List Str} {k : Nat} {sp : Sp} {spg : SpG}
theorem Mn.gn (d : Mn P w K mg base CX k C "__getitem__" sp) (h : ∀ f, PySem.W.findIn K (.ref C) "__getitem__" = some (some (.ref f)) → PySem.W.fnIn K f = true) : Gn P w K mg base CX k C sp :=
  let ⟨f, fd, ps, F, M, B⟩ := d.ex
  ⟨f, fd, ps, F, ⟨M.at_, h f M.at_, M.fn⟩, B⟩
theorem MD.fnin (D : MD K C m qual st) : ∀ f, PySem.W.findIn K (.ref C) m = some (some (.ref f)) → PySem.W.fnIn K f = true := by
  intro f hf
  obtain ⟨f0, fd, F, M⟩ := D.ex
  obtain ⟨oc, od, kV, doc, pm, an, cdv, ct, osl, e, lk, hcd⟩ := F.ex
  have h2 := hf.symm.trans M.at_
  cases h2
  unfold PySem.W.fnIn
  rw [lk]
theorem Mn.itn (d : Mn P w K mg base CX k C "__iter__" sp) (h1 : PySem.W.findIn K (.ref C) "__len__" = some none) (h2 : PySem.W.findIn K (.ref C) "__length_hint__" = some none) : Itn P w K mg base CX k C sp :=
  let ⟨f, fd, ps, F, M, B⟩ := d.ex
  ⟨f, fd, ps, F, ⟨M.at_, M.fn, h1, h2⟩, B⟩
abbrev BodyG (P : Program) (w : World) (K : PySem.W.Frag) (mg : Str → Option Value) (base : Heap) (qual : Str) (st : Stmt) (N : List Str) (k : Nat) (sp : SpG) : Prop :=
  ∀ (f : Addr) (cdv : Value) (A : Around) (outer : List Env) (s : Shared) (H : Hp) (vs : List V) (Q : List V → Hp → Prop) (E : XK) (pn : List (Addr × Obj)), Room k (A.deeper (envOfC qual (defScope st) s.heap.objs.size f cdv)) → sp vs H Q E →
      ∃ t, GSs (gcxOf P w K mg base N qual (defScope st) f cdv A outer s H E pn) (defBody st) t ∧ t { nx := fun ys _ H' => Q ys H', rt := fun ys v H' => v = .non ∧ Q ys H' } [] (L2.start N vs) H
theorem MD.gm (D : MD K C m qual st) (S : GScope N ps (defScope st)) (b : BindOk m qual st ps) (len : ∀ vs H Q E, spg vs H Q E → vs.length = ps.length) (body : BodyG P w K mg base qual st N k spg) : GMn P w K mg base (k + 1) C m spg := by
  obtain ⟨f, fd, F, M⟩ := D.ex
  have hb := F.binds b
  obtain ⟨oc, od, kV, doc, pm, an, cdv, ct, osl, e, lk, hcd⟩ := F.ex
  subst e
  exact ⟨f, _, ps, gfn_of lk hcd S len fun A outer s H vs Q E pn hr h => body f cdv A outer s H vs Q E pn hr h, M, hb⟩
end
section
variable {X : Cx} {CX : CXT} {k j : Nat} {C : Addr} {sp : Sp} {spg : SpG} {E : XK} {x m : Str} {p pos apos : Pos} {e o : Expr} {es : List Expr} {ta tb : TE} {t : TA}
theorem pe_sub_ {ea eb : Expr} (d : Gn X.prog X.w X.K X.mg X.base CX k C sp) (hr : Room j X.A) (hk : k + 1 ≤ j) (hx : Passes CX X E) (ha : PE X ea ta) (hb : PE X eb tb)
    (hs : ∀ o i, subscripted eb true o i = runValue (.builtin "lifetime.subscript" ⟨[o, i], []⟩)) : PE X (.Subscript ea eb pos) (tSubO C sp E ta tb) := by
  obtain ⟨f, fd, ps, F, c, B⟩ := d.ex
  exact pe_subO ha hb c F (hr.mono hk) B hx hs
theorem call_listOn (d : Itn X.prog X.w X.K X.mg X.base CX k C sp) (hr : Room j X.A) (hk : k + 2 ≤ j) (hx : Passes CX X E) : CallR X (.type "list") (rListO X.K C sp E) := by
  obtain ⟨f, fd, ps, F, c, B⟩ := d.ex
  exact call_listO c F B hx (hr.mono hk)
theorem pe_p {f : Str} (d : Pn X.prog X.w X.K X.mg X.base CX k C f sp) (c : Cls X.K C) (hr : Room j X.A) (hk : k + 1 ≤ j) (hx : Passes CX X.nox E) (he : PE X e ta) (hab : attributeBase e f X.env (eval e X.env) = eval e X.env) : PE X (.Attribute e f pos) (tProp C sp [] E ta) := by
  obtain ⟨p, g, fd, ps, F, hp, B⟩ := d.ex
  exact pe_prop he c hp F (hr.mono hk) B .nil hx hab
theorem pgen_m {E : XK} {pl : Sem Bool} (d : GMn X.prog X.w X.K X.mg X.base k C m spg) (c : Cls X.K C) (hr : Room j X.A) (hk : k ≤ j) (he : PE X o ta)
    (ht : eval (.Call (.Attribute o m apos) [] [] pos) X.env = (do
      let ov ← eval o X.env
      standAt apos.atName
      let (f, first) ← holding [ov] (getMethod ov m pl)
      callWith pos f first (backTo pos (starEach [] X.env)) (backToKw pos (keywordEach [] X.env))) := by rfl) : PGen X k (.Call (.Attribute o m apos) [] [] pos) (tMethG C m spg [] E ta tNil) E := by
  obtain ⟨f, fd, ps, F, M, B⟩ := d.ex
  exact pgen_meth0 he c M F (hr.mono hk) B .nil ht
theorem gcxK {P : Program} {w : World} {K : PySem.W.Frag} {mg : Str → Option Value} {base : Heap} {N : List Str} {qual : Str} {scope : Scope} {f : Addr} {cd : Value} {A : Around} {outer : List Env} {s : Shared} {H : Hp} {E : XK} {pn : List (Addr × Obj)} : (gcxOf P w K mg base N qual scope f cd A outer s H E pn).K = K := rfl
theorem noStop0 {K : PySem.W.Frag} : NoStop K E0 := fun _ _ _ h => h.elim
end
end UL

set_option Elab.async false
set_option linter.all false
set_option maxRecDepth 100000
set_option maxHeartbeats 4000000
/-! super().__init__(x) of an own class over ValueError: the wrapper bound to the instance, at the library's level -/
namespace UV
open PySem PySem.W PySem.Calls PyProof.Rows
abbrev wr : Value := .builtin "ValueError.__init__"
abbrev bv (a : Addr) : Obj := { cls := .type "method-wrapper", dict := none, data := .fields #[wr, .ref a], slots := #[] }
abbrev su (D a C : Addr) : Obj := { cls := .type "super", dict := none, data := .fields #[.ref D, .ref a, .ref C], slots := #[] }
theorem ty_wr : typeOf wr = pure (.type "wrapper_descriptor") := by show builtinType _ = _; rw [builtinType_eq_fast]; kernel_rfl
theorem nm_wr : (kfb_private% "nameAndClass") wr = (pure (("__init__" : Str), Value.type "ValueError") : Sem (Str × Value)) := by kernel_rfl
section
variable {P : Program} {w : World} {M : Model} {A : Around} {E : Value → Shared → Prop} {h : Heap} {g : Array GenState} {d : Drawn} {t : Nat} {os : OsState}
theorem get_wr {a C : Addr} {R : Fin → Shared → Prop} (is : W.Looks M h (isInstance (.ref a) (.type "ValueError")) true) (q : R (.done (.ret (.ref h.objs.size))) ⟨h.push (bv a), g, d, t, os⟩) : wpAny M A (Builtin.«wrapper_descriptor.__get__» ⟨[wr, .ref a, .ref C], []⟩) R E ⟨h, g, d, t, os⟩ := by
  unfold Builtin.«wrapper_descriptor.__get__»
  refine wpAny_bind (wpAny_of_eq (a := (wr, some (.ref a), some (.ref C))) (by first | rfl | kernel_rfl) ?_); show wpAny M A ((kfb_private% "checkInstance") wr (.ref a) >>= fun _ => newFields "method-wrapper" [wr, .ref a] >>= fun r => ret r) R E _
  refine wpAny_bind ?_; show wpAny M A ((kfb_private% "nameAndClass") wr >>= _) _ E _
  refine wpAny_bind (wpAny_of_eq nm_wr ?_); show wpAny M A (isInstance (.ref a) (.type "ValueError") >>= _) _ E _
  exact wpAny_bind (is.at (KFB.if_not rfl (wpAny_pure (wpAny_bind (wpAny_newObj_type (wpAny_pure q))))))
theorem sup_get {so D a C : Addr} {m0 m1 : List Value} {K : Frag} {tk : Tok} {R : Fin → Shared → Prop} (e : h.get? so = some (su D a C)) (no : W.Looks (model P w) h (opaqueClassAbove (.ref C)) none) (mr : W.Looks (model P w) h (mroOf (.ref C)) m0) (cut : (m0.dropWhile (· != .ref D)).drop 1 = m1)
    (X : K.In h) (al : alongIn K "__init__" m1 = some (some wr)) (ne : a ≠ C) (is : W.Looks (model P w) h (isInstance (.ref a) (.type "ValueError")) true) (q : R (.done (.ret (.ref h.objs.size))) ⟨h.push (bv a), g, d, t, os⟩) :
    wpAny (model P w) A (Builtin.«super.__getattribute__» ⟨[.ref so, .str "__init__" tk], []⟩) R E ⟨h, g, d, t, os⟩ := by
  have l1 := ESX.slot_wd.lookup
  have nq : (Value.ref a == Value.ref C) = false := by simp [ne]
  have t1 := ty_wr
  have t2 : Shared.TypeIs ⟨h, g, d, t, os⟩ wr "wrapper_descriptor" := ty_wr
  have dt : (su D a C).data = .fields #[.ref D, .ref a, .ref C] := rfl
  have k0 : (#[.ref D, .ref a, .ref C] : Array Value)[0]? = some (.ref D) := rfl
  have k1 : (#[.ref D, .ref a, .ref C] : Array Value)[1]? = some (.ref a) := rfl
  have k2 : (#[.ref D, .ref a, .ref C] : Array Value)[2]? = some (.ref C) := rfl
  have hn : (("__init__" : Str) == ("__class__" : Str)) = false := by decide
  unfold Builtin.«super.__getattribute__»
  repeat (first | (with_reducible refine wpAny_field e dt k0 ?_) | (with_reducible refine wpAny_field e dt k1 ?_) | (with_reducible refine wpAny_field e dt k2 ?_) | (with_reducible refine ks_wpAny_notOpaque no ?_) | (with_reducible refine Looks.at mr ?_; rw [cut]) | (refine ks_forIn_along X (fun _ _ => rfl) rfl ?_ al) | (with_reducible refine wpAny_call_entry ESX.slot_wd t2 ESX.entry_wd ?_ (ESX.args_wd _ _ _)) | (with_reducible refine get_wr is ?_) | (with_reducible refine ⟨_, rfl, ?_⟩) | (simp only [hn, nq, Bool.or_false, Bool.false_eq_true, if_false]) | wp_step | dsimp only)
  all_goals exact q
theorem sup_meth {so D a C : Addr} {m0 m1 : List Value} {K : Frag} {pl : Sem Bool} {R : Value × List Value → Shared → Prop} (e : h.get? so = some (su D a C)) (no : W.Looks (model P w) h (opaqueClassAbove (.ref C)) none) (mr : W.Looks (model P w) h (mroOf (.ref C)) m0) (cut : (m0.dropWhile (· != .ref D)).drop 1 = m1)
    (X : K.In h) (al : alongIn K "__init__" m1 = some (some wr)) (ne : a ≠ C) (is : W.Looks (model P w) h (isInstance (.ref a) (.type "ValueError")) true) (q : R (.ref h.objs.size, []) ⟨h.push (bv a), g, d, t + 1, os⟩) : wpAny (model P w) A (getMethod (.ref so) "__init__" pl) R E ⟨h, g, d, t, os⟩ := by
  have l1 := F.ks_slot_super_ga.lookup
  have ty : ∀ t', (⟨h, g, d, t', os⟩ : Shared).TypeIs (.ref so) "super" := fun _ => ⟨_, e, rfl⟩
  unfold getMethod
  refine wpAny_bind (wpAny_specialOf (ty _) l1 ?_); show wpAny _ _ (if (Manifest.canonical "super.__getattribute__" != "object.__getattribute__") = true then _ else _) _ _ _
  rw [if_pos F.ks_canon_super_ga]; unfold getAttr getAttrBy
  refine wpAny_bind (wpAny_bind (wpAny_mkText (wpAny_holding (wpAny_bind (wpAny_typeOf (ty _) (wpAny_bind (wpAny_of_eq l1 ?_))))))); show wpAny _ _ (getAttrByItsOwn (.ref so) (.str "__init__" t) (.type "super") (.builtin "super.__getattribute__") true false) _ _ _
  unfold getAttrByItsOwn hookBefore callGetattribute boundAndCalled
  refine wpAny_bind (wpAny_of_eq (show (if onTheHeap (.type "super") then typeLookup (.type "super") "__getattr__" else pure none) = pure none from rfl) (wpAny_bind (wpAny_attempt (wpAny_holding ?_)))); show wpAny _ _ (bindSpecial (.builtin "super.__getattribute__") (.ref so) >>= _) _ _ _
  refine wpAny_bind (wpAny_of_eq (F.ks_slot_super_ga.bind _) (wpAny_mono (Q := fun v s' => v = .ref h.objs.size ∧ s' = ⟨h.push (bv a), g, d, t + 1, os⟩) (E := fun _ _ => False) (wpAny_call_entry F.ks_slot_super_ga (ty _) F.ks_entry_super_ga (sup_get e no mr cut X al ne is ⟨_, rfl, rfl, rfl⟩) (F.ks_gaArgs_super _ _)) (fun v s' hv => ?_) fun _ _ z => z.elim))
  obtain ⟨rfl, rfl⟩ := hv; exact wpAny_pure (wpAny_pure q)
end
section
variable {P : Program} {w : World} {M : Model} {A : Around} {E : Value → Shared → Prop} {s : Shared}
theorem cw0 {pos : Pos} {u a : Addr} {args : List (Bool × Sem Value)} {Q : Value → Shared → Prop} (pl : args.any (·.1) = false)
    (q : wpAny M A (evalArgs (.ref u) true args []) (fun r s₁ => s₁.heap.get? u = some (bv a) ∧ wpAny M A (call (.ref u) ([] ++ r.pos) r.kw) Q E s₁) E s) : wpAny M A (callWith pos (.ref u) [] args []) Q E s := by
  unfold callWith
  refine wpAny_bind (wpAny_holding (wpAny_mono q (fun r s₁ z => wpAny_bind (wpAny_standAt ?_)) fun _ _ x => x)); obtain ⟨o, z⟩ := z
  simp only [pl, List.any_nil, Bool.or_false]
  refine wpAny_bind (m := keeperOf (.ref u)) ?_; unfold keeperOf
  refine wpAny_bind (wpAny_load o ?_); simp only [bv, show (Value.type "method-wrapper" != Value.type "method") = true by decide, show (Value.type "method-wrapper" == Value.type "builtin_function_or_method" || Value.type "method-wrapper" == Value.type "method-wrapper") = true by decide, if_true]
  exact wpAny_pure (wpAny_bind (wpAny_mono z (fun r s₂ hr => wpAny_bind (wpAny_holding (wpAny_point (wpAny_pure hr)))) fun _ _ x => x))
theorem cw_bv {pos : Pos} {u a : Addr} {env : Env} {e : Expr} {es : List Expr} {Q : Value → Shared → Prop} (q : wpAny M A (spliced (backTo pos (starEach (e :: es) env))) (fun vs s₁ => s₁.heap.get? u = some (bv a) ∧ wpAny M A (call (.ref u) vs) Q E s₁) E s)
    (he : starEach (e :: es) env = (false, eval e env) :: starEach es env := by rfl) (pl : (backTo pos (starEach es env)).any (·.1) = false := by rfl) : wpAny M A (callWith pos (.ref u) [] (backTo pos (starEach (e :: es) env)) []) Q E s := by
  rw [he] at q ⊢
  exact cw0 (a := a) (by show (false || (backTo pos (starEach es env)).any (·.1)) = false; rw [pl]; rfl) (evalArgs_plain q)
end
section
variable {P : Program} {w : World} {A : Around} {E : Value → Shared → Prop} {h : Heap} {g : Array GenState} {d : Drawn} {t : Nat} {os : OsState} {nm q : Str} {C N : Addr} {bs bm : List Value} {hdct : Bool} {sn : List Str} {sub : List Value} {ab : Bool} {col : Option Bool} {dd : Option Addr} {k0 k1 k2 k3 k5 : Option Value}
theorem chk_bv (hm : HandSPX.refsVE bm = true) {e : Addr} {oe : Obj} {us : List Value} {Q : Unit → Shared → Prop} (hC : h.get? C = some (excClassObj nm q C N bs bm hdct sn sub ab col dd k0 k1 k2 k3 k5 "ValueError.__new__")) (he : h.get? e = some oe) (hc : oe.cls = .ref C) (z : Q () ⟨h, g, d, t, os⟩) :
    wpAny (model P w) A (checkBoundCall "ValueError.__init__" ⟨.ref e :: us, []⟩) Q E ⟨h, g, d, t, os⟩ := by
  have F := PySem.F.excBase_ValueError
  have f1 := F.noStar
  simp only [checkBoundCall, F.initKind, F.initRow]
  repeat (first | (with_reducible refine wpAny_loadPart_at he ?_; rw [hc]) | with_reducible refine wpAny_loadPart_at hC ?_ | wp_step)
  refine wpAny_onRaise ?_; rw [show ∀ (x y : String) (i : Nat), Bind.check ⟨.positional, "*", "ValueError", .self, [⟨"args", .varPos, false⟩]⟩ x y i (List.map (fun z => z.fst) ({ pos := Value.ref e :: us } : Args).kw) = pure () from fun x y i => check_star_args _ _ _ _ _ _]
  exact wpAny_pure z
theorem call_bv (hm : HandSPX.refsVE bm = true) {u e t0 : Addr} {us : List Value} {Q : Value → Shared → Prop} (hC : h.get? C = some (excClassObj nm q C N bs bm hdct sn sub ab col dd k0 k1 k2 k3 k5 "ValueError.__new__")) (he : h.get? e = some (HandSPX.excO C t0)) (hu : h.get? u = some (bv e)) (hl : us.length ≤ sizeLine)
    (z : ∀ h' t1, (∀ b o, b ≠ e → h.get? b = some o → h'.get? b = some o) → h'.get? e = some (HandSPX.excO C t1) → Q .none ⟨h', g, d, t, os⟩) : wpAny (model P w) A (call (.ref u) us) Q E ⟨h, g, d, t, os⟩ := by
  refine wpAny_call (codeAny_of_tree ?_); show wpAny _ A.in1 (callAny (.ref u) ⟨us, []⟩) _ _ _
  simp only [callAny]; refine wpAny_bind (wpAny_load hu ?_)
  simp only [bv, show (Value.type "method-wrapper" == Value.type "method" || Value.type "method-wrapper" == Value.type "builtin_function_or_method" || Value.type "method-wrapper" == Value.type "method-wrapper") = true by decide, if_true]
  refine W.KFB.if_so (by decide) (wpAny_bind (chk_bv hm hC he rfl (wpAny_bind (wpAny_pure (wpAny_pure ⟨Code.quiet_builtin _ (by decide +kernel), codeAny_builtin F.excBase_ValueError.initEntry ?_⟩)))))
  rw [Around.under_plainId F.excBase_ValueError.init.plain _]
  wp_walk
  refine z _ h.objs.size (fun b o nb ob => (Heap.get?_update_other _ _ (Ne.symm nb)).trans (Heap.get?_push_of_some _ ob)) ?_
  rw [Heap.get?_update_self _ (Heap.get?_push_of_some _ he) rfl] <;> rfl
end
end UV

set_option Elab.async false
set_option linter.all false
set_option maxRecDepth 100000
set_option maxHeartbeats 4000000
/-! super().__init__(x) as the first statement of an exception's __init__, over the layer -/
namespace UV
open PySem PySem.W PySem.Calls PyProof.Rows L2
structure SupF (P : Program) (K : PySem.W.Frag) (mg : Str → Option Value) (C f c cc : Addr) (fd : FuncData) : Prop where
  fn : ∃ oc od osl, K.lookup f = some ⟨oc, od, .func fd, osl⟩
  par : ∃ ar, (fd.params.posonlyargs ++ fd.params.args).head? = some ar ∧ ar.arg = "self"
  code : ∃ ccl cdd vs ccs file tf, K.lookup c = some ⟨ccl, cdd, .fields vs, ccs⟩ ∧ vs[2]? = some (.str file tf) ∧ ((P.main.file : Str) == file) = true
  top : (P.main.scope.names.lookup ("super" : Str)).isSome = false
  cell : ∃ cl cld csl, K.lookup cc = some ⟨cl, cld, .cell (some (.ref C)), csl⟩
  nos : mg "super" = none
  sub : PySem.W.mroIn K C (.ref C) = some true
  op : PySem.W.nsIn K cStatics "thirdparty.any" = some none
  al : PySem.W.ks_superIn K C C "__init__" = some (some wr)
section
variable {X : Cx} {pins : List (Addr × Obj)} {σ : L2.St} {H : Hp} {s : Shared}
theorem pin1 {u : Addr} {o : Obj} (I : Inv X pins σ H s) (e : s.heap.get? u = some o) (n : H u = none) (l : u ≠ X.env.locals) (f : u ∉ X.fs) (d : ∀ v, o.data ≠ .cell v) : Inv X ((u, o) :: pins) σ H s :=
  ⟨I.ok, I.os, I.bare, I.base, I.loc, I.cell, I.free, I.freeC, fun p hp => (List.mem_append.mp hp).elim (fun z => I.pin p (List.mem_append_left _ z)) fun z => (List.mem_cons.mp z).elim (fun w => w ▸ ⟨e, n, l, f, d⟩) fun w => I.pin p (List.mem_append_right _ w), I.hok, I.len⟩
theorem unpin1 {q : Addr × Obj} (I : Inv X (q :: pins) σ H s) : Inv X pins σ H s :=
  ⟨I.ok, I.os, I.bare, I.base, I.loc, I.cell, I.free, I.freeC, fun p hp => (List.mem_append.mp hp).elim (fun z => I.pin p (List.mem_append_left _ z)) fun z => I.pin p (List.mem_append_right _ (List.mem_cons_of_mem _ z)), I.hok, I.len⟩
theorem sup_stmt {C f c cc a : Addr} {fd : FuncData} {body : List Stmt} {e : Expr} {ta : TA} {p0 p1 p2 p3 p4 : Pos} {R : List V → Hp → Prop} {Q : Flow → Shared → Prop} (T : OexC X.K C) (F : SupF X.prog X.K X.mg C f c cc fd)
    (hfu : X.env.func = some f) (hco : X.env.code = .ref c) (hce : X.env.cells.lookup ("__class__" : Str) = some cc) (hks : X.env.kindOf "super" = some .globalImplicit) (hkc : X.env.kindOf "__class__" = some .free) (hka : X.env.kindOf "self" = some .local)
    (hN : X.N[0]? = some ("self" : Str)) (I : Inv X pins σ H s) (h0 : σ[0]? = some (some (.ref a))) (ha : H a = some (exo a C none)) (he : PA X [e] ta) (h : ta σ H fun vs H1 => vs.length ≤ 1000 ∧ H1 a = some (exo a C none) ∧ R vs H1)
    (q : ∀ s' y H1, Inv X pins σ H1 s' → R y H1 → Q .next s') (hi : interactive X.env = false := by rfl) (hs : swapsWith (.Call (.Attribute (.Call (.Name "super" p0) [] [] p1) "__init__" p2) [e] [] p3) none p4.line X.env = pure false := by rfl)
    (hst : starEach [e] X.env = (false, eval e X.env) :: starEach [] X.env := by rfl)
    {pl : Sem Bool} (hev : eval (.Call (.Attribute (.Call (.Name "super" p0) [] [] p1) "__init__" p2) [e] [] p3) X.env = (do
      let ov ← attributeBase (.Call (.Name "super" p0) [] [] p1) "__init__" X.env (eval (.Call (.Name "super" p0) [] [] p1) X.env)
      standAt p2.atName
      let (f, first) ← holding [ov] (getMethod ov "__init__" pl)
      callWith p3 f first (backTo p3 (starEach [e] X.env)) []) := by rfl) :
    _root_.PySem.wpAt (model X.prog X.w) X.A (.func body X.env) (exec (.Expr (.Call (.Attribute (.Call (.Name "super" p0) [] [] p1) "__init__" p2) [e] [] p3) p4) X.env) Q X.xe s := by
  obtain ⟨nm, qn, N, bs, bm, sn, sub, ab, col, dd, k0, k1, k2, k3, k5, hC, hbm⟩ := T.cls
  obtain ⟨oc, od, osl, lf⟩ := F.fn
  obtain ⟨ar, hp, har⟩ := F.par
  obtain ⟨ccl, cdd, vs, ccs, file, tf, lc, hvs, hfile⟩ := F.code
  obtain ⟨cl, cld, csl, lcc⟩ := F.cell
  obtain ⟨mb, hb1, hb2⟩ := I.mod.blt
  refine ks_wpAt_Expr_any (ks_wpAt_MethodCall (pl := pl) (ks_wpAt_super_base hks hkc (by decide) hfu (I.kIn _ _ lf) rfl hp hco (I.kIn _ _ lc) rfl hvs hfile F.top ?_) hev) hi hs
  refine ks_loadName_global I.ok.kind hks (loadGlobal_builtin (by rw [I.ok.glob]; exact I.mod.glob.keeps I.bk) F.nos (by rw [I.ok.blt]; exact hb1.keeps I.bk) ((hb2 _ (by decide)).trans (by decide +kernel)) ⟨rfl, ?_⟩)
  refine wpAny_loadName_free I.ok.kind hkc hce ⟨_, I.kIn _ _ lcc, rfl⟩ ?_
  obtain ⟨ml, hns, hlk⟩ := I.loc
  obtain ⟨u0, ru, lk⟩ := hlk 0 "self" (.ref a) hN h0 (.inl hka)
  obtain rfl : u0 = Value.ref a := ru
  have hv : ml "self" = some (.ref a) := lk.elim (fun z => z.2) fun z => by
    rcases z.1 with y | y <;> · rw [hka] at y; cases y
  rw [har]
  refine wpAny_loadName_local I.ok.kind hka hns hv ?_
  obtain ⟨t1, ho⟩ := exo_at I.hok ha
  have hcl : PySem.W.clsIn X.K C = some { name := nm, bases := bs, mro := .ref C :: bm, ns := N, qualname := qn, hasDict := true, slotNames := sn, subclasses := sub, abstract := ab, collection := col, hasDel := false } := by unfold PySem.W.clsIn; rw [hC] <;> rfl
  have kin := I.kIn
  have hfr := I.hok
  obtain ⟨hp0, g, dr, tk, os⟩ := s
  refine ks_wpAny_isType_cls (kin _ _ hC) rfl ⟨rfl, ks_wpAny_call_super (kin _ _ hC) rfl ho rfl (fun c z => by cases z) (looks_mroIn kin F.sub) fun h1 e1 kp1 => ?_⟩
  have I1 : L2.Inv X pins σ H ⟨h1, g, dr, tk, os⟩ := I.kept (t' := tk) kp1
  have hal : alongIn X.K "__init__" bm = some (some wr) := by
    have z := F.al
    unfold ks_superIn at z
    rw [hcl, Option.bind_some, ESX.drop_own] at z
    exact z
  have J1 : InstAt h1 a (HandSPX.excO C t1) C none := ⟨kp1 _ _ ho, rfl, rfl, trivial⟩
  have hbm2 : HandSPX.refsVE (.ref C :: bm) = true := hbm
  have hve : PySem.W.mroIn X.K C (.type "ValueError") = some true := by
    unfold PySem.W.mroIn
    rw [hcl, Option.bind_some, if_neg (by rw [HandSPX.refsVE_ne hbm2]; decide), HandSPX.refsVE_contains "ValueError" _ hbm2]
    decide +kernel
  have kin1 := I1.kIn
  refine sup_meth e1 (looks_opaque kin1 F.op) ((looks_clsIn kin1 hcl).andThen .now) (ESX.drop_own C bm) kin1 hal (ks_ne kin1 J1 hcl) (J1.type.andThen (looks_mroIn kin1 hve)) ?_
  have eb : (h1.push (bv a)).get? h1.objs.size = some (bv a) := Heap.get?_push_size _ rfl
  have I2 : L2.Inv X pins σ H ⟨h1.push (bv a), g, dr, tk + 1, os⟩ := I1.kept (t' := tk + 1) fun b o z => Heap.get?_push_of_some _ z
  have I3 := pin1 I2 eb (I1.hok.fresh (Nat.le_refl _)) (Nat.ne_of_gt I1.lt) (I1.nofs (Nat.le_refl _)) (fun v z => nomatch z)
  refine cw_bv (a := a) (thn (he.run p3 _ _ σ H _ I3 h) fun us s2 hz => ?_) hst rfl
  obtain ⟨vs2, H1, I4, r4, hl4, ha4, hr4⟩ := hz
  have hu4 := (I4.pin _ (List.mem_append_right _ List.mem_cons_self)).1
  have kin4 := I4.kIn
  obtain ⟨t4, ho4⟩ := exo_at I4.hok ha4
  obtain ⟨hp4, g4, d4, tk4, os4⟩ := s2
  refine ⟨hu4, call_bv hbm (kin4 _ _ hC) ho4 hu4 (by rw [← r4.length, sizeLine_eq]; omega) fun h5 t5 kp5 ho5 => ?_⟩
  have I5 := I4.write (t' := tk4) (x := a) (e := a) (o := exo a C none) (by rw [ha4]; exact True.intro) (.inl rfl) kp5 ⟨_, ho5⟩ (exo_ok ho5)
  rw [UL.upd_self ha4] at I5
  exact q _ vs2 H1 (unpin1 I5) hr4
end
end UV

set_option Elab.async false
set_option linter.all false
set_option maxRecDepth 100000
set_option maxHeartbeats 4000000
/-! an exception's __init__ that begins with super().__init__(x): its promise by its body -/
namespace UV
open PySem PySem.W PySem.Calls PyProof.Rows L2 NdefX
abbrev supSt (e : Expr) (p0 p1 p2 p3 p4 : Pos) : Stmt := .Expr (.Call (.Attribute (.Call (.Name "super" p0) [] [] p1) "__init__" p2) [e] [] p3) p4
section
variable {CX : CXT} {P : Program} {w : World} {K : PySem.W.Frag} {mg : Str → Option Value} {base : Heap} {k : Nat} {f c cc C : Addr} {name qual : Str} {params : Arguments} {e : Expr} {p0 p1 p2 p3 p4 : Pos} {rest : List Stmt} {scope : Scope}
  {kV doc pm ct oc : Value} {an od : Option Addr} {osl : Array (Option Value)} {N ps : List Str} {sp : Sp}
abbrev supNF (name qual : Str) (params : Arguments) (e : Expr) (p0 p1 p2 p3 p4 : Pos) (rest : List Stmt) (scope : Scope) (cc c : Addr) : NF := ⟨name, qual, params, supSt e p0 p1 p2 p3 p4 :: rest, scope, [("__class__", cc)], c⟩
theorem fn_sup (lk : K.lookup f = some ⟨oc, od, .func (fnX name qual params (supSt e p0 p1 p2 p3 p4 :: rest) scope [("__class__", cc)] .none kV doc pm an (.ref c) ct), osl⟩) (hcd : codeIn K (.ref c) qual = true) (S : NScope N ("self" :: ps) ["__class__"] scope) (T : OexC K C)
    (F : SupF P K mg C f c cc (fnX name qual params (supSt e p0 p1 p2 p3 p4 :: rest) scope [("__class__", cc)] .none kV doc pm an (.ref c) ct)) (hks : scope.names.lookup ("super" : Str) = some .globalImplicit) (len : ∀ vs H Q E, sp vs H Q E → vs.length = ("self" :: ps : List Str).length)
    (hbody : ∀ (A : Around) (outer : List Env) (s : Shared) (H : Hp) (vs : List V) (Q : VK) (E : XK), Room k (A.deeper (envF (supNF name qual params e p0 p1 p2 p3 p4 rest scope cc c) f s.heap.objs.size)) → sp vs H Q E →
      ∃ (a : Addr) (ta : TA) (t : TS), vs.head? = some (.ref a) ∧ H a = some (exo a C none) ∧ PA (ncx CX P w K mg base N (supNF name qual params e p0 p1 p2 p3 p4 rest scope cc c) f A outer s H E) [e] ta ∧
        PSs (ncx CX P w K mg base N (supNF name qual params e p0 p1 p2 p3 p4 rest scope cc c) f A outer s H E) rest t ∧
        ta (startF N vs [some (.ref C)]) H fun us H1 => us.length ≤ 1000 ∧ H1 a = some (exo a C none) ∧ t { nx := fun _ H' => Q .non H', rt := Q } (startF N vs [some (.ref C)]) H1)
    (hi : ∀ L, interactive (envF (supNF name qual params e p0 p1 p2 p3 p4 rest scope cc c) f L) = false := by intro _; rfl) (hs : ∀ env, swapsWith (.Call (.Attribute (.Call (.Name "super" p0) [] [] p1) "__init__" p2) [e] [] p3) none p4.line env = pure false := by intro _; rfl)
    (hst : ∀ env, starEach [e] env = (false, eval e env) :: starEach [] env := by intro _; rfl) {pl : Sem Bool} (hev : ∀ env, eval (.Call (.Attribute (.Call (.Name "super" p0) [] [] p1) "__init__" p2) [e] [] p3) env = (do
      let ov ← attributeBase (.Call (.Name "super" p0) [] [] p1) "__init__" env (eval (.Call (.Name "super" p0) [] [] p1) env)
      standAt p2.atName
      let (f, first) ← holding [ov] (getMethod ov "__init__" pl)
      callWith p3 f first (backTo p3 (starEach [e] env)) []) := by intro _; rfl) :
    FnOk P w K mg base CX (k + 1) f (fnX name qual params (supSt e p0 p1 p2 p3 p4 :: rest) scope [("__class__", cc)] .none kV doc pm an (.ref c) ct) ("self" :: ps) sp := by
  refine ⟨len, fun A outer s H args us vs Q E hr e0 hb r hsp => ?_⟩
  have hl := len _ _ _ _ hsp
  have KX : K.In s.heap := e0.mod.kin.keeps fun b o z => (e0.bs b o z).1
  have lim : s.heap.NoLimit := e0.mod.nolimit.keeps fun b o z => (e0.bs b o z).1
  obtain ⟨cl, cld, csl, lcc⟩ := F.cell
  have hcc := e0.bs _ _ (e0.mod.kin _ _ lcc)
  have CA : CellsAt [(("__class__" : Str), cc)] ["__class__"] [some (V.ref C)] s.heap H := by
    have one : ∀ y c', List.lookup y [(("__class__" : Str), cc)] = some c' → c' = cc ∧ y = "__class__" := fun y c' z => by
      by_cases hy : y = "__class__"
      · subst hy; simp at z; exact ⟨z.symm, rfl⟩
      · have : (y == ("__class__" : Str)) = false := by simpa using hy
        simp [List.lookup, this] at z
    refine ⟨rfl, fun y c' z => ?_, fun x y c' zx zy => ?_, fun i y z => ?_⟩
    · obtain ⟨rfl, _⟩ := one y c' z
      exact ⟨hcc.2, _, _, hcc.1, rfl⟩
    · rw [(one x c' zx).2, (one y c' zy).2]
    · cases i with
      | zero =>
        cases z
        exact ⟨cc, by simp [List.lookup], fun v zv => by cases zv; exact ⟨.ref C, rfl, _, hcc.1, rfl⟩⟩
      | succ i => simp at z
  refine codeAny_call_function hr.depth (KX _ _ lk) rfl S.co S.gen rfl (codeRec_of KX hcd) (hb _ _ _ _ ?_)
  refine wpAny_newFunctionEnv S.nocell (fun ⟨n, _⟩ hy => S.par n (List.of_mem_zip hy).1) (fun h₁ hns hsb => ⟨lim.fresh _ hsb, ?_⟩) S.kind
  show codeAny _ _ (.func (supSt e p0 p1 p2 p3 p4 :: rest) (envF (supNF name qual params e p0 p1 p2 p3 p4 rest scope cc c) f s.heap.objs.size)) _ _
  refine ks_codeAny_funcAt ?_
  have kp : ∀ b o, s.heap.get? b = some o → h₁.get? b = some o := fun b o z => hsb.extBut b o (Nat.ne_of_lt (Heap.lt_size z)) (Heap.get?_push_of_some _ z)
  obtain ⟨a, ta, t, hva, ha, pa, ht, hq⟩ := hbody A outer s H vs Q E (hr.deeper _) hsp
  have I : L2.Inv (ncx CX P w K mg base N (supNF name qual params e p0 p1 p2 p3 p4 rest scope cc c) f A outer s H E) [] (startF N vs [some (.ref C)]) H { s with heap := h₁, toks := s.toks + ((("self" : Str) :: ps).zip us).length } := inv_startN S hr.hd e0 hl r CA hns kp
  have hN : N[0]? = some ("self" : Str) := by
    have z := congrArg (fun l : List Str => l[0]?) S.pre
    simp only [List.cons_append, List.getElem?_cons_zero] at z
    rw [List.getElem?_take_of_lt (by simp)] at z
    exact z
  have h0 : (startF N vs [some (V.ref C)])[0]? = some (some (.ref a)) := by
    cases vs with
    | nil => cases hva
    | cons v r => cases hva; rfl
  have hkF : ∀ (x : Str) (nk : NameKind), scope.names.lookup x = some nk → (ncx CX P w K mg base N (supNF name qual params e p0 p1 p2 p3 p4 rest scope cc c) f A outer s H E).env.kindOf x = some nk := fun x nk z => z
  refine ks_wpAt_mono (ks_wpAt_execs_cons (sup_stmt (X := ncx CX P w K mg base N (supNF name qual params e p0 p1 p2 p3 p4 rest scope cc c) f A outer s H E) (R := fun _ H1 => t { nx := fun _ H' => Q .non H', rt := Q } (startF N vs [some (V.ref C)]) H1) T F rfl rfl (by show List.lookup _ [_] = _; simp [List.lookup]) (hkF _ _ hks) (hkF _ _ (S.frk _ List.mem_cons_self)) (hkF _ _ (S.par _ List.mem_cons_self)) hN I h0 ha pa hq
    (fun s' us' H1 I1 h1 => _root_.PySem.wpAt_of_wpAny (ht.run [] s' _ H1 _ I1 h1)) (hi _) (hs _) (hst _) (hev _))) (fun fl s' hs => ?_) fun e s' hs => hs
  have fin : ∀ {σ' : L2.St} {H' : Hp} {v : V} {u : Value}, L2.Inv (ncx CX P w K mg base N (supNF name qual params e p0 p1 p2 p3 p4 rest scope cc c) f A outer s H E) [] σ' H' s' → L2.RelV v u → Q v H' → CE outer P w H s Q u s' :=
    fun {σ' H' v u} J rv q => ⟨v, H', J.os, J.bare, J.base, J.hok, rv, q⟩
  cases fl with
  | next => obtain ⟨σ', H', J, z⟩ := hs; exact fin (v := V.non) (u := Value.none) J rfl z
  | ret u => obtain ⟨v, σ', H', J, rv, z⟩ := hs; exact fin J rv z
  | brk => obtain ⟨_, _, _, z⟩ := hs; exact z.elim
  | cont => obtain ⟨_, _, _, z⟩ := hs; exact z.elim
end
end UV

set_option Elab.async false
set_option linter.all false
set_option maxRecDepth 100000
set_option maxHeartbeats 4000000
/-! isinstance of a caught exception that has a dict; several except clauses, each `as n` -/
namespace UV
open PySem PySem.W PySem.Calls PyProof.Rows L2
section
variable {P : Program} {w : World} {A : Around} {E : Value → Shared → Prop} {s : Shared} {K : Frag} {a D : Addr} {ox : Obj} {dd : Obj}
theorem cls_exc {Q : Option Value → Shared → Prop} (c : ExcC K D) (X : K.In s.heap) (I : InstAt s.heap a ox D (some dd)) (q : Q (some (.ref D)) { s with toks := s.toks + 1 }) : wpAny (model P w) A (getAttr? (.ref a) "__class__") Q E s := by
  have hc : (clsIn K D).isSome = true := by obtain ⟨cd, e, _⟩ := any_some c.hd; rw [e]; rfl
  have fo : findObj K D (some dd) "__class__" = some (.bind (.builtin "getset_descriptor.__get__") (.builtin "object.__class__")) := findObj_data hc c.ha c.hn c.ht
  obtain ⟨hp, g, d, t, os⟩ := s
  have k0 := I.type (M := model P w)
  have k1 := looks_findIn (M := model P w) X c.hg
  have k2 := looks_findIn (M := model P w) X c.hk
  have k3 := looks_find (M := model P w) X I fo
  have sb : Looks (model P w) hp (isInstance (.ref a) (.type "BaseException")) true := k0.andThen (looks_subIn X c.hs)
  have b2 : (Value.builtin "BaseException.__getattribute__" == Value.builtin "object.__getattribute__") = false := by decide +kernel
  have b1 : (onTheHeap (Value.ref D) && Value.builtin "BaseException.__getattribute__" == Value.builtin "object.__getattribute__") = false := by rw [b2]; rfl
  unfold getAttr? getAttrBy? getAttrBy
  refine wpAny_bind (wpAny_mkText (wpAny_bind (wpAny_attempt (wpAny_holding (wpAny_bind (k0.at (wpAny_bind (k1.at ?_)))))))); show wpAny _ _ (if (onTheHeap (Value.ref D) && Value.builtin "BaseException.__getattribute__" == Value.builtin "object.__getattribute__") = true then _ else _) _ _ _
  rw [b1, if_neg Bool.false_ne_true]; unfold getAttrByItsOwn hookBefore
  refine wpAny_bind ?_; rw [if_pos (show onTheHeap (Value.ref D) = true from rfl)]
  refine k2.at (wpAny_bind (wpAny_attempt (wpAny_holding ?_))); unfold callGetattribute
  rw [show (false && onTheHeap (Value.builtin "BaseException.__getattribute__")) = false from rfl, if_neg Bool.false_ne_true]; unfold boundAndCalled
  rw [PySem.F.excAttr_ValueError.ga.bind (.ref a)]
  refine wpAny_bind (wpAny_pure ?_); show wpAny _ _ (call (.builtin "BaseException.__getattribute__") [.ref a, .str "__class__" t]) _ _ _
  refine wpAny_call (codeAny_call_builtin PySem.F.excAttr_ValueError.ga.plain PySem.F.entry_bexc_ga (@check_slot (model P w) _ _ ⟨hp, g, d, t + 1, os⟩ "BaseException.__getattribute__" "BaseException" "__getattribute__" (.ref a) [.str "__class__" t] [] _ (by decide +kernel) (by decide +kernel) sb (PySem.F.args_bexc_ga (.ref a) (.str "__class__" t)) ?_))
  unfold Builtin.«object.__getattribute__»
  refine wpAny_bind (wpAny_of_eq (a := ((Value.ref a : Value), [Value.str "__class__" t])) (by first | rfl | (simp only [slotArgs]; rfl)) (wpAny_bind (wpAny_pure (wpAny_bind (k0.at (wpAny_bind (k3.at ?_))))))); show wpAny _ _ (holding [Value.builtin "object.__class__"] (call (.builtin "getset_descriptor.__get__") [.builtin "object.__class__", .ref a, .ref D]) >>= ret) _ _ _
  refine wpAny_bind (wpAny_holding (wpAny_call (class_get (s := ⟨hp, g, d, t + 1, os⟩) (ox := ox) (od := some dd) X I c.hm (wpAny_pure ?_)))); show wpAny _ _ (handedOut (.ref D)) _ _ _
  rw [handedOut_of (v := .ref D) rfl]
  first | exact wpAny_pure (wpAny_pure q) | exact wpAny_pure q | exact wpAny_pure (wpAny_bind (wpAny_pure (wpAny_pure q)))
theorem kx_exc (c : ExcC K D) : KitX K (.ref a) (.ref D) (fun h => InstAt h a ox D (some dd)) where
  ty := fun _ _ _ I => I.type
  it := fun _ _ X _ => by
    obtain ⟨cd, hcd, _⟩ := any_some c.hd
    unfold clsIn at hcd
    split at hcd
    · rename_i c' d' cd' sl' ho
      intro A' Q' E' s' k q; unfold isType loadHead
      exact wpAny_bind (wpAny_loadPart (k _ _ (X _ _ ho)) (wpAny_pure q))
    · cases hcd
  ne := fun h tp dx its n sl X htp => by
    obtain ⟨cd, hcd, _⟩ := any_some c.hd
    refine Bool.eq_false_iff.mpr fun q => ?_
    have e : D = tp := Value.ref.inj (beq_iff_eq.mp q)
    subst e
    unfold clsIn at hcd
    split at hcd
    · rename_i c' d' cd' sl' ho
      have z := (X _ _ ho).symm.trans htp; cases z
    · cases hcd
  ca := fun X I k => cls_exc c X I k
end
/-- isinstance(e, c) of an exception with a dict -/
def rIsX (K : PySem.W.Frag) (a : Addr) (cls : Value) (d : Option Addr) : List V → Hp → VK → Prop := fun xs H Q => ∃ (D dx : Addr) (fs : List (Str × V)) (c : V) (cv : Value) (b : Bool), cls = .ref D ∧ d = some dx ∧ H dx = some (.xd fs) ∧ ExcC K D ∧ xs = [.ref a, c] ∧ (∀ u, RelV c u → u = cv) ∧ PySem.W.kitOne K (.ref D) cv = some b ∧ Q (.bl b) H
theorem call_isX {X : Cx} {a : Addr} {cls : Value} {d : Option Addr} {oe : Obj} {pn : List (Addr × Obj)} (hz : Zc cls d oe) (hf : ∃ vs, oe.data = .fields vs) : CallR (X.suite a ((a, oe) :: pn)) (.builtin "isinstance") (rIsX X.K a cls d) := by
  intro pins s σ H xs us Q I r h
  obtain ⟨D, dx, fs, c, cv, b, rfl, rfl, hdx, ec, rfl, hcv, e, q⟩ := h
  obtain ⟨u1, u2, rfl, ru1, ru2⟩ := vals2 r
  cases ru1
  have e2 := hcv _ ru2
  subst e2
  obtain ⟨hg, _⟩ := I.pin (a, oe) (List.mem_append.mpr (.inl List.mem_cons_self))
  obtain ⟨vs, hv⟩ := hf
  have hx : ObjOk X.prog X.w H s.heap dx (.xd fs) := I.hok dx _ hdx
  obtain ⟨mA, hns, _⟩ := hx
  obtain ⟨od, ho, _⟩ := lookIn_ns hns
  have J : PySem.W.InstAt s.heap a oe D (some od) := ⟨hg, hz.1, by unfold PySem.W.notCls; rw [hv] <;> rfl, by rw [hz.2]; exact ho⟩
  exact PySem.W.kia_one (kx_exc ec) I.kIn J e (fun z => nomatch z) fun tk => ⟨.bl b, H, I.kept (t' := tk) fun _ _ z => z, rfl, q⟩
/-! ### several except clauses, each `as n` -/
/-- a clause: the class, the slot of its name, what its suite wants -/
abbrev Cl := Value × Nat × (Addr → Value → Option Addr → TS)
def offE (D : Ends) (i : Nat) : Ends := { nx := fun σ' H' => D.nx (σ'.set i none) H', rt := D.rt, bk := fun σ' H' => D.bk (σ'.set i none) H', ct := fun σ' H' => D.ct (σ'.set i none) H' }
def wAsMany (K : PySem.W.Frag) (Wo : WX) (D : Ends) : List Cl → WX
  | [] => Wo
  | (c, i, ts) :: r => fun cls d σ H => ∃ b, PySem.W.exmOne K cls c = some b ∧ (b = true → ∀ a, H a = none → ts a cls d (offE D i) (σ.set i (some (.ref a))) H) ∧ (b = false → wAsMany K Wo D r cls d σ H)
inductive ClsOk (X : Cx) : List ExceptHandler → List Cl → Prop
  | nil : ClsOk X [] []
  | cons {x n : Str} {c : Value} {i : Nat} {ts : Addr → Value → Option Addr → TS} {st : Stmt} {suite : List Stmt} {np p' : Pos} {hds : List ExceptHandler} {l : List Cl} (hN : X.N.Nodup) (hi : X.N[i]? = some n) (hl : X.env.kindOf n = some .local) (hc : Names X x c)
      (su : ∀ (a : Addr) (oe : Obj) (cls : Value) (d : Option Addr) (pn : List (Addr × Obj)), Zc cls d oe → (∃ vs, oe.data = .fields vs) → PSs (X.suite a ((a, oe) :: pn)) (st :: suite) (ts a cls d)) (r : ClsOk X hds l) :
      ClsOk X (.ExceptHandler (some (.Name x np)) (some n) (st :: suite) p' :: hds) ((c, i, ts) :: l)
section
variable {X : Cx} {body : List Stmt} {h0 : ExceptHandler} {hds : List ExceptHandler} {l : List Cl} {pos : Pos} {tb : WX → TS} {Wo : WX}
theorem ps_try_asMany (hs : X.stack = X.env :: X.outer) (hf : X.env.frame = some X.env.locals) (tk : Takes X Wo) (hb : ∀ (W : WX) (pn : List (Addr × Obj)) (xe : Value → Shared → Prop), Takes (X.tr pn xe) W → PassesOwn (model X.prog X.w) X.A X.env xe → PSs (X.tr pn xe) body (tb W)) (hh : ClsOk X (h0 :: hds) l) :
    PS X (.Try body (h0 :: hds) [] [] pos) (fun D σ H => tb (wAsMany X.K Wo D l) D σ H) := by
  refine ⟨fun pins s σ H D I h => ?_⟩
  have ok := I.ok
  have fr : X.A.frames = some (X.env :: X.outer) := by rw [ok.frames, hs]
  refine wpAny_Try_except (wpAny_mono ((hb (wAsMany X.K Wo D l) (X.pn ++ pins) (fun e s₁ => wpAny (model X.prog X.w) X.A (noteFrame e X.env) (fun _ s₂ => wpAny (model X.prog X.w) X.A (setFlight e none) (fun _ s₃ => wpAny (model X.prog X.w) X.A (handleBy e X.env (h0 :: hds)) (SP X pins D) X.xe s₃) X.xe s₂) X.xe s₁) (fun u s' xx => ?_) PassesOwn.looking).run [] s σ H D (I.toTry _) h) (fun f s1 hsp => ?_) (fun e s1 he => he))
  · obtain ⟨a, B, sI, pins', σ', H', cls, d, rfl, J', nb, up, sky, na, os, ag, w⟩ := xx
    have J : L2.Inv X pins σ' H' sI := J'.ofTry ok
    have sky2 : Sky B (X.env :: X.outer) a (Zc cls d) X.env.locals s'.heap := by rw [← hs]; exact sky
    show wpAny (model X.prog X.w) X.A (noteFrame (.ref a) X.env) _ _ _
    refine Sky.land Zc.steady fr hf sky2 fun g3 f3 u3 => ?_
    have J3 : L2.Inv X pins σ' H' { s' with heap := g3 } := J.landed nb f3.1 (up.trans u3) os ag
    obtain ⟨o3, w3, e3, z3, d3⟩ := f3.there
    have nfr : a ∉ frs (X.env :: X.outer) := fun hm => by
      obtain ⟨_, o', e', hnf⟩ := f3.2.2.1.mem hm
      rw [e3] at e'; cases e'; exact hnf _ d3
    have nL : a ≠ X.env.locals := fun z => nfr (List.mem_filterMap.mpr ⟨X.env, List.mem_cons_self, by rw [hf, z]⟩)
    have nF : a ∉ X.fs := fun hm => let ⟨e, he, q⟩ := List.mem_filterMap.mp hm; nfr (List.mem_filterMap.mpr ⟨e, List.mem_cons_of_mem _ he, q⟩)
    have S3 := J3.suite e3 d3 na nL nF
    have go : ∀ {hd2 : List ExceptHandler} {l2 : List Cl}, ClsOk X hd2 l2 → wAsMany X.K Wo D l2 cls d σ' H' → wpAny (model X.prog X.w) X.A (handleBy (.ref a) X.env hd2) (SP X pins D) X.xe { s' with heap := g3 } := by
      intro hd2 l2 hk
      induction hk with
      | nil =>
        intro w
        refine wpAny_handleBy_nil ?_
        obtain ⟨k1, k2, k3, oe, vs, T, oT, ts', he, hz, hd, h1, hr⟩ := id f3
        unfold PySem.passOn; refine wpAny_bind (wpAny_field he hd h1 ?_); rw [if_neg (show ¬ ((Value.ref T == Value.none) = true) from by simp)]
        have fin : wpAny (model X.prog X.w) X.A (setFlight (.ref a) X.env.frame) (fun _ s4 => wpAny (model X.prog X.w) X.A (throw (.ref a) : Sem Flow) (SP X pins D) X.xe s4) X.xe { s' with heap := g3 } := by
          rw [hf]; exact HandSPX.setFlight_upZ f3 fun h4 hh4 up4 => wpAny_throw (tk _ _ ⟨a, B, sI, pins, σ', H', cls, d, rfl, J, nb, (up.trans u3).trans up4, .inr (.inr (by rw [hs]; exact hh4)), na, os, ag, w⟩)
        first | exact wpAny_bind (wpAny_pure (wpAny_bind fin)) | exact wpAny_bind fin
      | @cons x n c i ts st suite np p' hd3 l3 hN hi hln hc su r ih =>
        intro w
        obtain ⟨b, hb1, hyes, hno⟩ := w
        refine wpAny_handleBy_cons (codeAny_handlers_test ?_) (by intro q; cases q)
        have LT : PySem.W.Looks (model X.prog X.w) g3 (typeOf (.ref a)) cls := fun A Q E s k q => wpAny_typeOf_ref (k _ _ e3) (by rw [z3.1]; exact q)
        have LM := PySem.W.exm_one (M := model X.prog X.w) (J3.kIn) LT hb1
        have ts2 : ∀ {Q : Value → Shared → Prop} {E : Value → Shared → Prop}, Q c { s' with heap := g3 } → wpAny (model X.prog X.w) (X.A.mark (some (.ref a))) (eval (.Name x np) X.env) Q E { s' with heap := g3 } := fun {Q E} q => by
          obtain ⟨hg, hdbg, hm | ⟨hm, hv, hnn⟩⟩ := hc
          · exact ld_glob (X := X.suite a ((a, o3) :: (X.pn ++ pins))) S3 hg hm q hdbg
          · exact ld_blt (X := X.suite a ((a, o3) :: (X.pn ++ pins))) S3 hg hm hv q hnn hdbg
        refine ts2 (LM.here ?_)
        cases b with
        | true =>
          refine codeAny_handlers_suite_as (HandSPX.lands_againZ f3 fun g4 f4 u4 => ?_)
          have J4 : L2.Inv X pins σ' H' { s' with heap := g4 } := J.landed nb f4.1 ((up.trans u3).trans u4) os ag
          obtain ⟨o4, w4, e4, z4, d4⟩ := f4.there
          refine store_ok (X := X.suite a ((a, o4) :: (X.pn ++ pins))) (v := .ref a) (J4.suite e4 d4 na nL nF) hN hi (.inl hln) rfl (fun s5 S5 => ?_) (.inr hln)
          refine wpAny_mono ((su a o4 cls d (X.pn ++ pins) z4 ⟨_, d4⟩).run [] s5 _ H' _ S5 (hyes rfl a na)) (fun f s6 hsp => ?_) (fun _ _ z => False.elim z)
          have ed : ∀ {σ6 : L2.St} {H6 : Hp} {Q : Shared → Prop}, L2.Inv (X.suite a ((a, o4) :: (X.pn ++ pins))) [] σ6 H6 s6 → (∀ s7, L2.Inv X pins (σ6.set i none) H6 s7 → Q s7) → wpAny (model X.prog X.w) X.A (do bindName X.env n .none; unbindBehindTheSuite X.env n p') (fun _ s7 => Q s7) X.xe s6 :=
            fun {σ6 H6 Q} S6 hq => gone_ok (S6.unsuite ok) hN hi hln hq
          cases f with
          | ret u => obtain ⟨v6, σ6, H6, S6, r6, q6⟩ := hsp; exact ed S6 fun s7 J7 => ⟨_, _, _, J7, r6, q6⟩
          | next => obtain ⟨σ6, H6, S6, q6⟩ := hsp; exact ed S6 fun s7 J7 => ⟨_, _, J7, q6⟩
          | brk => obtain ⟨σ6, H6, S6, q6⟩ := hsp; exact ed S6 fun s7 J7 => ⟨_, _, J7, q6⟩
          | cont => obtain ⟨σ6, H6, S6, q6⟩ := hsp; exact ed S6 fun s7 J7 => ⟨_, _, J7, q6⟩
        | false => exact ih (hno rfl)
    exact go hh w
  · cases f with
    | ret u => obtain ⟨v, σ', H', J', r, q⟩ := hsp; exact ⟨v, σ', H', J'.ofTry ok, r, q⟩
    | next => obtain ⟨σ', H', J', q⟩ := hsp; exact wpAny_execs_nil ⟨σ', H', J'.ofTry ok, q⟩
    | brk => obtain ⟨σ', H', J', q⟩ := hsp; exact ⟨σ', H', J'.ofTry ok, q⟩
    | cont => obtain ⟨σ', H', J', q⟩ := hsp; exact ⟨σ', H', J'.ofTry ok, q⟩
end
end UV

set_option Elab.async false
set_option linter.all false
set_option maxRecDepth 100000
set_option maxHeartbeats 4000000
/-! calls in a try's body: what is raised is wished for at the caller's slots -/
namespace UV
open PySem PySem.Spec PyProof.Rows L2 UL
section
variable {X : Cx} {CX : CXT} {k j : Nat} {C : Addr} {sp : Sp} {E : L2.St → XK} {m : Str} {p pos apos : Pos} {e o : Expr} {es : List Expr} {ta tb : TE} {t : TA}
def tMethX (C : Addr) (m : Str) (sp : Sp) (E : L2.St → XK) (ta : TE) (t : TA) : TE := fun σ H Q => ta σ H fun x H1 => ∃ a dx fs, x = .ref a ∧ H1 a = some (.ins C dx fs) ∧ fs.lookup m = none ∧ t σ H1 fun vs H2 => sp (x :: vs) H2 Q (E σ)
/-- o.m(e, ..) -/
theorem pe_mX {pl : Sem Bool} (d : Mn X.prog X.w X.K X.mg X.base CX k C m sp) (c : Cls X.K C) (hr : Room j X.A) (hk : k ≤ j) (hx : ∀ σ, PassesAt CX X σ (E σ)) (he : PE X o ta) (ha : PA X (e :: es) t)
    (hst : starEach (e :: es) X.env = (false, eval e X.env) :: starEach es X.env := by rfl) (hpl : (backTo pos (starEach es X.env)).any (·.1) = false := by rfl)
    (ht : eval (.Call (.Attribute o m apos) (e :: es) [] pos) X.env = (do
      let ov ← eval o X.env
      standAt apos.atName
      let (f, first) ← holding [ov] (getMethod ov m pl)
      callWith pos f first (backTo pos (starEach (e :: es) X.env)) (backToKw pos (keywordEach [] X.env))) := by rfl) : PE X (.Call (.Attribute o m apos) (e :: es) [] pos) (tMethX C m sp E ta t) := by
  obtain ⟨f, fd, ps, F, hm, hb⟩ := d.ex
  refine ⟨fun pins s σ H Q I h => PySem.W.methodCall_KW (pl := pl) (thn (he.run pins s σ H _ I h) fun u s1 ⟨x, H1, I1, rx, a, dx, fs, ex, ea, l, q⟩ => ?_) ht⟩
  subst ex
  obtain rfl : u = Value.ref a := rx
  refine getmeth_ok I1 ea c hm l (PySem.W.callWith_K (first := [.ref a]) (h₀ := X.base) I.ok.mod.kin hm.kp (thn (ha.run pos pins s1 σ H1 _ I1 q) fun us s2 ⟨vs, H2, I2, r, q2⟩ => ⟨I2.kIn, ?_⟩) hst hpl)
  exact run_fnS (us := .ref a :: us) (vs := .ref a :: vs) F (hr.mono hk) hb (hx σ) I2 (.cons rfl r) q2
def tSubX (C : Addr) (sp : Sp) (E : L2.St → XK) (ta tb : TE) : TE := fun σ H Q => ta σ H fun x H1 => tb σ H1 fun y H2 => ∃ a dx fs, x = .ref a ∧ H2 a = some (.ins C dx fs) ∧ sp [.ref a, y] H2 Q (E σ)
/-- o[i] by an own __getitem__ -/
theorem pe_subX {ea eb : Expr} (d : Gn X.prog X.w X.K X.mg X.base CX k C sp) (hr : Room j X.A) (hk : k + 1 ≤ j) (hx : ∀ σ, PassesAt CX X σ (E σ)) (ha : PE X ea ta) (hb : PE X eb tb)
    (hs : ∀ o i, subscripted eb true o i = runValue (.builtin "lifetime.subscript" ⟨[o, i], []⟩)) : PE X (.Subscript ea eb pos) (tSubX C sp E ta tb) := by
  obtain ⟨f, fd, ps, F, c, B⟩ := d.ex
  refine ⟨fun pins s σ H Q I h => Subscript_ (binT ha hb I h fun v u s2 x y H2 I2 rx ry q => ?_)⟩
  obtain ⟨a, dx, fs, e, ho, q⟩ := q
  subst e
  cases rx
  obtain ⟨od, J⟩ := inst_of I2 ho
  obtain ⟨m, hF⟩ := I2.fr
  have hl : (([Value.ref a, u] : List Value) ++ []).length = ps.length := by rw [← F.len _ _ _ _ q]; rfl
  have hb' := B s2 [.ref a, u] I2.kIn hl
  rw [List.append_nil] at hb'
  refine PySem.W.sub_K hF I2.ok.mod.kin J c.at_ c.fn c.is (wpAny_call (codeAny_mono (F.run X.A.in1 X.stack s2 H2 ⟨[.ref a, u], []⟩ [.ref a, u] [.ref a, y] Q (E σ) (hr.mono hk).in1 I2.env0.in1 hb' (.cons rfl (.cons ry .nil)) q) fun r s' hq => ?_)) (hs _ _)
  match r, hq with
  | .error er, hq => exact hx σ pins H2 s2 er s' I2 hq
  | .ok (.ret z), hq => exact I2.after hq
  | .ok .next, hq | .ok .brk, hq | .ok .cont, hq => exact hq.elim
end
end UV

set_option Elab.async false
set_option linter.all false
set_option maxRecDepth 100000
set_option maxHeartbeats 4000000
/-! o.f = v by a property's own setter -/
namespace UW
open PySem PySem.Spec PyProof.Rows L2 UL UV
/-- the class has the name as a property at p; the setter is the def at g -/
structure PutO (K : PySem.W.Frag) (C : Addr) (x : Str) (p g : Addr) : Prop where
  tk : PySem.W.takerIn K C x = some (some (.ref p))
  ty : PySem.W.typeIn K (.ref p) = some (.type "property")
  rc : ∃ a rest, PySem.W.recIn K p "property" = some (a :: .ref g :: rest)
structure PutN (P : Program) (w : World) (K : PySem.W.Frag) (mg : Str → Option Value) (base : Heap) (CX : CXT) (k : Nat) (C : Addr) (x : Str) (sp : Sp) : Prop where
  ex : ∃ (p g : Addr) (fd : FuncData) (ps : List Str), FnOk P w K mg base CX k g fd ps sp ∧ PutO K C x p g ∧ Binds K fd ps []
section
variable {X : Cx} {CX : CXT} {k j : Nat} {C a dx : Addr} {fs : List (Str × V)} {sp : Sp} {E : XK} {x : Str} {p pos pos' : Pos} {o e : Expr} {ta tv : TE}
theorem putprop_ok {pins : List (Addr × Obj)} {σ : L2.St} {H : Hp} {s : Shared} {y : V} {u : Value} {Q : VK} {R : Unit → Shared → Prop} (d : PutN X.prog X.w X.K X.mg X.base CX k C x sp) (c : Cls X.K C) (hr : Room j X.A) (hk : k + 2 ≤ j) (hx : PassesAt CX X σ E)
    (I : Inv X pins σ H s) (ea : H a = some (.ins C dx fs)) (ry : RelV y u) (q : sp [.ref a, y] H Q E) (h : ∀ v s' H', Inv X pins σ H' s' → Q v H' → R () s') : wpAny (model X.prog X.w) X.A (setAttr (.ref a) x u) R X.xe s := by
  obtain ⟨pa, g, fd, ps, F, po, B⟩ := d.ex
  obtain ⟨gv, rest, hrec⟩ := po.rc
  obtain ⟨od, J⟩ := inst_of I ea
  obtain ⟨m, hF⟩ := I.fr
  have I1 := I.tok (s.toks + 1)
  have hl : (([Value.ref a, u] : List Value) ++ []).length = ps.length := by rw [← F.len _ _ _ _ q]; rfl
  have hb := B { s with toks := s.toks + 1 } [.ref a, u] I1.kIn hl
  rw [List.append_nil] at hb
  refine PySem.W.set_prop hF I.ok.mod.kin J c.sa c.po po.tk po.ty hrec ?_
  refine codeAny_mono (F.run X.A.in1.in1 X.stack { s with toks := s.toks + 1 } H ⟨[.ref a, u], []⟩ [.ref a, u] [.ref a, y] Q E (hr.mono hk).in1.in1 I1.env0.in1.in1 hb (.cons rfl (.cons ry .nil)) q) fun r s' hq => ?_
  match r, hq with
  | .error er, hq => exact hx pins H _ er s' I1 hq
  | .ok (.ret z), hq =>
    obtain ⟨v, H', I3, _, q3⟩ := I1.after hq
    exact h v s' H' I3 q3
  | .ok .next, hq | .ok .brk, hq | .ok .cont, hq => exact hq.elim
/-- e.x = v, v's way first -/
def sPut (C : Addr) (sp : Sp) (E : L2.St → XK) (ta tv : TE) : TS := fun D σ H => tv σ H fun y H1 => ta σ H1 fun z H2 => ∃ a dx fs, z = .ref a ∧ H2 a = some (.ins C dx fs) ∧ sp [.ref a, y] H2 (fun _ H3 => D.nx σ H3) (E σ)
theorem ps_put {E : L2.St → XK} (d : PutN X.prog X.w X.K X.mg X.base CX k C x sp) (c : Cls X.K C) (hr : Room j X.A) (hk : k + 2 ≤ j) (hx : ∀ σ, PassesAt CX X σ (E σ)) (ha : PE X o ta) (hv : PE X e tv) (hs : swapsWith e (some (.Attribute o x pos')) pos.line X.env = pure false := by rfl) :
    PS X (.Assign [.Attribute o x pos'] e pos) (sPut C sp E ta tv) := by
  refine ⟨fun pins s σ H D I h => plainObj_wpAny_Assign_Attribute (thn (hv.run pins s σ H _ I h) fun u s1 ⟨y, H1, I1, ry, q⟩ => thn (ha.run pins s1 σ H1 _ I1 q) fun ov s2 ⟨z, H2, I2, rz, a, dx, fs, ez, ea, q2⟩ => ?_) hs⟩
  subst ez
  obtain rfl : ov = Value.ref a := rz
  exact putprop_ok d c hr hk (hx σ) I2 ea ry q2 fun v s3 H3 I3 q3 => ⟨σ, _, I3, q3⟩
end
end UW

set_option Elab.async false
set_option linter.all false
set_option maxRecDepth 100000
set_option maxHeartbeats 4000000
/-! raise C(..) from D(..) -/
namespace UW
open PySem PySem.Spec PyProof.Rows L2 UL UV
section
variable {X : Cx} {pins : List (Addr × Obj)} {σ : L2.St} {H : Hp} {s : Shared} {G : Heap} {a : Addr}
/-- one thing that is not tracked is hidden -/
theorem unseen (J : Inv X pins σ H s) (h0 : X.s_0.heap.get? a = none) (na : H a = none) (nl : a ≠ X.env.locals) (nc : ∀ x c, X.env.cells.lookup x = some c → c ≠ a) (np : ∀ p ∈ X.pn ++ pins, p.1 ≠ a) (gk : ∀ b, b ≠ a → G.get? b = s.heap.get? b) :
    Inv X pins σ H { s with heap := G } := by
  have n0 : ∀ {b : Addr} {o : Obj}, X.s_0.heap.get? b = some o → b ≠ a := fun {b o} z q => by rw [q, h0] at z; cases z
  have nt : ∀ {b : Addr} {o : HO}, H b = some o → b ≠ a := fun {b o} z q => by rw [q, na] at z; cases z
  have ic : ∀ {x c v}, X.env.cells.lookup x = some c → s.heap.IsCell c v → G.IsCell c v := fun {x c v} z q => let ⟨o, e, d⟩ := q; ⟨o, (gk c (nc x c z)).trans e, d⟩
  obtain ⟨m, hn, hl⟩ := J.loc
  refine ⟨J.ok, J.os, J.bare, ⟨fun b o e n hb hx => (gk b (n0 e)).trans (J.base.keep b o e n hb hx), fun b o e n hb hx => let ⟨sl, z⟩ := J.base.slot b o e n hb hx; ⟨sl, (gk b (n0 e)).trans z⟩, J.base.free, fun b o e hx => let ⟨u, z⟩ := J.base.there b o e hx; ⟨u, (gk b (n0 e)).trans z⟩, J.base.tups, J.base.frzs, J.base.tbls⟩,
    ⟨m, hn.at fun o z => (gk _ (Ne.symm nl)).trans z, fun i x v e1 e2 e3 => ?_⟩, fun x c z => let ⟨v, q⟩ := J.cell x c z; ⟨v, ic z q⟩, J.free, J.freeC, fun p hp => let ⟨e, n, l, f, d⟩ := J.pin p hp; ⟨(gk _ (np p hp)).trans e, n, l, f, d⟩, fun b o z => ?_, J.len⟩
  · obtain ⟨u, ru, lk⟩ := hl i x v e1 e2 e3
    exact ⟨u, ru, lk.elim .inl fun ⟨k, c, ce, q⟩ => .inr ⟨k, c, ce, ic ce q⟩⟩
  · refine (J.hok b o z).stay (fun c u hc q => (gk c ?_).trans q) (fun _ q => q) fun _ _ q => q
    rcases hc with hc | hc
    · rw [hc]; exact nt z
    · exact nt hc
/-- behind the two stores -/
def tied (h : Heap) (a : Addr) (u : Value) : Heap := (h.update a (Obj.mapFields (·.setIfInBounds 3 u))).update a (Obj.mapFields (·.setIfInBounds 4 (.bool true)))
theorem tied_other {h : Heap} {b : Addr} {u : Value} (n : a ≠ b) : (tied h a u).get? b = h.get? b := by
  unfold tied; rw [Heap.get?_update_other _ _ n, Heap.get?_update_other _ _ n]
theorem tied_at {h : Heap} {u : Value} {oe : Obj} {vs : Array Value} (ha : h.get? a = some oe) (hd : oe.data = .fields vs) :
    (tied h a u).get? a = some ((oe.mapFields (·.setIfInBounds 3 u)).mapFields (·.setIfInBounds 4 (.bool true))) ∧ ((oe.mapFields (·.setIfInBounds 3 u)).mapFields (·.setIfInBounds 4 (.bool true))).data = .fields ((vs.setIfInBounds 3 u).setIfInBounds 4 (.bool true)) := by
  have d3 := Obj.data_mapFields hd (·.setIfInBounds 3 u)
  have g3 := Heap.get?_update_self (Obj.mapFields (·.setIfInBounds 3 u)) ha (Obj.isFreed_of_fields d3)
  have d4 := Obj.data_mapFields d3 (·.setIfInBounds 4 (.bool true))
  exact ⟨Heap.get?_update_self (Obj.mapFields (·.setIfInBounds 4 (.bool true))) g3 (Obj.isFreed_of_fields d4), d4⟩
theorem raise_cause {prog : Program} {w : World} {A : Around} {E : Value → Shared → Prop} {env : Env} {s : Shared} {x c : Sem Value} {Q : Flow → Shared → Prop} (hh : A.handled = none)
    (h : wpAny (model prog w) A x (fun v s₁ => wpAny (model prog w) A c (fun u s₂ => ∃ a oe vs cls b ob ws cb, v = .ref a ∧ u = .ref b ∧ s₂.heap.get? a = some oe ∧ oe.cls = cls ∧ oe.data = .fields vs ∧ vs[1]? = some .none ∧ 4 < vs.size ∧
      s₂.heap.get? b = some ob ∧ ob.cls = cb ∧ ob.data = .fields ws ∧ PySem.W.Looks (model prog w) s₂.heap (isSubtype cls (.type "BaseException")) true ∧ PySem.W.Looks (model prog w) s₂.heap (isSubtype cb (.type "BaseException")) true ∧
      PySem.W.Looks (model prog w) (tied s₂.heap a (.ref b)) (typeOf cls) (.type "type") ∧ E (.ref a) { s₂ with heap := tied s₂.heap a (.ref b) }) E s₁) E s) :
    wpAny (model prog w) A (raiseStmt env (some x) (some c)) Q E s := by
  unfold raiseStmt
  dsimp only
  refine wpAny_bind (wpAny_mono h (fun v s₁ h₁ => ?_) fun _ _ x => x)
  refine wpAny_bind (wpAny_holding (wpAny_mono h₁ (fun u s₂ h₂ => wpAny_bind (wpAny_pure ?_)) fun _ _ x => x))
  obtain ⟨a, oe, vs, cls, b, ob, ws, cb, rfl, rfl, ha, hcls, hd, h1, hi, hb, hcb, hdb, L1, L2, L3, hE⟩ := h₂
  have LT : PySem.W.Looks (model prog w) s₂.heap (typeOf (.ref a)) cls := fun A Q E s k q => wpAny_typeOf_ref (k _ _ ha) (by rw [hcls]; exact q)
  have LU : PySem.W.Looks (model prog w) s₂.heap (typeOf (.ref b)) cb := fun A Q E s k q => wpAny_typeOf_ref (k _ _ hb) (by rw [hcb]; exact q)
  have LI : PySem.W.Looks (model prog w) s₂.heap (isInstance (.ref a) (.type "BaseException")) true := LT.andThen L1
  have LJ : PySem.W.Looks (model prog w) s₂.heap (isInstance (.ref b) (.type "BaseException")) true := LU.andThen L2
  have nota : ∀ {A' : Around} {E' : Value → Shared → Prop} {h' : Heap} {o' : Obj} {c' : Addr} {zs : Array Value} {Q' : Bool → Shared → Prop}, h'.get? c' = some o' → o'.data = .fields zs → Q' false { s₂ with heap := h' } → wpAny (model prog w) A' (isType (.ref c')) Q' E' { s₂ with heap := h' } := by
    intro A' E' h' o' c' zs Q' z1 z2 hq
    simp only [isType, loadHead]
    refine wpAny_bind (wpAny_loadPart z1 ?_)
    rw [z2]; exact wpAny_pure hq
  have d3 := Obj.data_mapFields hd (·.setIfInBounds 3 (.ref b))
  have g3 := Heap.get?_update_self (Obj.mapFields (·.setIfInBounds 3 (.ref b))) ha (Obj.isFreed_of_fields d3)
  obtain ⟨g4, d4⟩ := tied_at (u := .ref b) ha hd
  have s3 : 3 < vs.size := by omega
  have s4 : 4 < (vs.setIfInBounds 3 (Value.ref b)).size := by simpa using hi
  have h14 : ((vs.setIfInBounds 3 (Value.ref b)).setIfInBounds 4 (Value.bool true))[1]? = some Value.none := HotX.set_other (by decide) (HotX.set_other (by decide) h1)
  have c4 : ((oe.mapFields (·.setIfInBounds 3 (.ref b))).mapFields (·.setIfInBounds 4 (.bool true))).cls = cls := by rw [Obj.cls_mapFields, Obj.cls_mapFields]; exact hcls
  have LT4 : PySem.W.Looks (model prog w) (tied s₂.heap a (.ref b)) (typeOf (.ref a)) cls := fun A Q E s k q => wpAny_typeOf_ref (k _ _ g4) (by rw [c4]; exact q)
  have rest : wpAny (model prog w) A (do
      let b ← isType (.ref a)
      if b = true then do
        let e ← holding [.ref a] (raisedFor (.ref a) (.ref a))
        setFlight e none
        raiseNew e
      else do
        let e ← raisedInstance (.ref a)
        setFlight e none
        raiseNew e : Sem Flow) Q E { s₂ with heap := tied s₂.heap a (.ref b) } := by
    refine wpAny_bind (nota g4 d4 ?_)
    simp only [Bool.false_eq_true, if_false]
    unfold raisedInstance
    refine wpAny_bind (wpAny_bind (LT4.here (wpAny_bind (L3.here ?_))))
    rw [if_pos (beq_self_eq_true _)]
    refine wpAny_pure ?_
    unfold setFlight raiseNew
    refine wpAny_bind (wpAny_bind (wpAny_field g4 d4 h14 ?_))
    rw [if_neg (by decide)]
    refine wpAny_pure (wpAny_bind (wpAny_handled ?_))
    rw [hh]
    first
      | exact wpAny_throw hE
      | exact wpAny_bind (wpAny_pure (wpAny_throw hE))
  dsimp only
  refine wpAny_bind (wpAny_holding ?_)
  unfold excFromValue isExcClass
  refine wpAny_bind (wpAny_bind (nota ha hd ?_))
  simp only [Bool.false_eq_true, if_false]
  refine wpAny_pure ?_
  simp only [Bool.false_eq_true, if_false]
  refine wpAny_bind (LI.here ?_)
  simp only [if_true]
  refine wpAny_pure ?_
  rw [show (Value.ref b == Value.none) = false from rfl]
  simp only [Bool.false_eq_true, if_false]
  refine wpAny_bind (wpAny_holding ?_)
  refine wpAny_bind (wpAny_bind (nota hb hdb ?_))
  simp only [Bool.false_eq_true, if_false]
  refine wpAny_pure ?_
  simp only [Bool.false_eq_true, if_false]
  refine wpAny_bind (LJ.here ?_)
  simp only [if_true]
  refine wpAny_pure ?_
  first
  | exact wpAny_bind (wpAny_setField ha hd s3 (wpAny_bind (wpAny_setField g3 d3 s4 rest)))
  | exact wpAny_bind (wpAny_bind (wpAny_setField ha hd s3 (wpAny_setField g3 d3 s4 rest)))
end
section
variable {X : Cx} {CX : CXT} {C g : Addr} {k j : Nat} {fd : FuncData} {ps : List Str} {sp : Sp} {x : Str} {e : Expr} {es : List Expr} {ta : TA} {p pos : Pos}
/-- an expression that makes an exception whose record has its six fields -/
def PMkS (X : Cx) (e : Expr) (t : L2.St → Hp → XK → Prop) : Prop := ∀ (pn : List (Addr × Obj)) (s : Shared) (σ : L2.St) (H : Hp) (Q : XK), Inv X pn σ H s → t σ H Q → wpAny (model X.prog X.w) X.A (eval e X.env) (fun u z => MkP X pn σ Q u z ∧ L2H.Six u z) X.xe s
/-- C(e, ..) of an own class over ValueError; its record has its six fields -/
theorem made6 (T : OexC X.K C) (fi : PySem.W.findIn X.K (.ref C) "__init__" = some (some (.ref g))) (ty : PySem.W.typeIn X.K (.ref g) = some (.type "function")) (Fn : FnOk X.prog X.w X.K X.mg X.base CX0 k g fd ps sp) (hr : Room j X.A) (hk : k + 1 ≤ j) (B : Binds X.K fd ps [])
    (hg : Gl X x) (hm : X.mg x = some (.ref C)) (pa : PA X (e :: es) ta) (hdb : (x == ("__debug__" : Str)) = false := by decide) (hst : starEach (e :: es) X.env = (false, eval e X.env) :: starEach es X.env := by rfl) (hpl : (backTo pos (starEach es X.env)).any (·.1) = false := by rfl) :
    PMkS X (.Call (.Name x p) (e :: es) [] pos) (tMkO C sp [] ta) := by
  intro pn z0 sg H0 Qx I0 w0
  obtain ⟨nm, q, N, bs, bm, sn, sub, ab, col, dd, k0, k1, k2, k3, k5, lkC, bmE⟩ := T.cls
  refine wpAny_Call_Name_kw (ld_glob I0 hg hm ?_ hdb)
  refine PySem.W.callWith_K (h₀ := X.base) I0.ok.mod.kin T.kC (thn (pa.run pos pn z0 sg H0 _ I0 w0) fun us z1 ⟨vs, Ha, Ia, ra, la, qa⟩ => ⟨Ia.kIn, ?_⟩) hst hpl
  show wpAny _ _ (call (.ref C) us) _ _ _
  obtain ⟨hz, gz, dz, tz, oz⟩ := z1
  have le1 : hz.objs.size ≤ hz.objs.size + 1 := Nat.le_succ _
  have fresh := Ia.hok.fresh le1
  have want := qa (hz.objs.size + 1) fresh
  have kp : ∀ b o, hz.get? b = some o → ((hz.push (PySem.W.kdv_tup us)).push (PySem.HandSPX.excO C hz.objs.size)).get? b = some o := fun b o e => Heap.get?_push_of_some _ (Heap.get?_push_of_some _ e)
  have at2 : ((hz.push (PySem.W.kdv_tup us)).push (PySem.HandSPX.excO C hz.objs.size)).get? (hz.objs.size + 1) = some (PySem.HandSPX.excO C hz.objs.size) := by heap_get
  have Ib : Inv X pn sg (upd Ha (hz.objs.size + 1) (exo (hz.objs.size + 1) C none)) ⟨((hz.push (PySem.W.kdv_tup us)).push (PySem.HandSPX.excO C hz.objs.size)), gz, dz, tz, oz⟩ := Ia.laid (t' := tz) (a := hz.objs.size + 1) (o := exo (hz.objs.size + 1) C none) (h' := ((hz.push (PySem.W.kdv_tup us)).push (PySem.HandSPX.excO C hz.objs.size))) kp le1 (exo_ok at2)
  have rb : Vals (V.ref (hz.objs.size + 1) :: (vs ++ [])) (Value.ref (hz.objs.size + 1) :: (us ++ [])) := .cons rfl (ra.append .nil)
  have lb : (Value.ref (hz.objs.size + 1) :: us ++ []).length = ps.length := by
    have z := rb.length
    rw [Fn.len _ _ _ _ want] at z
    exact z.symm
  have bb : BindsTo ⟨((hz.push (PySem.W.kdv_tup us)).push (PySem.HandSPX.excO C hz.objs.size)), gz, dz, tz, oz⟩ fd ⟨Value.ref (hz.objs.size + 1) :: us, []⟩ (ps.zip (Value.ref (hz.objs.size + 1) :: (us ++ []))) := B _ (Value.ref (hz.objs.size + 1) :: us) Ib.kIn lb
  have lus : us.length ≤ sizeLine := by
    rw [← Paired.length ra, sizeLine_eq]; omega
  refine wpAny_call (PySem.HandSPX.call_own F.excBase_ValueError (fun Y => PySem.HandSPX.refsVE_contains Y bm bmE) (Ia.kIn _ _ lkC) (PySem.W.looks_findIn Ia.kIn fi) (fun self => PySem.W.bind_fn Ia.kIn self ty) lus
    (codeAny_mono (Fn.run _ X.stack _ _ ⟨Value.ref (hz.objs.size + 1) :: us, []⟩ (Value.ref (hz.objs.size + 1) :: (us ++ [])) _ _ (fun _ _ _ => False) ((hr.mono hk).make C us []) (Ib.env0.make C us []) bb rb want) fun r z3 hq => ?_))
  match r, hq with
  | .error er, hq => exact hq.elim
  | .ok (.ret u), hq =>
    obtain ⟨v, H3, os3, bare3, un3, hok3, rv, ev, d, fs, ea, ed, hd1, q3⟩ := hq
    subst ev
    obtain ⟨h3, g3, d3, t3, o3⟩ := z3
    obtain ⟨t0, hoe⟩ := exo_at hok3 ea
    refine ⟨rv, mk_end (raises_own T.exC T.tyC) Ia le1 kp un3 hok3 os3 bare3 ea ed hd1 q3, fun a' oe' vs' e1 e2 e3 => ?_⟩
    cases e1
    have e4 := hoe.symm.trans e2
    cases e4
    cases e3
    show (4 : Nat) < 6
    decide
  | .ok .next, hq | .ok .brk, hq | .ok .cont, hq => exact hq.elim
/-- raise e from c -/
theorem ps_raiseFrom {W : WX} {c : Expr} {te tc : L2.St → Hp → XK → Prop} (hc : X.calm = true) (hex : X.ex = []) (tk : Takes X W) (he : PMkS X e te) (hcs : PMk X c tc) :
    PS X (.Raise (some e) (some c) pos) (fun _ σ H => te σ H fun cls d H1 => tc σ H1 fun _ _ H2 => W cls d σ H2) := by
  refine ⟨fun pins s σ H D I h => ?_⟩
  show wpAny _ _ (do standAt pos; raiseStmt X.env (some (do let v ← eval e X.env; standAt pos; pure v)) (some (do let v ← eval c X.env; standAt pos; pure v))) _ _ _
  refine wpAny_bind (wpAny_standAt (raise_cause (I.ok.hd hc) (wpAny_bind (wpAny_mono (he pins s σ H _ I h) (fun u s1 hu => wpAny_bind (wpAny_standAt (wpAny_pure ?_))) fun _ _ x => x))))
  obtain ⟨⟨a, oe, vs, sI, H1, cls, d, rfl, J, kI, hne, ha, hz, hd, h1, na, os, ag, r, q⟩, h6⟩ := hu
  have hi : 4 < vs.size := h6 a oe vs rfl ha hd
  have J1 : Inv X pins σ H1 s1 := J.call' (ch := []) os (Un.kept kI) (J.hok.kept kI) ag (fun b z => absurd z (by simp))
  have s0 : X.s_0.heap.get? a = none := by
    cases z : X.s_0.heap.get? a with
    | none => rfl
    | some o =>
      obtain ⟨o', z'⟩ := J.base.there a o z (by rw [hex]; simp)
      rw [hne] at z'; cases z'
  have nl : a ≠ X.env.locals := fun z => by
    obtain ⟨m, ⟨o, _, _, e', _⟩, _⟩ := J.loc
    rw [← z, hne] at e'; cases e'
  have nf : a ∉ X.fs := fun hm => by
    obtain ⟨_, o', e', _⟩ := J.ok.funs.mem hm
    rw [s0] at e'; cases e'
  have nc : ∀ x c, X.env.cells.lookup x = some c → c ≠ a := fun x c z q => by
    obtain ⟨v, o, e', _⟩ := J.cell x c z
    rw [q, hne] at e'; cases e'
  have np : ∀ p ∈ X.pn ++ pins, p.1 ≠ a := fun p hp q => by
    have z := (J.pin p hp).1
    rw [q, hne] at z; cases z
  have J2 := pin1 J1 ha na nl nf (fun v z => by rw [hd] at z; cases z)
  refine wpAny_bind (wpAny_mono (hcs ((a, oe) :: pins) s1 σ H1 _ J2 q) (fun u s2 hu2 => wpAny_bind (wpAny_standAt (wpAny_pure ?_))) fun _ _ x => x)
  obtain ⟨b, ob, ws, sJ, H2, cb, db, rfl, K2, k2, hnb, hb, hzb, hdb, hb1, nb, os2, ag2, rb, q2⟩ := hu2
  obtain ⟨pa, na2, _⟩ := K2.pin (a, oe) (List.mem_append_right _ List.mem_cons_self)
  have ha2 : s2.heap.get? a = some oe := k2 _ _ pa
  obtain ⟨G, g1, g2⟩ := restrict sJ.heap fun b => decide (b ≠ a)
  have gk : ∀ b, b ≠ a → G.get? b = sJ.heap.get? b := fun b hb => g1 b (decide_eq_true hb)
  have ge : G.get? a = none := g2 a (by simp)
  have K3 : Inv X pins σ H2 { sJ with heap := G } := unseen (unpin1 K2) s0 na2 nl nc np gk
  obtain ⟨g4, d4⟩ := tied_at (u := .ref b) ha2 hd
  have kG : ∀ b' o, G.get? b' = some o → (tied s2.heap a (.ref b)).get? b' = some o := fun b' o z => by
    have n : b' ≠ a := fun y => by rw [y, ge] at z; cases z
    rw [tied_other (Ne.symm n)]
    exact k2 _ _ ((gk b' n).symm.trans z)
  have h14 : ((vs.setIfInBounds 3 (Value.ref b)).setIfInBounds 4 (Value.bool true))[1]? = some Value.none := HotX.set_other (by decide) (HotX.set_other (by decide) h1)
  exact ⟨a, oe, vs, cls, b, ob, ws, cb, rfl, rfl, ha2, hz.1, hd, h1, hi, hb, hzb.1, hdb, (r (model X.prog X.w) _ (K2.kIn.keeps k2)).1, (rb (model X.prog X.w) _ (K2.kIn.keeps k2)).1, (r (model X.prog X.w) _ (K3.kIn.keeps kG)).2,
    tk _ _ (XE.new K3 kG ge g4 ⟨by rw [Obj.cls_mapFields, Obj.cls_mapFields]; exact hz.1, by rw [HandSPX.dict_mapFields, HandSPX.dict_mapFields]; exact hz.2⟩ d4 h14 na2 os2 ag2 q2)⟩
end
end UW

set_option Elab.async false
set_option linter.all false
set_option maxRecDepth 100000
set_option maxHeartbeats 4000000
/-! a def that is handed a caught exception, called in the suite that caught it -/
namespace UW
open PySem PySem.Spec PyProof.Rows L2 UL UV
abbrev SpP := (Addr × Obj) → Sp
/-- what the def at f promises of the thing p, which is not tracked -/
structure FnP (P : Program) (w : World) (K : PySem.W.Frag) (mg : Str → Option Value) (base : Heap) (k : Nat) (f : Addr) (fd : FuncData) (ps : List Str) (sp : SpP) : Prop where
  len : ∀ p vs H Q E, sp p vs H Q E → vs.length = ps.length
  run : ∀ (p : Addr × Obj) (A : Around) (outer : List Env) (s : Shared) (H : Hp) (args : Args) (us : List Value) (vs : List V) (Q : VK) (E : XK), L2H.RoomH k A → L2H.PinOk outer H s p → Env0 P w K mg base A outer s H → BindsTo s fd args (ps.zip us) → Vals vs us → sp p vs H Q E →
    codeAny (model P w) A (.call (.ref f) args) (CR CX0 outer P w H s Q E) s
theorem fn_ofP {P : Program} {w : World} {K : PySem.W.Frag} {mg : Str → Option Value} {base : Heap} {k : Nat} {f : Addr} {name qual : Str} {params : Arguments} {body : List Stmt} {scope : Scope} {dV kV doc pm cdv ct oc : Value} {an od : Option Addr}
    {osl : Array (Option Value)} {N ps : List Str} {sp : SpP} (look : K.lookup f = some ⟨oc, od, .func (PySem.W.fnOf name qual params body scope dV kV doc pm an cdv ct), osl⟩) (cod : PySem.W.codeIn K cdv qual = true) (S : FnScope N ps scope)
    (len : ∀ p vs H Q E, sp p vs H Q E → vs.length = ps.length)
    (inner : ∀ (p : Addr × Obj) (A : Around) (outer : List Env) (s : Shared) (H : Hp) (vs : List V) (Q : VK) (E : XK), L2H.RoomH k (A.deeper (envOfC qual scope s.heap.objs.size f cdv)) → sp p vs H Q E →
      ∃ t, PSs (L2H.cxH CX0 P w K mg base N qual scope f cdv A outer s H E p) body t ∧ t { nx := fun _ H' => Q .non H', rt := Q } (L2.start N vs) H) :
    FnP P w K mg base (k + 1) f (PySem.W.fnOf name qual params body scope dV kV doc pm an cdv ct) ps sp := by
  refine ⟨len, fun p A outer s H args us vs Q E room pin en bind rel want => ?_⟩
  have ln := len _ _ _ _ _ want
  have KX : K.In s.heap := en.mod.kin.keeps fun b o e => (en.bs b o e).1
  have lim : s.heap.NoLimit := en.mod.nolimit.keeps fun b o e => (en.bs b o e).1
  have kinds : ∀ y ∈ ps.zip us, scope.names.lookup y.1 = some .local ∨ (scope.names.lookup y.1 = some .cell ∧ ((cellsFrom (s.heap.objs.size + 1) scope.names []).lookup y.1).isSome = true) := fun ⟨n, v⟩ hy => (S.par n (List.of_mem_zip hy).1).elim .inl fun q => .inr ⟨q, PySem.W.cellsFrom_some _ _ _ (.inl q)⟩
  refine codeAny_call_function room.depth (KX _ _ look) rfl S.co S.gen rfl (PySem.W.codeRec_of KX cod) (bind _ _ _ _ (wpAny_newFunctionEnv_cells S.kind kinds fun env he s1 x => ?_))
  subst he
  refine ⟨lim.keeps x.toInCall.keep, codeAny_func ?_⟩
  obtain ⟨t, ht, ok⟩ := inner p A outer s H vs Q E (room.deeper _) want
  have J0 : Inv (L2H.cxH CX0 P w K mg base N qual scope f cdv A outer s H E p) [] (L2.start N vs) H s1 := L2H.inv_startH S pin en ln rel x
  refine wpAny_mono (ht.run [] s1 (L2.start N vs) H _ J0 ok) (fun fl z hz => ?_) fun _ _ hz => hz
  match fl, hz with
  | .ret u, hz => obtain ⟨v, σ', H', J, rv, q⟩ := hz; exact ⟨v, H', J.os, J.bare, J.base, J.hok, rv, q⟩
  | .next, hz => obtain ⟨σ', H', J, q⟩ := hz; exact ⟨V.non, H', J.os, J.bare, J.base, J.hok, rfl, q⟩
  | .brk, hz | .cont, hz => obtain ⟨_, _, _, q⟩ := hz; exact q.elim
structure DnP (P : Program) (w : World) (K : PySem.W.Frag) (mg : Str → Option Value) (base : Heap) (k : Nat) (x : Str) (sp : SpP) : Prop where
  ex : ∃ (f : Addr) (fd : FuncData) (ps : List Str), FnP P w K mg base k f fd ps sp ∧ mg x = some (.ref f) ∧ PySem.W.keepIn K (.ref f) = true ∧ Binds K fd ps []
theorem TD_dp {P : Program} {w : World} {K : PySem.W.Frag} {mg : Str → Option Value} {base : Heap} {x : Str} {st : Stmt} {N ps : List Str} {k : Nat} {sp : SpP} (D : TD K mg x st) (S : FnScope N ps (defScope st)) (b : BindOk x x st ps) (len : ∀ p vs H Q E, sp p vs H Q E → vs.length = ps.length)
    (inner : ∀ (f : Addr) (cdv : Value) (p : Addr × Obj) (A : Around) (outer : List Env) (s : Shared) (H : Hp) (vs : List V) (Q : VK) (E : XK), L2H.RoomH k (A.deeper (envOfC x (defScope st) s.heap.objs.size f cdv)) → sp p vs H Q E →
      ∃ t, PSs (L2H.cxH CX0 P w K mg base N x (defScope st) f cdv A outer s H E p) (defBody st) t ∧ t { nx := fun _ H' => Q .non H', rt := Q } (L2.start N vs) H) : DnP P w K mg base (k + 1) x sp := by
  obtain ⟨f, fd, F, hm⟩ := D.ex
  have hb := F.binds b
  have kp := F.kp
  obtain ⟨oc, od, kV, doc, pm, an, cdv, ct, osl, e, lk, hcd⟩ := F.ex
  subst e
  exact ⟨f, _, ps, fn_ofP lk hcd S len fun p A outer s H vs Q E hr h => inner f cdv p A outer s H vs Q E hr h, hm, kp, hb⟩
section
variable {X : Cx} {k j : Nat} {sp : SpP} {x : Str} {p pos : Pos} {e : Expr} {es : List Expr} {t : TA} {a : Addr} {oe : Obj} {pn : List (Addr × Obj)}
theorem roomS {X : Cx} {a : Addr} {pn : List (Addr × Obj)} {j : Nat} (hr : Room j X.A) : L2H.RoomH j (X.suite a pn).A := ⟨hr.dp, hr.un⟩
theorem callS {Y : Cx} {pins : List (Addr × Obj)} {σ : L2.St} {H : Hp} {s : Shared} {Q : VK} {f : Addr} {fd : FuncData} {ps : List Str} {us : List Value} {vs : List V} (F : FnP Y.prog Y.w Y.K Y.mg Y.base k f fd ps sp) (hr : L2H.RoomH k Y.A) (hb : Binds Y.K fd ps []) (hp : (a, oe) ∈ Y.pn) (I : Inv Y pins σ H s) (r : Vals vs us)
    (q : sp (a, oe) vs H Q E0) : wpAny (model Y.prog Y.w) Y.A (call (.ref f) us) (EP Y pins σ Q) Y.xe s := by
  have lu : us.length = ps.length := by rw [← r.length]; exact F.len _ _ _ _ _ q
  have bb := hb s us I.kIn (by rw [List.append_nil]; exact lu)
  rw [List.append_nil] at bb
  obtain ⟨g1, g2, g3, g4, g5⟩ := I.pin (a, oe) (List.mem_append_left _ hp)
  have pin : L2H.PinOk Y.stack H s (a, oe) := ⟨g1, g2, fun hm => (List.mem_cons.mp (I.stkSub a hm)).elim g3 g4, g5⟩
  refine wpAny_call (codeAny_mono (F.run (a, oe) Y.A Y.stack s H ⟨us, []⟩ us vs Q E0 hr pin I.env0 bb r q) fun r s' hq => ?_)
  match r, hq with
  | .error er, hq => exact hq.elim
  | .ok (.ret z), hq => exact I.after hq
  | .ok .next, hq | .ok .brk, hq | .ok .cont, hq => exact hq.elim
/-- f(e) of the caught exception, in its suite -/
def tCallS (sp : SpP) (a : Addr) (cls : Value) (d : Option Addr) (t : TA) : TE := fun σ H Q => t σ H fun vs H1 => ∀ oe : Obj, Zc cls d oe → (∃ zs, oe.data = .fields zs) → sp (a, oe) vs H1 Q E0
theorem pe_dS {cls : Value} {dd : Option Addr} (d : DnP X.prog X.w X.K X.mg X.base k x sp) (hr : Room j X.A) (hk : k ≤ j) (hz : Zc cls dd oe) (hf : ∃ zs, oe.data = .fields zs) (hg : Gl X x) (ha : PA (X.suite a ((a, oe) :: pn)) (e :: es) t) (hdb : (x == ("__debug__" : Str)) = false := by decide)
    (he : starEach (e :: es) X.env = (false, eval e X.env) :: starEach es X.env := by rfl) (hpl : (backTo pos (starEach es X.env)).any (·.1) = false := by rfl) : PE (X.suite a ((a, oe) :: pn)) (.Call (.Name x p) (e :: es) [] pos) (tCallS sp a cls dd t) := by
  obtain ⟨f, fd, ps, F, hm, hkp, hb⟩ := d.ex
  refine ⟨fun pins s σ H Q I h => wpAny_Call_Name_kw (ld_glob (X := X.suite a ((a, oe) :: pn)) I hg hm (PySem.W.callWith_K (h₀ := X.base) I.ok.mod.kin hkp (thn (ha.run pos pins s σ H _ I h) fun us s1 ⟨vs, H1, I1, r, q⟩ => ⟨I1.kIn, ?_⟩) he hpl) hdb)⟩
  exact callS F ((roomS hr).mono hk) hb List.mem_cons_self I1 r (q oe hz hf)
/-- isinstance of a thing that is pinned -/
theorem call_isP {cls : Value} {d : Option Addr} (hp : (a, oe) ∈ X.pn) (hz : Zc cls d oe) (hf : ∃ vs, oe.data = .fields vs) : CallR X (.builtin "isinstance") (rIsX X.K a cls d) := by
  intro pins s σ H xs us Q I r h
  obtain ⟨D, dx, fs, c, cv, b, rfl, rfl, hdx, ec, rfl, hcv, e, q⟩ := h
  obtain ⟨u1, u2, rfl, ru1, ru2⟩ := vals2 r
  cases ru1
  have e2 := hcv _ ru2
  subst e2
  obtain ⟨hg, _⟩ := I.pin (a, oe) (List.mem_append_left _ hp)
  obtain ⟨vs, hv⟩ := hf
  have hx : ObjOk X.prog X.w H s.heap dx (.xd fs) := I.hok dx _ hdx
  obtain ⟨mA, hns, _⟩ := hx
  obtain ⟨od, ho, _⟩ := L2.lookIn_ns hns
  have J : PySem.W.InstAt s.heap a oe D (some od) := ⟨hg, hz.1, by unfold PySem.W.notCls; rw [hv] <;> rfl, by rw [hz.2]; exact ho⟩
  exact PySem.W.kia_one (kx_exc ec) I.kIn J e (fun z => nomatch z) fun tk => ⟨.bl b, H, I.kept (t' := tk) fun _ _ z => z, rfl, q⟩
end
end UW

set_option Elab.async false
set_option linter.all false
set_option maxRecDepth 100000
set_option maxHeartbeats 4000000
/-! {x} of None; == of flat lists and tuples of ints, texts and None -/
namespace UW
open PySem PySem.Spec PyProof.Rows L2 UL UV
section
variable {X : Cx}
/-- {x}: a text, an int, None -/
def tFmtN (te : TE) : TE := fun σ H Q => te σ H fun x H1 => (∃ y : Str, x = .str y ∧ y.length ≤ sizeLine ∧ Q (.str y) H1) ∨ (∃ i : Int, x = .int i ∧ i.natAbs.log2 < 1920 ∧ Q (.str (toString i)) H1) ∨ (x = .non ∧ Q (.str "None") H1)
theorem pe_fmtN {e : Expr} {te : TE} {pos : Pos} (he : PE X e te) : PE X (.FormattedValue e (-1) none pos) (tFmtN te) := by
  refine ⟨fun pins s σ H Q I h => wpAny_FormattedValue_plain (thn (he.run pins s σ H _ I h) fun v s1 ⟨x, H1, I1, r1, q⟩ => ?_)⟩
  rcases q with ⟨y, rfl, hz, q⟩ | ⟨i, rfl, hz, q⟩ | ⟨rfl, q⟩
  · obtain ⟨t, rfl⟩ := r1
    exact wpAny_formatField_str ⟨.str y, H1, I1, ⟨t, rfl⟩, q⟩ ⟨.str y, H1, I1.tok _, ⟨_, rfl⟩, q⟩ hz
  · obtain ⟨t, rfl⟩ := r1
    exact wpAny_formatField_int hz ⟨.str (toString i), H1, I1.tok _, ⟨_, rfl⟩, q⟩
  · obtain rfl : v = Value.none := r1
    exact wpAny_formatField_none ⟨.str "None", H1, I1.tok _, ⟨_, rfl⟩, q⟩
end
section
variable {K : PySem.W.Frag} {H : Hp} {Q : VK} {a b : Addr} {xs ys : List V}
def fl3 : V → Bool
  | .int _ => true
  | .str x => PyData.strOk x
  | .non => true
  | _ => false
theorem fl3_of {xs : List V} (h : xs.all fl2 = true) : xs.all fl3 = true := by
  rw [List.all_eq_true] at h ⊢
  intro v hv
  have := h v hv
  cases v <;> simp_all [fl2, fl3]
theorem d3_dp {v : V} (h : fl3 v = true) : Dp K H v (dV v) := by
  cases v <;> first | exact .int _ | exact .str _ | exact .non | exact nomatch h
theorem d3_all : ∀ {xs : List V}, xs.all fl3 = true → DpAll K H xs (xs.map dV)
  | [], _ => .nil
  | x :: r, h => by
    rw [List.all_cons, Bool.and_eq_true] at h
    exact .cons (d3_dp h.1) (d3_all h.2)
theorem d3_shape : ∀ {xs : List V}, xs.all fl3 = true → PyData.canLayAll0 (xs.map dV) = true ∧ PyData.depthAll (xs.map dV) ≤ 1
  | [], _ => by simp [PyData.canLayAll0, PyData.depthAll]
  | x :: r, h => by
    rw [List.all_cons, Bool.and_eq_true] at h
    have ih := d3_shape (xs := r) h.2
    have h0 : PyData.canLay0 (dV x) = true ∧ PyData.depth (dV x) ≤ 1 := by cases x <;> simp_all [dV, fl3, PyData.canLay0, PyData.depth]
    simp only [List.map_cons, PyData.canLayAll0, PyData.depthAll, h0.1, ih.1, Bool.and_self, true_and]
    omega
theorem d3_eq {x y : V} (hx : fl3 x = true) (hy : fl3 y = true) : PyData.eqv (dV x) (dV y) = decide (x = y) := by
  cases x <;> cases y <;> simp_all [fl3, dV, PyData.eqv] <;> rw [Bool.eq_iff_iff] <;> simp
theorem d3_eqAll : ∀ {xs ys : List V}, xs.all fl3 = true → ys.all fl3 = true → PyData.eqvAll (xs.map dV) (ys.map dV) = decide (xs = ys)
  | [], [], _, _ => by simp [PyData.eqvAll]
  | [], _ :: _, _, _ => by simp [PyData.eqvAll]
  | _ :: _, [], _, _ => by simp [PyData.eqvAll]
  | x :: r, y :: t, h1, h2 => by
    rw [List.all_cons, Bool.and_eq_true] at h1 h2
    rw [List.map_cons, List.map_cons, PyData.eqvAll, d3_eq h1.1 h2.1, d3_eqAll h1.2 h2.2, Bool.eq_iff_iff]
    simp
theorem l3_shape {xs : List V} (hf : xs.all fl3 = true) : SeqAt.shaped (.list (xs.map dV)) = true ∧ SeqAt.shaped (.tuple (xs.map dV)) = true := by
  have h := d3_shape hf
  have h2 := h.2
  have h1 : PyData.canLay0 (.list (xs.map dV)) = true := by rw [PyData.canLay0]; exact h.1
  have h3 : PyData.depth (.list (xs.map dV)) ≤ 64 := by rw [PyData.depth]; omega
  have h4 : PyData.canLay0 (.tuple (xs.map dV)) = true := by rw [PyData.canLay0]; exact h.1
  have h5 : PyData.depth (.tuple (xs.map dV)) ≤ 64 := by rw [PyData.depth]; omega
  refine ⟨?_, ?_⟩
  · show (_ && _) = true
    rw [h1, decide_eq_true h3]; rfl
  · show (_ && _) = true
    rw [h4, decide_eq_true h5]; rfl
/-- == and != of two lists, two tuples -/
theorem eqL3 (hx : xs.all fl3 = true) (hy : ys.all fl3 = true) (ha : SqL K H a xs) (hb : SqL K H b ys) (q : Q (.bl (decide (xs = ys))) H) : rEqA K (.ref a) (.ref b) H Q :=
  .inr ⟨_, _, .lst ha (d3_all hx), .lst hb (d3_all hy), (l3_shape hx).1, (l3_shape hy).1, by rw [PyData.eqv, d3_eqAll hx hy]; exact q⟩
theorem neL3 (hx : xs.all fl3 = true) (hy : ys.all fl3 = true) (ha : SqL K H a xs) (hb : SqL K H b ys) (q : Q (.bl (!decide (xs = ys))) H) : rNeA K (.ref a) (.ref b) H Q :=
  .inr ⟨_, _, .lst ha (d3_all hx), .lst hb (d3_all hy), (l3_shape hx).1, (l3_shape hy).1, by rw [PyData.eqv, d3_eqAll hx hy]; exact q⟩
theorem eqT3 (hx : xs.all fl3 = true) (hy : ys.all fl3 = true) (ha : SqT K H a xs) (hb : SqT K H b ys) (q : Q (.bl (decide (xs = ys))) H) : rEqA K (.ref a) (.ref b) H Q :=
  .inr ⟨_, _, .tup ha (d3_all hx), .tup hb (d3_all hy), (l3_shape hx).2, (l3_shape hy).2, by rw [PyData.eqv, d3_eqAll hx hy]; exact q⟩
theorem neT3 (hx : xs.all fl3 = true) (hy : ys.all fl3 = true) (ha : SqT K H a xs) (hb : SqT K H b ys) (q : Q (.bl (!decide (xs = ys))) H) : rNeA K (.ref a) (.ref b) H Q :=
  .inr ⟨_, _, .tup ha (d3_all hx), .tup hb (d3_all hy), (l3_shape hx).2, (l3_shape hy).2, by rw [PyData.eqv, d3_eqAll hx hy]; exact q⟩
theorem eqSS {x y : Str} (h1 : x.length ≤ sizeLine) (q : Q (.bl (decide (x = y))) H) : rEqA K (.str x) (.str y) H Q := by
  have e : (x == y) = decide (x = y) := by rw [Bool.eq_iff_iff]; simp
  first
  | exact .inl ⟨rfl, by simpa using q⟩
  | exact .inl ⟨rfl, by rw [e]; exact q⟩
  | exact .inl ⟨rfl, q⟩
end
end UW

set_option Elab.async false
set_option linter.all false
set_option maxRecDepth 100000
set_option maxHeartbeats 4000000
/-! with an own context manager, whose block may raise -/
namespace UW
open PySem PySem.Spec PyProof.Rows L2 UL UV
section
variable {prog : Program} {w : World} {A : Around} {E : Value → Shared → Prop} {s : Shared} {env : Env} {K : PySem.W.Frag} {x C fe fx : Addr} {ox : Obj} {od : Option Obj} {pos : Pos}
/-- what is asked where the block let u out -/
def OutX (prog : Program) (w : World) (A : Around) (E : Value → Shared → Prop) (env : Env) (x fx : Addr) (Q : Flow → Shared → Prop) (u : Value) (s : Shared) : Prop :=
  wpAny (model prog w) A (noteFrame u env) (fun _ s5 => wpAny (model prog w) A (setFlight u none) (fun _ s6 => ∃ a oe vs T oT ts cls, u = .ref a ∧ s6.heap.get? a = some oe ∧ oe.cls = cls ∧ oe.data = .fields vs ∧ vs[1]? = some (.ref T) ∧ s6.heap.get? T = some oT ∧ oT.data = .fields ts ∧ 3 < ts.size ∧
    ∀ tv, tv = Value.none ∨ tv = .ref T → codeAny (model prog w) (A.mark (some u)) (.call (.ref fx) ⟨[.ref x, cls, u, tv], []⟩) (fun r s7 => match r with | .ok (.ret v) => v = .none ∧ wpAny (model prog w) A (PySem.passOn "with" u env : Sem Flow) Q E s7 | .ok _ => False | .error e => E e s7) s6) E s5) E s
theorem with_core {bdy : Sem Flow} {Q : Flow → Shared → Prop} (X : K.In s.heap) (I : PySem.W.InstAt s.heap x ox C od) (he : PySem.W.findIn K (.ref C) "__enter__" = some (some (.ref fe))) (hfe : PySem.W.isFn K (.ref fe) = true) (hx : PySem.W.findIn K (.ref C) "__exit__" = some (some (.ref fx))) (hfx : PySem.W.isFn K (.ref fx) = true)
    (h : wpAny (model prog w) A (call (.ref fe) [.ref x]) (fun v s₂ => wpAny (model prog w) A bdy (fun f s₄ => wpAny (model prog w) A (call (.ref fx) [.ref x, .none, .none, .none]) (fun _ s₅ => Q f s₅) E s₄) (OutX prog w A E env x fx Q) s₂) E s) :
    wpAny (model prog w) A (withItem false pos env (pure (.ref x)) none bdy) Q E s := by
  obtain ⟨cd, hcd, ae⟩ := PySem.W.kw_along he
  obtain ⟨cd', hcd', ax⟩ := PySem.W.kw_along hx
  cases hcd.symm.trans hcd'
  obtain ⟨hh, g, d, tt, os⟩ := s
  have L1 : PySem.W.Looks (model prog w) hh (specialOnItsLine (.ref x) "__enter__") (some (.ref fe), cd.mro) := PySem.W.kw_special X I hcd ae
  have L2 : PySem.W.Looks (model prog w) hh (specialOnItsLine (.ref x) "__exit__") (some (.ref fx), cd.mro) := PySem.W.kw_special X I hcd ax
  have L3 : PySem.W.Looks (model prog w) hh (bindSpecial (.ref fe) (.ref x)) (.ref fe, [.ref x]) := PySem.W.bind_fn X _ (beq_iff_eq.mp hfe)
  have L4 : PySem.W.Looks (model prog w) hh (bindSpecial (.ref fx) (.ref x)) (.ref fx, [.ref x]) := PySem.W.bind_fn X _ (beq_iff_eq.mp hfx)
  have L5 : PySem.W.Looks (model prog w) hh (aMethodOfAnotherBuiltinTypeStops (.ref fe) cd.mro) () := PySem.W.Looks.of_pure rfl
  have L6 : PySem.W.Looks (model prog w) hh (aMethodOfAnotherBuiltinTypeStops (.ref fx) cd.mro) () := PySem.W.Looks.of_pure rfl
  unfold withItem
  refine wpAny_bind (wpAny_pure (wpAny_bind (wpAny_standAt ?_)))
  simp only [Bool.false_eq_true, if_false]
  kw_lk
  refine wpAny_mono h (fun v s₂ h₂ => ?_) fun _ _ z => z
  kw_lk
  refine wpAny_attempt (PySem.W.kw_held ?_)
  show wpAny _ _ bdy _ _ _
  refine wpAny_mono h₂ (fun f s₄ h₄ => ?_) fun u s₄ h₄ => ?_
  · kw_lk
    refine wpAny_mono h₄ (fun _ s₅ h₅ => ?_) fun _ _ z => z
    kw_lk
    exact h₅
  · show wpAny _ _ (noteFrame u env >>= _) _ _ _
    refine wpAny_bind (wpAny_mono h₄ (fun _ s5 h5 => wpAny_bind (wpAny_mono h5 (fun _ s6 h6 => wpAny_bind (wpAny_standAt (wpAny_holding ?_))) fun _ _ z => z)) fun _ _ z => z)
    obtain ⟨a, oe, vs, T, oT, ts, cls, rfl, ha, hc, hd, h1, hT, hdT, h3, hcode⟩ := h6
    refine wpAny_bind (wpAny_typeOf_ref ha ?_)
    rw [hc]
    have rest : ∀ tv, tv = Value.none ∨ tv = .ref T → wpAny (model prog w) A (withItem.marked (.ref a) (Code.call (.ref fx) ⟨[.ref x] ++ [cls, .ref a, tv], []⟩)) (fun r s7 => r = .none ∧ wpAny (model prog w) A (PySem.passOn "with" (.ref a) env : Sem Flow) Q E s7) E s6 := fun tv htv => by
      unfold withItem.marked
      refine wpAny_bind (wpAny_run (codeAny_mono (hcode tv htv) fun r s7 z => ?_) (by intro z; cases z))
      match r, z with
      | .ok (.ret v), z => exact wpAny_pure z
      | .error e, z => exact z
      | .ok .next, z | .ok .brk, z | .ok .cont, z => exact z.elim
    obtain ⟨y, hy⟩ : ∃ y, ts[1]? = some y := ⟨ts[1], by simp [show 1 < ts.size by omega]⟩
    unfold tracebackOf
    refine wpAny_bind (wpAny_bind (wpAny_field ha hd h1 ?_))
    dsimp only
    refine wpAny_bind (wpAny_field hT hdT hy ?_)
    by_cases q : (y == Value.none) = true
    · rw [if_pos q]
      refine wpAny_pure (wpAny_bind (wpAny_mono (rest _ (.inl rfl)) (fun r s7 hz => ?_) fun _ _ z => z))
      obtain ⟨rfl, z⟩ := hz
      refine wpAny_bind (wpAny_pure ?_)
      dsimp only
      refine wpAny_bind (wpAny_pure ?_)
      rw [if_neg (by decide)]
      exact z
    · rw [if_neg q]
      refine wpAny_pure (wpAny_bind (wpAny_mono (rest _ (.inr rfl)) (fun r s7 hz => ?_) fun _ _ z => z))
      obtain ⟨rfl, z⟩ := hz
      refine wpAny_bind (wpAny_pure ?_)
      dsimp only
      refine wpAny_bind (wpAny_pure ?_)
      rw [if_neg (by decide)]
      exact z
end
section
variable {X : Cx} {k j : Nat} {C fe fx : Addr} {fde fdx : FuncData} {pse psx : List Str} {spe : Sp} {spx : Sp} {Wout : WX}
/-- behind the block: __exit__ with three None, then what was due -/
def exW (spx : Sp) (m : Addr) (R : Hp → Prop) (H : Hp) : Prop := spx [.ref m, .non, .non, .non] H (fun v H3 => v = .non ∧ R H3) E0
def exO (spx : Sp) (m : Addr) (D : Ends) : Ends := ⟨fun σ2 H2 => exW spx m (fun H3 => D.nx σ2 H3) H2, fun v H2 => exW spx m (fun H3 => D.rt v H3) H2, fun σ2 H2 => exW spx m (fun H3 => D.bk σ2 H3) H2, fun σ2 H2 => exW spx m (fun H3 => D.ct σ2 H3) H2⟩
/-- the block raised -/
def wOut (spx : Sp) (m : Addr) (Wout : WX) : WX := fun cls d σ2 H2 => ∃ c : Addr, cls = .ref c ∧ ∀ (a : Addr) (tv : V), H2 a = none → spx [.ref m, .ref c, .ref a, tv] H2 (fun v H3 => v = .non ∧ Wout cls d σ2 H3) E0
def sWith (C : Addr) (spe spx : Sp) (Wout : WX) (tm : TE) (tb : WX → TS) : TS := fun D σ H => tm σ H fun x H1 => ∃ m dx fs, x = .ref m ∧ H1 m = some (.ins C dx fs) ∧ spe [.ref m] H1 (fun _ H2 => tb (wOut spx m Wout) (exO spx m D) σ H2) E0
/-- the exception of the block: __exit__ is called, on it goes -/
theorem with_exc {pins : List (Addr × Obj)} {D : Ends} {m : Addr} {u : Value} {s' : Shared} (hs : X.stack = X.env :: X.outer) (hf : X.env.frame = some X.env.locals) (hex : X.ex = []) (ok : X.Ok) (tk : Takes X Wout) (hr : Room j X.A) (hk : k ≤ j) (F : FnP X.prog X.w X.K X.mg X.base k fx fdx psx (fun _ => spx)) (hb : Binds X.K fdx psx [])
    {xe : Value → Shared → Prop} (xx : XE (X.tr (X.pn ++ pins) xe) (wOut spx m Wout) u s') : OutX X.prog X.w X.A X.xe X.env m fx (SP X pins D) u s' := by
  have hfr : X.A.frames = some (X.env :: X.outer) := by rw [ok.frames, hs]
  obtain ⟨a, B, sI, pins', σ', H', cls, d, rfl, J', nb, up, sky, na, os, ag, c, rfl, hw⟩ := xx
  have J : Inv X pins σ' H' sI := J'.ofTry ok
  have sky' : Sky B (X.env :: X.outer) a (Zc (.ref c) d) X.env.locals s'.heap := by rw [← hs]; exact sky
  unfold OutX
  refine Sky.land Zc.steady hfr hf sky' fun h3 fl3 up3 => ?_
  have J3 : Inv X pins σ' H' { s' with heap := h3 } := J.landed nb fl3.1 (up.trans up3) os ag
  obtain ⟨k1, k2, k3, oe, vs, T, oT, ts, he3, hz, hd, hv1, hnT, hTe, hT, hdT, ht3⟩ := id fl3
  refine ⟨a, oe, vs, T, oT, ts, .ref c, rfl, he3, hz.1, hd, hv1, hT, hdT, by have := (Array.getElem?_eq_some_iff.mp ht3).1; exact this, fun tv htv => ?_⟩
  have nT : H' T = none := (J.inGround nb).gone hnT
  have notFr : ∀ (b : Addr) (o : Obj) (fv : Array Value), h3.get? b = some o → o.data = .fields fv → b ∉ frs (X.env :: X.outer) := fun b o fv e dd hm => by
    obtain ⟨_, o', e', hnf⟩ := k3.mem hm
    rw [e] at e'; cases e'; exact hnf _ dd
  have locF : X.env.locals ∈ frs (X.env :: X.outer) := List.mem_filterMap.mpr ⟨X.env, List.mem_cons_self, hf⟩
  have fsF : ∀ b, b ∈ X.fs → b ∈ frs (X.env :: X.outer) := fun b hm => let ⟨e, he, q⟩ := List.mem_filterMap.mp hm; List.mem_filterMap.mpr ⟨e, List.mem_cons_of_mem _ he, q⟩
  have fa := notFr a oe vs he3 hd
  have fT := notFr T oT ts hT hdT
  have I1 := pin1 J3 hT nT (fun z => fT (z ▸ locF)) (fun z => fT (fsF _ z)) (fun v z => by rw [hdT] at z; cases z)
  have I2 := pin1 I1 he3 na (fun z => fa (z ▸ locF)) (fun z => fa (fsF _ z)) (fun v z => by rw [hd] at z; cases z)
  have S3 : Inv (X.suite a ((a, oe) :: (T, oT) :: (X.pn ++ pins))) [] σ' H' { s' with heap := h3 } :=
    ⟨I2.ok.suite _ _, I2.os, I2.bare, I2.base, I2.loc, I2.cell, I2.free, I2.freeC, fun p hp => by
      rw [List.append_nil] at hp
      refine I2.pin p ?_
      rcases List.mem_cons.mp hp with z | hp
      · rw [z]; exact List.mem_append_right _ List.mem_cons_self
      · rcases List.mem_cons.mp hp with z | hp
        · rw [z]; exact List.mem_append_right _ (List.mem_cons_of_mem _ List.mem_cons_self)
        · rcases List.mem_append.mp hp with z | z
          · exact List.mem_append_left _ z
          · exact List.mem_append_right _ (List.mem_cons_of_mem _ (List.mem_cons_of_mem _ z)), I2.hok, I2.len⟩
  obtain ⟨tv', rtv⟩ : ∃ tv' : V, RelV tv' tv := by
    rcases htv with rfl | rfl
    · exact ⟨.non, rfl⟩
    · exact ⟨.ref T, rfl⟩
  have q := hw a tv' na
  have r4 : Vals [V.ref m, V.ref c, V.ref a, tv'] [Value.ref m, Value.ref c, Value.ref a, tv] := .cons rfl (.cons rfl (.cons rfl (.cons rtv .nil)))
  have l4 : [Value.ref m, Value.ref c, Value.ref a, tv].length = psx.length := by rw [← r4.length]; exact F.len (a, oe) _ _ _ _ q
  have bb := hb { s' with heap := h3 } [Value.ref m, Value.ref c, Value.ref a, tv] S3.kIn (by rw [List.append_nil]; exact l4)
  rw [List.append_nil] at bb
  obtain ⟨g1, g2, g3, g4, g5⟩ := S3.pin (a, oe) (List.mem_append_left _ List.mem_cons_self)
  have pin : L2H.PinOk X.stack H' { s' with heap := h3 } (a, oe) := ⟨g1, g2, fun hm => (List.mem_cons.mp (S3.stkSub a hm)).elim g3 g4, g5⟩
  refine codeAny_mono (F.run (a, oe) (X.A.mark (some (.ref a))) X.stack { s' with heap := h3 } H' ⟨[.ref m, .ref c, .ref a, tv], []⟩ _ _ (fun v H3 => v = .non ∧ Wout (.ref c) d σ' H3) E0 ⟨(hr.mono hk).dp, (hr.mono hk).un⟩ pin S3.env0 bb r4 q) fun r s7 hq => ?_
  match r, hq with
  | .error er, hq => exact hq.elim
  | .ok .next, hq | .ok .brk, hq | .ok .cont, hq => exact hq.elim
  | .ok (.ret z), hq =>
    obtain ⟨v, H6, S6, rv, rfl, q6⟩ := S3.after hq
    refine ⟨rv, ?_⟩
    have K6 : Inv X pins σ' H6 s7 := ⟨ok, S6.os, S6.bare, S6.base, S6.loc, S6.cell, S6.free, S6.freeC, fun p hp => S6.pin p (List.mem_append_left _ (List.mem_cons_of_mem _ (List.mem_cons_of_mem _ hp))), S6.hok, S6.len⟩
    obtain ⟨ga, na6, _⟩ := S6.pin (a, oe) (List.mem_append_left _ List.mem_cons_self)
    obtain ⟨gT, nT6, _⟩ := S6.pin (T, oT) (List.mem_append_left _ (List.mem_cons_of_mem _ List.mem_cons_self))
    have apart : ∀ b o, sI.heap.get? b = some o → b ≠ a ∧ b ≠ T := fun b o e => by
      by_cases hb : b ∈ frs X.stack
      · rw [hs] at hb
        exact ⟨fun z => fa (z ▸ hb), fun z => fT (z ▸ hb)⟩
      · have z := nb b o e hb
        refine ⟨fun y => ?_, fun y => ?_⟩
        · rw [y, k2] at z; cases z
        · rw [y, hnT] at z; cases z
    have apart0 : ∀ b o, X.s_0.heap.get? b = some o → b ≠ a ∧ b ≠ T := fun b o e => let ⟨o', z⟩ := J.base.there b o e (by rw [hex]; simp); apart b o' z
    obtain ⟨G, g1, g2⟩ := restrict s7.heap fun b => !(decide (b = a) || decide (b = T))
    have gin : ∀ b o, G.get? b = some o → s7.heap.get? b = some o ∧ b ≠ a ∧ b ≠ T := fun b o e => by
      cases z : (!(decide (b = a) || decide (b = T))) with
      | false => rw [g2 b z] at e; cases e
      | true =>
        rw [g1 b z] at e
        simp only [Bool.not_eq_true', Bool.or_eq_false_iff, decide_eq_false_iff_not] at z
        exact ⟨e, z⟩
    have I6 : Inv X pins σ' H6 { s7 with heap := G } := K6.less (fun b o e => (gin b o e).1) (fun b o h1 h2 e => by rw [g1 b (by simp [h1, h2])]; exact e) ⟨oe, vs, ga, hd⟩ ⟨oT, ts, gT, hdT⟩ na6 nT6 apart0 fun p hp => apart p.1 p.2 (J.pin p hp).1
    have gno : ∀ b, (b = a ∨ b = T) → (PySem.W.hideAll G (frs X.stack)).get? b = none := fun b hb => by
      cases z : (PySem.W.hideAll G (frs X.stack)).get? b with
      | none => rfl
      | some o => exact absurd hb (fun y => y.elim (gin b o (PySem.W.of_hideAll _ z)).2.1 (gin b o (PySem.W.of_hideAll _ z)).2.2)
    have fl6 : HandSPX.FlyingZ (PySem.W.hideAll G (frs X.stack)) (X.env :: X.outer) a (Zc (.ref c) d) s7.heap := by
      refine ⟨fun b o e => (gin b o (PySem.W.of_hideAll _ e)).1, gno a (.inl rfl), ?_, oe, vs, T, oT, ts, ga, hz, hd, hv1, gno T (.inr rfl), hTe, gT, hdT, ht3⟩
      rw [← hs]
      exact funFrames_none (B := PySem.W.hideAll G (frs X.stack)) K6.stack fun b hb => PySem.W.hideAll_none _ hb
    unfold PySem.passOn
    refine wpAny_bind (wpAny_field ga hd hv1 ?_)
    rw [if_neg (show ¬ ((Value.ref T == Value.none) = true) from by simp)]
    have fin : wpAny (model X.prog X.w) X.A (setFlight (.ref a) X.env.frame) (fun _ s8 => wpAny (model X.prog X.w) X.A (throw (.ref a) : Sem Flow) (SP X pins D) X.xe s8) X.xe s7 := by
      rw [hf]
      refine HandSPX.setFlight_upZ fl6 fun h7 hh7 up7 => wpAny_throw (tk _ _ ⟨a, PySem.W.hideAll G (frs X.stack), { s7 with heap := G }, pins, σ', H6, .ref c, d, rfl, I6, fun b o e hb => PySem.W.hideAll_get _ e hb, Heap.UpToSlots.trans (Heap.UpToSlots.of_keeps fun b o e => (gin b o e).1) up7, .inr (.inr (by rw [← hs] at hh7; exact hh7)), na6, rfl, K6.bare, q6⟩)
    first
      | exact wpAny_bind (wpAny_pure (wpAny_bind fin))
      | exact wpAny_bind fin
theorem ps_with {CX : CXT} {ke kx : Nat} {ctx : Expr} {body : List Stmt} {pos : Pos} {tm : TE} {tb : WX → TS} (hs : X.stack = X.env :: X.outer) (hf : X.env.frame = some X.env.locals) (hex : X.ex = []) (hr : Room j X.A) (hke : ke ≤ j) (hkx : kx ≤ j) (tk : Takes X Wout)
    (Fe : FnOk X.prog X.w X.K X.mg X.base CX0 ke fe fde pse spe) (be : Binds X.K fde pse []) (Fx : FnOk X.prog X.w X.K X.mg X.base CX0 kx fx fdx psx spx) (Fp : FnP X.prog X.w X.K X.mg X.base kx fx fdx psx (fun _ => spx)) (bx : Binds X.K fdx psx [])
    (he : PySem.W.findIn X.K (.ref C) "__enter__" = some (some (.ref fe))) (hfe : PySem.W.isFn X.K (.ref fe) = true) (hx : PySem.W.findIn X.K (.ref C) "__exit__" = some (some (.ref fx))) (hfx : PySem.W.isFn X.K (.ref fx) = true) (hm : PE X ctx tm)
    (hb : ∀ (W : WX) (pn : List (Addr × Obj)) (xe : Value → Shared → Prop), Takes (X.tr pn xe) W → PassesOwn (model X.prog X.w) X.A X.env xe → PSs (X.tr pn xe) body (tb W)) : PS X (.With [⟨ctx, none⟩] body pos) (sWith C spe spx Wout tm tb) := by
  refine ⟨fun pins s σ H D I h => PySem.W.kw_exec0 (thn (hm.run pins s σ H _ I h) fun u s1 ⟨x, H1, I1, rx, m, dx, fs, ex, em, q⟩ => ?_)⟩
  subst ex
  obtain rfl : u = Value.ref m := rx
  have ok := I.ok
  obtain ⟨od, Jm⟩ := inst_of I1 em
  show wpAny _ _ (withItem false ctx.pos X.env (pure (.ref m)) none (execs body X.env)) _ _ _
  refine with_core I1.kIn Jm he hfe hx hfx ?_
  refine wpAny_mono (run_fn Fe (hr.mono hke) be .nil pass0 I1 (us := [.ref m]) (vs := [.ref m]) (.cons rfl .nil) q) (fun v s2 hv => ?_) fun _ _ z => z
  obtain ⟨v', H2, I2, rv, q2⟩ := hv
  have done : ∀ {σ' : L2.St} {H' : Hp} {s4 : Shared} {R : Hp → Prop} {Q' : Shared → Prop}, Inv X pins σ' H' s4 → exW spx m R H' → (∀ H3 s5, Inv X pins σ' H3 s5 → R H3 → Q' s5) → wpAny (model X.prog X.w) X.A (call (.ref fx) [.ref m, .none, .none, .none]) (fun _ s5 => Q' s5) X.xe s4 := fun {σ' H' s4 R Q'} J hq go => by
    refine wpAny_mono (run_fn Fx (hr.mono hkx) bx .nil pass0 J (us := [.ref m, .none, .none, .none]) (vs := [.ref m, .non, .non, .non]) (.cons rfl (.cons rfl (.cons rfl (.cons rfl .nil)))) hq) (fun r s5 hv => ?_) fun _ _ z => z
    obtain ⟨v3, H3, I3, _, _, q3⟩ := hv
    exact go H3 s5 I3 q3
  refine wpAny_mono ((hb (wOut spx m Wout) (X.pn ++ pins) (OutX X.prog X.w X.A X.xe X.env m fx (SP X pins D)) (fun u s' xx => with_exc hs hf hex ok tk hr hkx Fp bx xx) PassesOwn.looking).run [] s2 σ H2 (exO spx m D) (I2.toTry _) q2) (fun f s4 hsp => ?_) fun _ _ z => z
  cases f with
  | ret u => obtain ⟨v4, σ4, H4, J4, r4, q4⟩ := hsp; exact done (J4.ofTry ok) q4 fun H3 s5 I3 q3 => ⟨v4, σ4, H3, I3, r4, q3⟩
  | next => obtain ⟨σ4, H4, J4, q4⟩ := hsp; exact done (J4.ofTry ok) q4 fun H3 s5 I3 q3 => ⟨σ4, H3, I3, q3⟩
  | brk => obtain ⟨σ4, H4, J4, q4⟩ := hsp; exact done (J4.ofTry ok) q4 fun H3 s5 I3 q3 => ⟨σ4, H3, I3, q3⟩
  | cont => obtain ⟨σ4, H4, J4, q4⟩ := hsp; exact done (J4.ofTry ok) q4 fun H3 s5 I3 q3 => ⟨σ4, H3, I3, q3⟩
end
/-- what a def promises of a thing that is not tracked, by its body -/
theorem Fun_okP {P : Program} {w : World} {K : PySem.W.Frag} {mg : Str → Option Value} {base : Heap} {x qual : Str} {st : Stmt} {N ps : List Str} {k : Nat} {sp : SpP} {f : Addr} {fd : FuncData} (F : Fun K x qual st f fd) (S : FnScope N ps (defScope st)) (len : ∀ p vs H Q E, sp p vs H Q E → vs.length = ps.length)
    (inner : ∀ (cdv : Value) (p : Addr × Obj) (A : Around) (outer : List Env) (s : Shared) (H : Hp) (vs : List V) (Q : VK) (E : XK), L2H.RoomH k (A.deeper (envOfC qual (defScope st) s.heap.objs.size f cdv)) → sp p vs H Q E →
      ∃ t, PSs (L2H.cxH CX0 P w K mg base N qual (defScope st) f cdv A outer s H E p) (defBody st) t ∧ t { nx := fun _ H' => Q .non H', rt := Q } (L2.start N vs) H) : FnP P w K mg base (k + 1) f fd ps sp := by
  obtain ⟨oc, od, kV, doc, pm, an, cdv, ct, osl, e, lk, hcd⟩ := F.ex
  subst e
  exact fn_ofP lk hcd S len fun p A outer s H vs Q E hr h => inner cdv p A outer s H vs Q E hr h
/-- a context manager's two methods -/
structure WithN (P : Program) (w : World) (K : PySem.W.Frag) (mg : Str → Option Value) (base : Heap) (k : Nat) (C : Addr) (spe spx : Sp) : Prop where
  ex : ∃ (fe fx : Addr) (fde fdx : FuncData) (pse psx : List Str), FnOk P w K mg base CX0 k fe fde pse spe ∧ Binds K fde pse [] ∧ FnOk P w K mg base CX0 k fx fdx psx spx ∧ FnP P w K mg base k fx fdx psx (fun _ => spx) ∧ Binds K fdx psx [] ∧
    PySem.W.findIn K (.ref C) "__enter__" = some (some (.ref fe)) ∧ PySem.W.isFn K (.ref fe) = true ∧ PySem.W.findIn K (.ref C) "__exit__" = some (some (.ref fx)) ∧ PySem.W.isFn K (.ref fx) = true
section
variable {X : Cx} {k j : Nat} {C : Addr} {spe : Sp} {spx : Sp} {Wout : WX}
theorem ps_withN {ctx : Expr} {body : List Stmt} {pos : Pos} {tm : TE} {tb : WX → TS} (d : WithN X.prog X.w X.K X.mg X.base k C spe spx) (hs : X.stack = X.env :: X.outer) (hf : X.env.frame = some X.env.locals) (hex : X.ex = []) (hr : Room j X.A) (hk : k ≤ j) (tk : Takes X Wout) (hm : PE X ctx tm)
    (hb : ∀ (W : WX) (pn : List (Addr × Obj)) (xe : Value → Shared → Prop), Takes (X.tr pn xe) W → PassesOwn (model X.prog X.w) X.A X.env xe → PSs (X.tr pn xe) body (tb W)) : PS X (.With [⟨ctx, none⟩] body pos) (sWith C spe spx Wout tm tb) := by
  obtain ⟨fe, fx, fde, fdx, pse, psx, Fe, be, Fx, Fp, bx, he, hfe, hx, hfx⟩ := d.ex
  exact ps_with (CX := CX0) hs hf hex hr hk hk tk Fe be Fx Fp bx he hfe hx hfx hm hb
end
section
variable {X : Cx} {tg l : Expr} {tl : TE}
/-- in a block whose context is open: K by its name -/
theorem pi_listK (K : PySem.W.Frag) (hK : X.K = K) (hl : PE X l tl) : PI X tg l (iList K tl) := hK ▸ pi_list hl
theorem pg_tupK (K : PySem.W.Frag) (n : Nat) {es : List Expr} {k : Nat} {t : TGs} {pos : Pos} (hK : X.K = K) (hc : X.calm = true) (h : PGs X es t) (hn : (assignEach es X.env).length = n := by rfl) (hst : (assignEach es X.env).findIdx? (·.1) = none := by rfl) : PG X (.Tuple es k pos) (gTup K n t) := hK ▸ pg_tup hc h hn hst
end
end UW

set_option Elab.async false
set_option linter.all false
set_option maxRecDepth 100000
set_option maxHeartbeats 4000000
/-! k01: what the top leaves, by names -/
namespace U
open PySem L2 UL
def top (i : Nat) : Stmt := PySem.Challenge.pw_untoldrule_k04_whole_trials.main.body.getD i (.Pass ⟨0, 0, 0, 0⟩)
local macro_rules | `(tactic| walk_at "rd") => `(tactic| simp only [tSeq, tAsg, tOp, tCB, tCons, tNil, tVar, tC, rI, rI0, gName, tRet, L2.start, List.length_cons, List.length_nil, List.map_cons, List.map_nil, List.replicate, List.cons_append, List.nil_append, List.getElem?_cons_zero, List.getElem?_cons_succ, List.set_cons_zero, List.set_cons_succ, Option.some.injEq, exists_eq_left', exists_eq_left, V.int.injEq, V.bl.injEq, V.str.injEq, V.ref.injEq, V.ty.injEq, List.cons.injEq, and_true, true_and, reduceCtorEq, false_and, exists_false, or_false, false_or, exists_and_left, exists_and_right])
/-- names that the module does not take -/
structure Nm (mg : Str → Option Value) : Prop where
  n_int : mg "int" = none
  n_bool : mg "bool" = none
  n_str : mg "str" = none
  n_list : mg "list" = none
  n_tuple : mg "tuple" = none
  n_set : mg "set" = none
  n_len : mg "len" = none
  n_abs : mg "abs" = none
  n_all : mg "all" = none
  n_iter : mg "iter" = none
  n_range : mg "range" = none
  n_zip : mg "zip" = none
  n_isinstance : mg "isinstance" = none
  c_LETTERS : ∃ u, mg "LETTERS" = some u ∧ RelV (.str "abcdefghijklmnopqrstuvwxyz") u
  c_MOST_LETTERS : ∃ u, mg "MOST_LETTERS" = some u ∧ RelV (.int 8) u
  c_MOST_CELLS : ∃ u, mg "MOST_CELLS" = some u ∧ RelV (.int 3) u
  c_MOST_SIZE : ∃ u, mg "MOST_SIZE" = some u ∧ RelV (.int 3) u
/-- list or tuple -/
def ItA : Kd → PySem.W.Frag → Addr → It
  | .l, K, a => Itl K a
  | .t, K, a => Itt K a
def iAny (K : PySem.W.Frag) (te : TE) : TI := fun σ H R => iList K te σ H R ∨ iTup K te σ H R
theorem pi_any {X : Cx} {tg l : Expr} {tl : TE} (hl : PE X l tl) : PI X tg l (iAny X.K tl) :=
  ⟨fun pins s σ H R I h => h.elim (fun z => (pi_list hl).run pins s σ H R I z) fun z => (pi_tup hl).run pins s σ H R I z⟩
def SqA (K : PySem.W.Frag) (H : Hp) (a : Addr) (xs : List V) : Prop := ∃ k : Kd, k.Sq K H a xs
theorem iAny_var {K : PySem.W.Frag} {i : Nat} {σ : L2.St} {H : Hp} {R : It → Hp → Prop} : iAny K (tVar i) σ H R ↔ ∃ v a k, σ[i]? = some (some v) ∧ v = .ref a ∧ (∃ xs, Kd.Sq k K H a xs) ∧ R (ItA k K a) H := by
  constructor
  · rintro (⟨v, h, a, e, x, r⟩ | ⟨v, h, a, e, x, r⟩)
    · exact ⟨v, a, .l, h, e, x, r⟩
    · exact ⟨v, a, .t, h, e, x, r⟩
  · rintro ⟨v, a, k, h, e, x, r⟩
    cases k
    · exact .inl ⟨v, h, a, e, x, r⟩
    · exact .inr ⟨v, h, a, e, x, r⟩
theorem walk_any {K : PySem.W.Frag} {a : Addr} {xs : List V} : ∀ k : Kd, L2.Walk (ItA k K a) xs.length (fun H => k.Sq K H a xs) (L2.YAt xs)
  | .l => L2.walk_list
  | .t => L2.walk_tup
theorem Kd.same {k : Kd} {K : PySem.W.Frag} {a : Addr} {H H' : Hp} {xs : List V} (s : Same H H') (h : k.Sq K H a xs) : k.Sq K H' a xs := match k, h with
  | .l, h => UL.Same.sqL s h
  | .t, h => UL.Same.sqT s h
theorem Kd.len {k : Kd} {K : PySem.W.Frag} {a : Addr} {H : Hp} {Q : VK} {xs : List V} (h : k.Sq K H a xs) (q : Q (.int xs.length) H) : cLen K [.ref a] H Q := match k, h with
  | .l, h => lenL h q
  | .t, h => lenT h q
theorem Kd.or {k : Kd} {K : PySem.W.Frag} {a : Addr} {H : Hp} {xs : List V} (h : k.Sq K H a xs) : SqL K H a xs ∨ SqT K H a xs := match k, h with
  | .l, h => .inl h
  | .t, h => .inr h
theorem fj_any {K : PySem.W.Frag} {a : Addr} {xs : List V} {g : TG} {tb : TS} {D : Ends} {σ : L2.St} {H : Hp} (k : Kd) (Pv : Nat → L2.St → Hp → Prop) (h0 : Pv 0 σ H) (hl : ∀ i σ H, i ≤ xs.length → Pv i σ H → k.Sq K H a xs)
    (hs : ∀ i x σ H, xs[i]? = some x → Pv i σ H → g x σ H fun σ2 H2 => tb { D with nx := Pv (i + 1), ct := Pv (i + 1), bk := D.nx } σ2 H2) (hd : ∀ σ H, Pv xs.length σ H → D.nx σ H) : FJ (ItA k K a) g tb D σ H := match k, hl with
  | .l, hl => FJ.list Pv h0 hl hs hd
  | .t, hl => FJ.tup Pv h0 hl hs hd
end U

set_option Elab.async false
set_option linter.all false
set_option maxRecDepth 100000
set_option maxHeartbeats 4000000
namespace U
open PySem PySem.Spec PyProof.Rows L2 UL
local macro_rules | `(tactic| walk_at "rd") => `(tactic| simp only [tSeq, tAsg, tOp, tCB, tCons, tNil, tVar, tC, tB, tTest, tNot, tIfS, tNext, tYes, tUn, rU, tM0, tGFrom, tGThen, tG0, tYfLst, gcxK, tSubO, tProp, tListG, tMethG, tBMF, tFld, sFld, tMeth, tMake, tSl, tNoPart, tPart, tM1, gTup, gCons, gNil, tDrop, tFor_eq, tLc_eq, tLc2_eq, iRng1_eq, StX.tStar, iList, iTup, iStr, iAny_var, iZipB, tLenSetS, wipe, tVar, tAndV, tOrV, tNotV, tOr, tAnd, tLst, tTup, tBM, tBM0, tChain, tCall, cxK, noxK, addII, addSS, mulII, eqII, neII, neSS, cIntI, cAbsI, rI, rI0, rLt, rLe, rGt_, rGe_, rSub_, rMod, rPow, rDivW, rNeg, gName, tRet, L2.start, List.length_cons, List.length_nil, List.map_cons, List.map_nil, List.replicate, List.cons_append, List.nil_append, List.getElem?_cons_zero, List.getElem?_cons_succ, List.set_cons_zero, List.set_cons_succ, Option.some.injEq, exists_eq_left', exists_eq_left, V.int.injEq, V.bl.injEq, V.str.injEq, V.ref.injEq, V.ty.injEq, List.cons.injEq, and_true, true_and, reduceCtorEq, false_and, exists_false, or_false, false_or, exists_and_left, exists_and_right, List.append_nil, forall_eq, decide_eq_true_eq, Bool.not_eq_true, Nat.reduceAdd, Nat.reduceSub, List.replicate_zero, List.replicate_succ, Nat.zero_le, ite_true, ite_false, if_true, if_false])
section
variable {P : Program} {w : World} {K : PySem.W.Frag} {mg : Str → Option Value} {base : Heap}

abbrev s__law_is_number : Stmt := top 21
abbrev sc__law_is_number_N : List Str := ["_law_actual"]
theorem sc__law_is_number : FnScope sc__law_is_number_N ["_law_actual"] (defScope s__law_is_number) := ⟨rfl, rfl, rfl, by decide +kernel, rfl, by decide +kernel, by decide +kernel⟩
-- 0 _law_actual
def sp_isnum : Sp := fun vs H Q _ => ∃ i : Int, vs = [.int i] ∧ Q (.bl true) H
theorem d_isnum (T : Nm mg) (D : TD K mg "_law_is_number" s__law_is_number) : Dn P w K mg base CX0 1 "_law_is_number" sp_isnum := by
  refine D.dn sc__law_is_number (fun _ _ _ _ _ _ us hl => match us, hl with | [_], _ => rfl) (fun vs H Q E h => ?_) (fun f cdv A outer s H vs Q E hr h => ?_)
  · obtain ⟨i, rfl, _⟩ := h; rfl
  · obtain ⟨i, rfl, q⟩ := h
    refine ⟨_, (pss_one (ps_ret (pe_and (pe_callB call_isi (by rfl) T.n_isinstance (by decide +kernel) (pa_cons (pv 0) (pa_cons (pe_bltn (v := .ty "int") (by rfl) T.n_int (by decide +kernel) rfl) pa_nil))) (pe_one (pe_not (pe_callB call_isi (by rfl) T.n_isinstance (by decide +kernel) (pa_cons (pv 0) (pa_cons (pe_bltn (v := .ty "bool") (by rfl) T.n_bool (by decide +kernel) rfl) pa_nil)))))))), ?_⟩
    walk_at "rd"
    refine isiI (r := true) (by rfl) ⟨true, rfl, ?_⟩
    rw [if_pos rfl]
    exact isiI (r := false) (by rfl) ⟨false, rfl, q⟩

abbrev s__law_mixed : Stmt := top 22
abbrev sc__law_mixed_N : List Str := ["_law_cell", "_law_k", "_law_first", "_law_second"]
theorem sc__law_mixed : FnScope sc__law_mixed_N ["_law_cell", "_law_k"] (defScope s__law_mixed) := ⟨rfl, rfl, rfl, by decide +kernel, rfl, by decide +kernel, by decide +kernel⟩
-- 0 _law_cell, 1 _law_k, 2 _law_first, 3 _law_second
def sp_mixed : Sp := fun vs H Q _ => ∃ c k : Int, vs = [.int c, .int k] ∧ 0 ≤ c ∧ c < 10 ^ 18 ∧ 0 ≤ k ∧ k < 1000 ∧ ∀ r : Int, 0 ≤ r → Q (.int r) H
theorem d_mixed (T : Nm mg) (D : TD K mg "_law_mixed" s__law_mixed) : Dn P w K mg base CX0 1 "_law_mixed" sp_mixed := by
  refine D.dn sc__law_mixed (fun _ _ _ _ _ _ us hl => match us, hl with | [_, _], _ => rfl) (fun vs H Q E h => ?_) (fun f cdv A outer s H vs Q E hr h => ?_)
  · obtain ⟨c, k, rfl, _⟩ := h; rfl
  · obtain ⟨c, k, rfl, h0, h1, h2, h3, q⟩ := h
    refine ⟨_, (pss_cons (ps_set (i := 2) sc__law_mixed.nd rfl (Or.inl rfl) (pe_op op_modA (pe_callTy call_intA (by rfl) T.n_int (by decide +kernel) (pa_cons (pe_op op_addA (pe_op op_addA (pe_op op_mulA (pv 0) pe_int) (pe_op op_mulA (pv 1) pe_int)) pe_int) pa_nil)) pe_int))
      (pss_cons (ps_set (i := 3) sc__law_mixed.nd rfl (Or.inl rfl) (pe_op op_modA (pe_callTy call_intA (by rfl) T.n_int (by decide +kernel) (pa_cons (pe_op op_addA (pe_op op_addA (pe_op op_mulA (pv 2) (pv 2)) (pe_op op_mulA (pv 1) pe_int)) pe_int) pa_nil)) pe_int))
      (pss_one (ps_ret (pe_op op_modA (pe_callTy call_intA (by rfl) T.n_int (by decide +kernel) (pa_cons (pe_op op_addA (pe_op op_mulA (pv 3) (pv 3)) (pv 2)) pa_nil)) pe_int))))), ?_⟩
    walk_at "rd"
    have e : ∀ a b : Int, 0 < b → 0 ≤ a % b ∧ a % b < b := fun a b hb => ⟨Int.emod_nonneg a (by omega), Int.emod_lt_of_pos a hb⟩
    refine ⟨.inl ⟨by omega, by omega⟩, .inl ⟨by omega, by omega⟩, by decide, .inl ?_, .inl ⟨by omega, by omega⟩, by decide, .inl ?_, by decide, q _ (e _ 99991 (by decide)).1⟩
    · have := e (c * 48271 + k * 69621 + 11) 65537 (by decide); omega
    · have := e ((c * 48271 + k * 69621 + 11) % 65537 * ((c * 48271 + k * 69621 + 11) % 65537) + k * 7919 + 3) 64007 (by decide); omega

abbrev s__law_draw : Stmt := top 24
abbrev sc__law_draw_N : List Str := ["_law_pool_here", "_law_many"]
theorem sc__law_draw : FnScope sc__law_draw_N ["_law_pool_here", "_law_many"] (defScope s__law_draw) := ⟨rfl, rfl, rfl, by decide +kernel, rfl, by decide +kernel, by decide +kernel⟩
-- 0 _law_pool_here, 1 _law_many
def sp_draw : Sp := fun vs H Q _ => ∃ (p : Addr) (m : Int), vs = [.ref p, .int m] ∧ 0 < m ∧ Pl H p ∧ ∀ r H', 0 ≤ r → r < m → Pl H' p → But p H H' → Q (.int r) H'
theorem d_draw (T : Nm mg) (D : TD K mg "_law_draw" s__law_draw) : Dn P w K mg base CX0 1 "_law_draw" sp_draw := by
  refine D.dn sc__law_draw (fun _ _ _ _ _ _ us hl => match us, hl with | [_, _], _ => rfl) (fun vs H Q E h => ?_) (fun f cdv A outer s H vs Q E hr h => ?_)
  · obtain ⟨p, m, rfl, _⟩ := h; rfl
  · obtain ⟨p, m, rfl, hm, ⟨ns, hp⟩, q⟩ := h
    refine ⟨_, (pss_cons (ps_if (pt_cmpR (op_eqA (hr.units)) (pv 0) (pe_lst pa_nil) (nomark _)) (pss_one (ps_ret pe_int)) pss_nil)
      (pss_one (ps_ret (pe_op op_modA (pe_callTy call_intA (by rfl) T.n_int (by decide +kernel) (pa_cons (pe_bm0 PySem.F.plainAttrs_list PySem.F.slot_list_pop PySem.F.type_list_pop mt_pop (pv 0)) pa_nil)) (pv 1))))), ?_⟩
    walk_at "rd"
    refine (fun p1 hp1 => eqL0 (xs := ns.map V.int) fl2_ints (.inl (.inl ?_)) (.inl (.inl upd_same)) ⟨_, rfl, ?_⟩)
    · rw [upd_ne (ne_of_none hp hp1)]; exact hp
    · have hp2 : upd H p1 (.lst []) p = some (.lst (ns.map V.int)) := by rw [upd_ne (ne_of_none hp hp1)]; exact hp
      rcases List.eq_nil_or_concat ns with rfl | ⟨L, y, rfl⟩
      · rw [if_pos (by simp)]
        exact q 0 _ (Int.le_refl 0) hm ⟨[], hp2⟩ (UL.Same.but (UL.Same.new hp1))
      · rw [if_neg (by simp)]
        refine ⟨.inl ⟨rfl, _, .inl (.inl hp2)⟩, p, _, .int y, rfl, rfl, hp2, by simp, cIntI.mpr ⟨y, rfl, hm, q _ _ (Int.emod_nonneg y (by omega)) (Int.emod_lt_of_pos y hm) ⟨L, ?_⟩ (But.trans (UL.Same.but (UL.Same.new hp1)) But.at_)⟩⟩
        rw [upd_same]; simp

abbrev s_is_value : Stmt := top 16
abbrev sc_is_value_N : List Str := ["value", "size"]
theorem sc_is_value : FnScope sc_is_value_N ["value", "size"] (defScope s_is_value) := ⟨rfl, rfl, rfl, by decide +kernel, rfl, by decide +kernel, by decide +kernel⟩
-- 0 value, 1 size
def sp_isval : Sp := fun vs H Q _ => ∃ v n : Int, vs = [.int v, .int n] ∧ Q (.bl (decide (0 ≤ v) && decide (v < n))) H
theorem d_isval (T : Nm mg) (D : TD K mg "is_value" s_is_value) : Dn P w K mg base CX0 1 "is_value" sp_isval := by
  refine D.dn sc_is_value (fun _ _ _ _ _ _ us hl => match us, hl with | [_, _], _ => rfl) (fun vs H Q E h => ?_) (fun f cdv A outer s H vs Q E hr h => ?_)
  · obtain ⟨p, m, rfl, _⟩ := h; rfl
  · obtain ⟨v, n, rfl, q⟩ := h
    refine ⟨_, (pss_one (ps_ret (pe_chain op_leA op_ltA pe_int (pv 0) (pv 1)))), ?_⟩
    walk_at "rd"
    by_cases h : 0 ≤ v
    · rw [if_pos h]; simpa [h] using q
    · rw [if_neg h]; simpa [h] using q

abbrev s_check_size : Stmt := top 15
abbrev sc_check_size_N : List Str := ["size"]
theorem sc_check_size : FnScope sc_check_size_N ["size"] (defScope s_check_size) := ⟨rfl, rfl, rfl, by decide +kernel, rfl, by decide +kernel, by decide +kernel⟩
-- 0 size
def sp_chksize : Sp := fun vs H Q _ => ∃ n : Int, vs = [.int n] ∧ 1 ≤ n ∧ n ≤ 3 ∧ Q .non H
theorem d_chksize (T : Nm mg) (D : TD K mg "check_size" s_check_size) : Dn P w K mg base CX0 1 "check_size" sp_chksize := by
  refine D.dn sc_check_size (fun _ _ _ _ _ _ us hl => match us, hl with | [_], _ => rfl) (fun vs H Q E h => ?_) (fun f cdv A outer s H vs Q E hr h => ?_)
  · obtain ⟨p, rfl, _⟩ := h; rfl
  · obtain ⟨n, rfl, h1, h2, q⟩ := h
    refine ⟨_, (pss_one (ps_if (pt_not (pt_chain op_leA op_leA pe_int (pv 0) (C8.pe_gc (by rfl) T.c_MOST_SIZE))) pss_never pss_nil)), ?_⟩
    walk_at "rd"
    rw [if_pos h1, if_neg (by simp [h2])]
    exact q

abbrev s_is_name : Stmt := top 10
abbrev sc_is_name_N : List Str := ["word", ".0", "letter"]
theorem sc_is_name : FnScope sc_is_name_N ["word"] (defScope s_is_name) := ⟨rfl, rfl, rfl, by decide +kernel, rfl, by decide +kernel, by decide +kernel⟩
-- 0 word, 1 .0, 2 letter
def isNm (z : Str) : Prop := 1 ≤ z.length ∧ z.length ≤ 8 ∧ ∀ c ∈ z.cps.toList, c ∈ ("abcdefghijklmnopqrstuvwxyz" : Str).cps.toList
def sp_isname : Sp := fun vs H Q _ => ∃ z, vs = [.str z] ∧ isNm z ∧ ∀ H', Same H H' → Q (.bl true) H'
theorem d_isname (T : Nm mg) (D : TD K mg "is_name" s_is_name) : Dn P w K mg base CX0 1 "is_name" sp_isname := by
  refine D.dn sc_is_name (fun _ _ _ _ _ _ us hl => match us, hl with | [_], _ => rfl) (fun vs H Q E h => ?_) (fun f cdv A outer s H vs Q E hr h => ?_)
  · obtain ⟨p, rfl, _⟩ := h; rfl
  · obtain ⟨z, rfl, ⟨h1, h2, h3⟩, q⟩ := h
    refine ⟨_, (pss_one (ps_ret (pe_and (pe_chain op_leA op_leA pe_int (pe_callB call_lenA (by rfl) T.n_len (by decide +kernel) (pa_cons (pv 0) pa_nil)) (C8.pe_gc (by rfl) T.c_MOST_LETTERS)) (pe_one (pe_callB (cr_all rfl) (by rfl) T.n_all (by decide +kernel) (pa_cons (pe_lc (own := [(".0", 1), ("letter", 2)]) (g := (gName 2)) (tt := tYes) rfl sc_is_name.nd (pi_str (pv 0)) (blkOk_by (N := sc_is_name_N) (sc := defScope s_is_name) (by decide +kernel)) (fun _ _ _ _ _ => pg_name (i := 2) sc_is_name.nd rfl (Or.inl rfl)) (fun _ _ _ _ _ => pts_nil) (fun _ _ _ _ _ => (pe_cmpR (op_inK K rfl) (pv 2) (C8.pe_gc (by rfl) T.c_LETTERS) (by with_unfolding_all rfl)))) pa_nil)))))), ?_⟩
    walk_at "rd"
    have hl : z.cps.size = z.length := rfl
    refine lenS (by rw [sizeLine_eq]; omega) ⟨_, rfl, ?_⟩
    rw [if_pos (by omega)]
    refine ⟨_, rfl, ?_⟩
    rw [if_pos (by omega)]
    refine fun D hD => LJ.it walk_str (fun i H' => ∃ bs : List Bool, bs.length = i ∧ bs.all id = true ∧ H' = upd H D (.lst (bs.map V.bl))) ⟨[], rfl, rfl, rfl⟩ (fun _ _ _ _ => trivial) (fun i x H1 H2 hi e y => ?_) fun H2 e => ?_
    · obtain ⟨rfl, c, hc, rfl⟩ := y
      obtain ⟨bs, hb, ha, rfl⟩ := e
      refine ⟨rfl, ?_⟩
      walk_at "rd"
      have hcm : c ∈ z.cps.toList := by rw [Array.mem_toList_iff]; exact Array.mem_of_getElem? hc
      refine .inl ⟨c, _, rfl, rfl, _, upd_same, by rw [List.length_map, sizeLine_eq]; omega, bs ++ [true], by simp [hb], by simp [ha], ?_⟩
      rw [decide_eq_true (h3 c hcm), upd_upd, List.map_append]; rfl
    · obtain ⟨bs, hb, ha, rfl⟩ := e
      refine ⟨D, bs, rfl, .inl (.inl upd_same), ?_⟩
      rw [ha]; exact q _ (UL.Same.new hD)
end
end U

set_option Elab.async false
set_option linter.all false
set_option maxRecDepth 100000
set_option maxHeartbeats 4000000
namespace U
open PySem PySem.Spec PyProof.Rows L2 UL
local macro_rules | `(tactic| walk_at "rd") => `(tactic| simp only [tSeq, tAsg, tOp, tCB, tCons, tNil, tVar, tC, tB, tTest, tNot, tIfS, tNext, tYes, tUn, rU, tM0, tGFrom, tGThen, tG0, tYfLst, gcxK, tSubO, tProp, tListG, tMethG, tBMF, tFld, sFld, tMeth, tMake, tSl, tNoPart, tPart, tM1, gTup, gCons, gNil, tDrop, tFor_eq, tLc_eq, tLc2_eq, iRng1_eq, StX.tStar, iList, iTup, iStr, iAny_var, iZipB, tLenSetS, wipe, tVar, tAndV, tOrV, tNotV, tOr, tAnd, tLst, tTup, tBM, tBM0, tChain, tCall, cxK, noxK, addII, addSS, mulII, eqII, neII, neSS, cIntI, cAbsI, rI, rI0, rLt, rLe, rGt_, rGe_, rSub_, rMod, rPow, rDivW, rNeg, gName, tRet, L2.start, List.length_cons, List.length_nil, List.map_cons, List.map_nil, List.replicate, List.cons_append, List.nil_append, List.getElem?_cons_zero, List.getElem?_cons_succ, List.set_cons_zero, List.set_cons_succ, Option.some.injEq, exists_eq_left', exists_eq_left, V.int.injEq, V.bl.injEq, V.str.injEq, V.ref.injEq, V.ty.injEq, List.cons.injEq, and_true, true_and, reduceCtorEq, false_and, exists_false, or_false, false_or, exists_and_left, exists_and_right, List.append_nil, forall_eq, decide_eq_true_eq, Bool.not_eq_true, Nat.reduceAdd, Nat.reduceSub, List.replicate_zero, List.replicate_succ, Nat.zero_le, ite_true, ite_false, if_true, if_false])
section
variable {P : Program} {w : World} {K : PySem.W.Frag} {mg : Str → Option Value} {base : Heap}

abbrev s__law_pool : Stmt := top 23
abbrev sc__law_pool_N : List Str := ["_law_script", "_law_pool_here", "_law_at", "_law_left", "_law_k"]
theorem sc__law_pool : FnScope sc__law_pool_N ["_law_script"] (defScope s__law_pool) := ⟨rfl, rfl, rfl, by decide +kernel, rfl, by decide +kernel, by decide +kernel⟩
-- 0 _law_script, 1 _law_pool_here, 2 _law_at, 3 _law_left, 4 _law_k
def sp_pool : PySem.W.Frag → Sp := fun K vs H Q _ => ∃ (a : Addr) (ns : List Int), vs = [.ref a] ∧ SqL K H a (ns.map V.int) ∧ ns.length ≤ 63 ∧ ∀ p H', H p = none → Pl H' p → Same H H' → Q (.ref p) H'
theorem d_pool (T : Nm mg) (D : TD K mg "_law_pool" s__law_pool) (d__law_mixed : Dn P w K mg base CX0 1 "_law_mixed" sp_mixed) : Dn P w K mg base CX0 2 "_law_pool" (sp_pool K) := by
  refine D.dn sc__law_pool (fun _ _ _ _ _ _ us hl => match us, hl with | [_], _ => rfl) (fun vs H Q E h => ?_) (fun f cdv A outer s H vs Q E hr h => ?_)
  · obtain ⟨i, ns, rfl, _⟩ := h; rfl
  · obtain ⟨a, ns, rfl, ha, hn, q⟩ := h
    refine ⟨_, (pss_cons (ps_set (i := 1) sc__law_pool.nd rfl (Or.inl rfl) (pe_lst pa_nil))
      (pss_cons (ps_for PassesOwn.never rfl (pi_range1 (by rfl) T.n_range (pa_cons (pe_callB call_lenA (by rfl) T.n_len (by decide +kernel) (pa_cons (pv 0) pa_nil)) pa_nil)) (pg_name (i := 2) sc__law_pool.nd rfl (Or.inl rfl)) (pss_cons (ps_set (i := 3) sc__law_pool.nd rfl (Or.inl rfl) (pe_callB call_absA (by rfl) T.n_abs (by decide +kernel) (pa_cons (pe_callTy call_intA (by rfl) T.n_int (by decide +kernel) (pa_cons (pe_ix ix_seq (pv 0) (pv 2) (fun _ _ => rfl)) pa_nil)) pa_nil)))
      (pss_one (ps_if (pt_cmpR op_ltA (pv 3) (pe_op op_powA pe_int pe_int) (nomark _)) (pss_one (ps_for PassesOwn.never rfl (pi_range1 (by rfl) T.n_range (pa_cons pe_int pa_nil)) (pg_name (i := 4) sc__law_pool.nd rfl (Or.inl rfl)) (pss_one (ps_expr (pe_bm PySem.F.plainAttrs_list PySem.F.slot_list_append PySem.F.type_list_append mt_append (pv 1) (pa_cons (pe_d d__law_mixed hr (by decide) pass0 (by rfl) (pa_cons (pv 3) (pa_cons (pe_op op_addA (pe_op op_mulA pe_int (pv 2)) (pv 4)) pa_nil))) pa_nil)))))) (pss_one (ps_for PassesOwn.never rfl (pi_range1 (by rfl) T.n_range (pa_cons pe_int pa_nil)) (pg_name (i := 4) sc__law_pool.nd rfl (Or.inl rfl)) (pss_one (ps_if (pt_cmpR op_gtA (pv 3) pe_int (nomark _)) (pss_cons (ps_expr (pe_bm PySem.F.plainAttrs_list PySem.F.slot_list_append PySem.F.type_list_append mt_append (pv 1) (pa_cons (pe_op op_modA (pe_callTy call_intA (by rfl) T.n_int (by decide +kernel) (pa_cons (pv 3) pa_nil)) pe_int) pa_nil)))
      (pss_one (ps_set (i := 3) sc__law_pool.nd rfl (Or.inl rfl) (pe_op op_divA (pv 3) pe_int)))) pss_nil))))))))
      (pss_cons (ps_expr (pe_bm0 PySem.F.plainAttrs_list PySem.F.slot_list_reverse PySem.F.type_list_reverse mt_reverse (pv 1)))
      (pss_one (ps_ret (pv 1)))))), ?_⟩
    walk_at "rd"
    refine fun p hp => ?_
    have np : ∀ zs, Same H (upd H p (.lst zs)) := fun zs => UL.Same.new hp
    have haU : ∀ zs, SqL K (upd H p (.lst zs)) a (ns.map V.int) := fun zs => UL.Same.sqL (np zs) ha
    refine lenL (haU _) ⟨_, rfl, by omega, by simp; omega, FJ.rangeI (fun i σ' H' => ∃ ms : List Int, ms.length ≤ 60 * i ∧ (∃ x y z, σ' = [some (.ref a), some (.ref p), x, y, z]) ∧ H' = upd H p (.lst (ms.map V.int))) (by omega) ⟨[], Nat.zero_le _, ⟨_, _, _, rfl⟩, rfl⟩ (fun i σ' H' hi inv => ?_) fun σ' H' inv => ?_⟩
    · obtain ⟨ms, hm, ⟨x, y, z, rfl⟩, rfl⟩ := inv
      have hi2 : i < ns.length := by simpa using hi
      have hx : ns[i]? = some ns[i] := by simp [hi2]
      walk_at "rd"
      refine ixL (haU _) (atN (v := .int ns[i]) (by rw [List.getElem?_map, hx]; rfl)) ?_
      rw [cIntI, cAbsI]
      have habs : 0 ≤ (if ns[i] < 0 then -ns[i] else ns[i]) := by split <;> omega
      generalize (if ns[i] < 0 then -ns[i] else ns[i]) = av at habs
      refine ⟨⟨by decide, by decide, by decide⟩, av, rfl, ?_⟩
      have h10 : (10 : Int) ^ Int.toNat 18 = 10 ^ 18 := rfl
      rw [h10]
      by_cases hs : av < 10 ^ 18
      · rw [if_pos hs]
        refine ⟨by decide, by decide, FJ.rangeI (fun j σ' H' => ∃ m2 : List Int, m2.length ≤ 60 * i + j ∧ (∃ z, σ' = [some (.ref a), some (.ref p), some (.int i), some (.int av), z]) ∧ H' = upd H p (.lst (m2.map V.int))) (by decide) ⟨ms, hm, ⟨_, rfl⟩, rfl⟩ (fun j σ' H' hj inv => ?_) fun σ' H' inv => ?_⟩
        · obtain ⟨m2, hm2, ⟨z, rfl⟩, rfl⟩ := inv
          walk_at "rd"
          refine ⟨.inl ⟨rfl, _, .inl (.inl upd_same)⟩, .inr (by omega), av, _, rfl, habs, hs, by omega, by omega, fun r hr0 => ⟨p, _, _, rfl, rfl, upd_same, by rw [List.length_map, sizeLine_eq]; omega, m2 ++ [r], by simp; omega, ⟨_, rfl⟩, ?_⟩⟩
          rw [upd_upd, List.map_append]; rfl
        · obtain ⟨m2, hm2, ⟨z, rfl⟩, rfl⟩ := inv
          exact ⟨m2, by simp at hm2; omega, ⟨_, _, _, rfl⟩, rfl⟩
      · rw [if_neg hs]
        refine ⟨by decide, by decide, FJ.rangeI (fun j σ' H' => ∃ (m2 : List Int) (lv : Int), m2.length ≤ 60 * i + j ∧ 0 ≤ lv ∧ (∃ z, σ' = [some (.ref a), some (.ref p), some (.int i), some (.int lv), z]) ∧ H' = upd H p (.lst (m2.map V.int))) (by decide) ⟨ms, av, hm, habs, ⟨_, rfl⟩, rfl⟩ (fun j σ' H' hj inv => ?_) fun σ' H' inv => ?_⟩
        · obtain ⟨m2, lv, hm2, hlv, ⟨z, rfl⟩, rfl⟩ := inv
          walk_at "rd"
          by_cases h0 : 0 < lv
          · rw [if_pos h0]
            refine ⟨.inl ⟨rfl, _, .inl (.inl upd_same)⟩, by decide, p, _, _, rfl, rfl, upd_same, by rw [List.length_map, sizeLine_eq]; omega, ⟨by decide, by decide⟩, m2 ++ [lv % 1000], by simp; omega, lv / 1000, by omega, ⟨rfl, _, rfl⟩, ?_⟩
            rw [upd_upd, List.map_append]; rfl
          · rw [if_neg h0]
            exact ⟨m2, by omega, lv, hlv, ⟨rfl, _, rfl⟩, rfl⟩
        · obtain ⟨m2, lv, hm2, hlv, ⟨z, rfl⟩, rfl⟩ := inv
          exact ⟨m2, by simp at hm2; omega, ⟨_, _, _, rfl⟩, rfl⟩
    · obtain ⟨ms, hm, ⟨x, y, z, rfl⟩, rfl⟩ := inv
      walk_at "rd"
      refine ⟨.inl ⟨rfl, _, .inl (.inl upd_same)⟩, p, _, rfl, rfl, upd_same, ?_⟩
      exact q p _ hp ⟨ms.reverse, by rw [upd_upd, upd_same, List.map_reverse]⟩ (by rw [upd_upd]; exact np _)
end
end U

set_option Elab.async false
set_option linter.all false
set_option maxRecDepth 100000
set_option maxHeartbeats 4000000
namespace U
open PySem PySem.Spec PyProof.Rows L2 UL
local macro_rules | `(tactic| walk_at "rd") => `(tactic| simp only [tSeq, tAsg, tOp, tCB, tCons, tNil, tVar, tC, tB, tTest, tNot, tIfS, tNext, tYes, tUn, rU, tM0, tGFrom, tGThen, tG0, tYfLst, gcxK, tSubO, tProp, tListG, tMethG, tBMF, tFld, sFld, tMeth, tMake, tSl, tNoPart, tPart, tM1, gTup, gCons, gNil, tDrop, tFor_eq, tLc_eq, tLc2_eq, iRng1_eq, StX.tStar, iList, iTup, iStr, iAny_var, iZipB, tLenSetS, wipe, tVar, tAndV, tOrV, tNotV, tOr, tAnd, tLst, tTup, tBM, tBM0, tChain, tCall, cxK, noxK, addII, addSS, mulII, eqII, neII, neSS, cIntI, cAbsI, rI, rI0, rLt, rLe, rGt_, rGe_, rSub_, rMod, rPow, rDivW, rNeg, gName, tRet, L2.start, List.length_cons, List.length_nil, List.map_cons, List.map_nil, List.replicate, List.cons_append, List.nil_append, List.getElem?_cons_zero, List.getElem?_cons_succ, List.set_cons_zero, List.set_cons_succ, Option.some.injEq, exists_eq_left', exists_eq_left, V.int.injEq, V.bl.injEq, V.str.injEq, V.ref.injEq, V.ty.injEq, List.cons.injEq, and_true, true_and, reduceCtorEq, false_and, exists_false, or_false, false_or, exists_and_left, exists_and_right, List.append_nil, forall_eq, decide_eq_true_eq, Bool.not_eq_true, Nat.reduceAdd, Nat.reduceSub, List.replicate_zero, List.replicate_succ, Nat.zero_le, ite_true, ite_false, if_true, if_false])
section
variable {P : Program} {w : World} {K : PySem.W.Frag} {mg : Str → Option Value} {base : Heap}

/-! ### the states of n cells of size s -/
def ext (s : Nat) (st : List Int) : List (List Int) := (List.range s).map fun v : Nat => st ++ [(v : Int)]
def sts (s : Nat) : Nat → List (List Int)
  | 0 => [[]]
  | n + 1 => (sts s n).flatMap (ext s)
theorem ext_snoc (s : Nat) (st : List Int) : ext (s + 1) st = ext s st ++ [st ++ [(s : Int)]] := by
  unfold ext; rw [List.range_succ, List.map_append]; rfl
theorem take_flat {α β : Type} {L : List α} {i : Nat} {x : α} (h : L[i]? = some x) (f : α → List β) : (L.take (i + 1)).flatMap f = (L.take i).flatMap f ++ f x := by
  rw [List.take_add_one, h, List.flatMap_append]; simp
theorem sts_len (s : Nat) : ∀ n, (sts s n).length = s ^ n
  | 0 => rfl
  | n + 1 => by
    have e : ∀ L : List (List Int), (L.flatMap (ext s)).length = L.length * s := by
      intro L
      induction L with
      | nil => simp
      | cons x r ih => rw [List.flatMap_cons, List.length_append, ih, List.length_cons]; simp [ext]; rw [Nat.add_mul]; omega
    rw [sts, e, sts_len s n, Nat.pow_succ]
theorem sts_item (s : Nat) : ∀ n st, st ∈ sts s n → st.length = n ∧ ∀ v ∈ st, 0 ≤ v ∧ v < s
  | 0, st, h => by
    have : st = [] := by simpa [sts] using h
    subst this; simp
  | n + 1, st, h => by
    rw [sts, List.mem_flatMap] at h
    obtain ⟨s0, h0, h1⟩ := h
    obtain ⟨v, hv, rfl⟩ := List.mem_map.mp h1
    obtain ⟨l, q⟩ := sts_item s n s0 h0
    refine ⟨by simp [l], fun u hu => ?_⟩
    rcases List.mem_append.mp hu with z | z
    · exact q u z
    · have : u = (v : Int) := by simpa using z
      have := List.mem_range.mp hv
      omega
theorem pow_le {s n : Nat} (hs : s ≤ 3) (hn : n ≤ 3) : s ^ n ≤ 27 := by
  have : s ^ n ≤ 3 ^ n := Nat.pow_le_pow_left hs n
  have : 3 ^ n ≤ 3 ^ 3 := Nat.pow_le_pow_right (by decide) hn
  omega
/-- ts are tuples of these ints -/
def Tus (H : Hp) (ts : List Addr) (xs : List (List Int)) : Prop := Paired (fun t st => H t = some (.tup (st.map V.int))) ts xs
theorem Tus.same {H H' : Hp} {ts : List Addr} {xs : List (List Int)} (x : Tus H ts xs) (s : Same H H') : Tus H' ts xs := L2.Paired.mapP x fun _ _ z => s _ _ z
theorem Tus.put {H : Hp} {ts : List Addr} {xs : List (List Int)} {q : Addr} {zs : List V} {o : HO} (x : Tus H ts xs) (hq : H q = some (.lst zs)) : Tus (upd H q o) ts xs := L2.Paired.mapP x fun t st z => by
  rw [upd_ne (fun e => by rw [e, hq] at z; cases z)]; exact z
theorem pr_at {α β : Type} {F : α → β → Prop} : ∀ {l : List α} {m : List β}, Paired F l m → ∀ {i : Nat} {a : α}, l[i]? = some a → ∃ b, m[i]? = some b ∧ F a b
  | _, _, .nil, i, a, e => by simp at e
  | _, _, .cons r _, 0, a, e => by simp at e; subst e; exact ⟨_, rfl, r⟩
  | _, _, .cons _ t, i + 1, a, e => by
    obtain ⟨b, h1, h2⟩ := pr_at t (i := i) (a := a) (by simpa using e)
    exact ⟨b, by simpa using h1, h2⟩
theorem Tus.at {H : Hp} {ts : List Addr} {xs : List (List Int)} {i : Nat} {x : V} (h : Tus H ts xs) (e : (ts.map V.ref)[i]? = some x) : ∃ t st, x = .ref t ∧ xs[i]? = some st ∧ H t = some (.tup (st.map V.int)) := by
  rw [List.getElem?_map] at e
  cases ht : ts[i]? with
  | none => rw [ht] at e; cases e
  | some t =>
    rw [ht] at e; cases e
    obtain ⟨st, h1, h2⟩ := pr_at h ht
    exact ⟨t, st, rfl, h1, h2⟩
theorem catT {H : Hp} {Q : VK} {a b : Addr} {xs ys : List V} (ha : SqT K H a xs) (hb : H b = some (.tup ys)) (hy : ys ≠ []) (hl : xs.length + ys.length ≤ sizeLine) (q : ∀ r H', H' r = some (.tup (xs ++ ys)) → Same H H' → Q (.ref r) H') : rAddA K (.ref a) (.ref b) H Q :=
  .inr (.inr (.inl ⟨a, b, xs, ys, rfl, rfl, ha, .inl (.inl hb), hl, fun e => q b H (by rw [e]; exact hb) (fun _ _ z => z), fun _ e => absurd e hy, fun _ _ p hp => q p _ upd_same (UL.Same.new hp)⟩))
theorem flat_len (s : Nat) : ∀ L : List (List Int), (L.flatMap (ext s)).length = L.length * s
  | [] => by simp
  | x :: r => by
    rw [List.flatMap_cons, List.length_append, flat_len s r, List.length_cons]
    simp only [ext, List.length_map, List.length_range, Nat.add_mul]
    omega
theorem ext_len (s : Nat) (st : List Int) : (ext s st).length = s := by simp [ext]
theorem Same.tr {H H1 H2 : Hp} (a : Same H H1) (b : Same H1 H2) : Same H H2 := fun c o e => b c o (a c o e)
theorem Same.free {H H' : Hp} {p : Addr} (s : Same H H') (h : H' p = none) : H p = none := by
  cases e : H p with
  | none => rfl
  | some o => rw [s _ _ e] at h; cases h
def sp_states : Sp := fun vs H Q _ => ∃ n s : Nat, vs = [.int n, .int s] ∧ n ≤ 3 ∧ s ≤ 3 ∧ ∀ q H' ts, H q = none → H' q = some (.lst (ts.map V.ref)) → Tus H' ts (sts s n) → Same H H' → Q (.ref q) H'
end
end U

set_option Elab.async false
set_option linter.all false
set_option maxRecDepth 100000
set_option maxHeartbeats 4000000
namespace U
open PySem PySem.Spec PyProof.Rows L2 UL
local macro_rules | `(tactic| walk_at "rd") => `(tactic| simp only [tSeq, tAsg, tOp, tCB, tCons, tNil, tVar, tC, tB, tTest, tNot, tIfS, tNext, tYes, tUn, rU, tM0, tGFrom, tGThen, tG0, tYfLst, gcxK, tSubO, tProp, tListG, tMethG, tBMF, tFld, sFld, tMeth, tMake, tSl, tNoPart, tPart, tM1, gTup, gCons, gNil, tDrop, tFor_eq, tLc_eq, tLc2_eq, iRng1_eq, StX.tStar, iList, iTup, iStr, iAny_var, iZipB, tLenSetS, wipe, tVar, tAndV, tOrV, tNotV, tOr, tAnd, tLst, tTup, tBM, tBM0, tChain, tCall, cxK, noxK, addII, addSS, mulII, eqII, neII, neSS, cIntI, cAbsI, rI, rI0, rLt, rLe, rGt_, rGe_, rSub_, rMod, rPow, rDivW, rNeg, gName, tRet, L2.start, List.length_cons, List.length_nil, List.map_cons, List.map_nil, List.replicate, List.cons_append, List.nil_append, List.getElem?_cons_zero, List.getElem?_cons_succ, List.set_cons_zero, List.set_cons_succ, Option.some.injEq, exists_eq_left', exists_eq_left, V.int.injEq, V.bl.injEq, V.str.injEq, V.ref.injEq, V.ty.injEq, List.cons.injEq, and_true, true_and, reduceCtorEq, false_and, exists_false, or_false, false_or, exists_and_left, exists_and_right, List.append_nil, forall_eq, decide_eq_true_eq, Bool.not_eq_true, Nat.reduceAdd, Nat.reduceSub, List.replicate_zero, List.replicate_succ, Nat.zero_le, ite_true, ite_false, if_true, if_false])
section
variable {P : Program} {w : World} {K : PySem.W.Frag} {mg : Str → Option Value} {base : Heap}

theorem isiT {H : Hp} {a : Addr} {xs : List V} {t : String} {r : Bool} (h : H a = some (.tup xs)) (hk : PySem.W.kitOne K (.type "tuple") (.type t) = some r) {Q : VK} (q : Q (.bl r) H) : rIsi K [.ref a, .ty t] H Q := ⟨_, _, _, _, _, rfl, .ty t, .base (.tup h), hk, q⟩
theorem isiLs {H : Hp} {a : Addr} {xs : List V} {t : String} {r : Bool} (h : H a = some (.lst xs)) (hk : PySem.W.kitOne K (.type "list") (.type t) = some r) {Q : VK} (q : Q (.bl r) H) : rIsi K [.ref a, .ty t] H Q := ⟨_, _, _, _, _, rfl, .ty t, .base (.lst h), hk, q⟩
theorem isiG {H : Hp} {a : Addr} {ty t : String} {r : Bool} (h : TyX K H (.ref a) (.type ty)) (hk : PySem.W.kitOne K (.type ty) (.type t) = some r) {Q : VK} (q : Q (.bl r) H) : rIsi K [.ref a, .ty t] H Q := ⟨_, _, _, _, _, rfl, .ty t, h, hk, q⟩
abbrev s_check_names : Stmt := top 14
abbrev sc_check_names_N : List Str := ["names", ".0", "name"]
theorem sc_check_names : FnScope sc_check_names_N ["names"] (defScope s_check_names) := ⟨rfl, rfl, rfl, by decide +kernel, rfl, by decide +kernel, by decide +kernel⟩
-- 0 names, 1 .0, 2 name
def sp_chknames : PySem.W.Frag → Sp := fun K vs H Q _ => ∃ a xs, vs = [.ref a] ∧ SqA K H a (xs.map V.str) ∧ 1 ≤ xs.length ∧ xs.length ≤ 3 ∧ (∀ z ∈ xs, isNm z) ∧ (met xs).length = xs.length ∧ ∀ H', Same H H' → Q .non H'
theorem d_chknames (T : Nm mg) (D : TD K mg "check_names" s_check_names) (d_is_name : Dn P w K mg base CX0 1 "is_name" sp_isname) : Dn P w K mg base CX0 2 "check_names" (sp_chknames K) := by
  refine D.dn sc_check_names (fun _ _ _ _ _ _ us hl => match us, hl with | [_], _ => rfl) (fun vs H Q E h => ?_) (fun f cdv A outer s H vs Q E hr h => ?_)
  · obtain ⟨a, xs, rfl, _⟩ := h; rfl
  · obtain ⟨a, xs, rfl, ha, h1, h2, hn, hm, q⟩ := h
    refine ⟨_, (pss_cons (ps_if (pt_not (pt_chain op_leA op_leA pe_int (pe_callB call_lenA (by rfl) T.n_len (by decide +kernel) (pa_cons (pv 0) pa_nil)) (C8.pe_gc (by rfl) T.c_MOST_CELLS))) pss_never pss_nil)
      (pss_cons (ps_if (pt_not (pt_val (pe_callB (cr_all rfl) (by rfl) T.n_all (by decide +kernel) (pa_cons (pe_lc (own := [(".0", 1), ("name", 2)]) (g := (gName 2)) (tt := tYes) rfl sc_check_names.nd (pi_any (pv 0)) (blkOk_by (N := sc_check_names_N) (sc := defScope s_check_names) (by decide +kernel)) (fun _ _ _ _ _ => pg_name (i := 2) sc_check_names.nd rfl (Or.inl rfl)) (fun _ _ _ _ _ => pts_nil) (fun _ _ _ _ _ => (pe_d d_is_name hr (by decide) pass0 (by rfl) (pa_cons (pv 2) pa_nil)))) pa_nil)))) pss_never pss_nil)
      (pss_one (ps_if (pt_cmpR op_ltA (pe_lenSetS rfl (by rfl) T.n_len (by rfl) T.n_set (pv 0)) (pe_callB call_lenA (by rfl) T.n_len (by decide +kernel) (pa_cons (pv 0) pa_nil)) (nomark _)) pss_never pss_nil)))), ?_⟩
    walk_at "rd"
    obtain ⟨k, ha⟩ := ha
    refine Kd.len ha ⟨_, rfl, ?_⟩
    rw [if_pos (by rw [List.length_map]; omega)]
    refine ⟨_, rfl, ?_⟩
    rw [if_neg (by rw [List.length_map]; simp; omega)]
    refine ⟨k, ⟨_, ha⟩, fun D hD => LJ.it (walk_any (xs := xs.map V.str) k) (fun i H2 => ∃ bs : List Bool, bs.length = i ∧ bs.all id = true ∧ H2 D = some (.lst (bs.map V.bl)) ∧ Same H H2) ⟨[], rfl, rfl, upd_same, UL.Same.new hD⟩ (fun i H2 _ inv => ?_) (fun i x H2 H3 hi inv yy => ?_) fun H2 inv => ?_⟩
    · obtain ⟨_, _, _, _, s2⟩ := inv
      exact Kd.same s2 ha
    · obtain ⟨bs, hb, ht, hD2, s2⟩ := inv
      obtain ⟨rfl, hx⟩ := yy
      refine ⟨rfl, ?_⟩
      walk_at "rd"
      rw [List.getElem?_map] at hx
      cases hz : xs[i]? with
      | none => rw [hz] at hx; cases hx
      | some z =>
        rw [hz] at hx; cases hx
        rw [List.length_map] at hi
        refine ⟨z, rfl, hn z (List.mem_of_getElem? hz), fun H4 s4 => ⟨_, s4 _ _ hD2, by rw [List.length_map, sizeLine_eq]; omega, bs ++ [true], by simp [hb], by simp [ht], by rw [upd_same, List.map_append]; rfl, UL.Same.put (Same.tr s2 s4) hD⟩⟩
    · obtain ⟨bs, hb, ht, hD2, s2⟩ := inv
      refine ⟨D, bs, rfl, .inl (.inl hD2), _, rfl, ?_⟩
      rw [ht, if_neg (by decide)]
      refine ⟨xs, Kd.or (Kd.same s2 ha), by omega, Kd.len (Kd.same s2 ha) ⟨_, rfl, ?_⟩⟩
      rw [if_neg (by rw [hm, List.length_map]; omega)]
      exact q _ s2
abbrev s_check_state : Stmt := top 17
abbrev sc_check_state_N : List Str := ["names", "size", "state", "name", "value"]
theorem sc_check_state : FnScope sc_check_state_N ["names", "size", "state"] (defScope s_check_state) := ⟨rfl, rfl, rfl, by decide +kernel, rfl, by decide +kernel, by decide +kernel⟩
-- 0 names, 1 size, 2 state, 3 name, 4 value
def sp_chkst : PySem.W.Frag → Sp := fun K vs H Q _ => ∃ (a b : Addr) (xs : List V) (ys : List Int) (s : Int), vs = [.ref a, .int s, .ref b] ∧ SqA K H a xs ∧ SqA K H b (ys.map V.int) ∧ xs.length = ys.length ∧ (∀ v ∈ ys, 0 ≤ v ∧ v < s) ∧ ∀ H', Same H H' → Q .non H'
theorem d_chkst (T : Nm mg) (D : TD K mg "check_state" s_check_state) (d_is_value : Dn P w K mg base CX0 1 "is_value" sp_isval) : Dn P w K mg base CX0 2 "check_state" (sp_chkst K) := by
  refine D.dn sc_check_state (fun _ _ _ _ _ _ us hl => match us, hl with | [_, _, _], _ => rfl) (fun vs H Q E h => ?_) (fun f cdv A outer s H vs Q E hr h => ?_)
  · obtain ⟨a, b, xs, ys, n, rfl, _⟩ := h; rfl
  · obtain ⟨a, b, xs, ys, n, rfl, ha, hb, hl, hv, q⟩ := h
    refine ⟨_, (pss_cons (ps_if (pt_cmpR (op_neA (hr.units)) (pe_callB call_lenA (by rfl) T.n_len (by decide +kernel) (pa_cons (pv 2) pa_nil)) (pe_callB call_lenA (by rfl) T.n_len (by decide +kernel) (pa_cons (pv 0) pa_nil)) (nomark _)) pss_never pss_nil)
      (pss_one (ps_for PassesOwn.never rfl (pi_zipB (by rfl) T.n_zip (pa_cons (pv 0) (pa_cons (pv 2) pa_nil))) (pg_tup rfl (pgs_cons (pg_name (i := 3) sc_check_state.nd rfl (Or.inl rfl)) (pgs_cons (pg_name (i := 4) sc_check_state.nd rfl (Or.inl rfl)) pgs_nil))) (pss_one (ps_if (pt_not (pt_val (pe_d d_is_value hr (by decide) pass0 (by rfl) (pa_cons (pv 4) (pa_cons (pv 1) pa_nil))))) pss_never pss_nil))))), ?_⟩
    walk_at "rd"
    obtain ⟨k1, ha⟩ := ha
    obtain ⟨k2, hb⟩ := hb
    refine Kd.len hb (Kd.len ha (neII.mpr ⟨_, rfl, ?_⟩))
    rw [if_neg (by rw [List.length_map, hl]; simp)]
    refine ⟨a, b, ⟨rfl, rfl⟩, xs, _, k1, ha, k2, hb, FJ.zip (xs := xs) (ys := ys.map V.int) (by rw [List.length_map, hl]) (fun i σ' H' => (∃ x y, σ' = [some (.ref a), some (.int n), some (.ref b), x, y]) ∧ Same H H') ⟨⟨_, _, rfl⟩, fun _ _ z => z⟩ (fun i σ' H' inv => ?_) (fun i x y T σ' H' hx hy inv hT => ?_) fun σ' H' inv => ?_⟩
    · exact ⟨Kd.same inv.2 ha, Kd.same inv.2 hb⟩
    · obtain ⟨⟨x', y', rfl⟩, s2⟩ := inv
      walk_at "rd"
      have hy2 : ∃ v, y = .int v ∧ v ∈ ys := by
        rw [List.getElem?_map] at hy
        cases hz : ys[i]? with
        | none => rw [hz] at hy; cases hy
        | some z => rw [hz] at hy; cases hy; exact ⟨z, rfl, List.mem_of_getElem? hz⟩
      obtain ⟨v, rfl, hvm⟩ := hy2
      refine ⟨[x, .int v], .inl (.inl upd_same), rfl, x, [.int v], rfl, .int v, [], rfl, rfl, v, n, rfl, _, rfl, ?_⟩
      have h2 := hv v hvm
      rw [decide_eq_true h2.1, decide_eq_true h2.2, if_neg (by decide)]
      exact ⟨⟨_, rfl⟩, UL.Same.put s2 (Same.free s2 hT)⟩
    · obtain ⟨⟨x', y', rfl⟩, s2⟩ := inv
      exact q _ s2
abbrev s__law_same : Stmt := top 28
abbrev sc__law_same_N : List Str := ["_law_actual", "_law_due_here", "_law_k"]
theorem sc__law_same : FnScope sc__law_same_N ["_law_actual", "_law_due_here"] (defScope s__law_same) := ⟨rfl, rfl, rfl, by decide +kernel, rfl, by decide +kernel, by decide +kernel⟩
-- 0 _law_actual, 1 _law_due_here, 2 _law_k
def sp_same : Sp := fun vs H Q _ => ∃ a b, ∃ xs : List Int, vs = [.ref a, .ref b] ∧ H a = some (.tup (xs.map V.int)) ∧ H b = some (.tup (xs.map V.int)) ∧ xs.length ≤ 1000 ∧ Q (.bl true) H
theorem d_same (T : Nm mg) (D : TD K mg "_law_same" s__law_same) (d__law_is_number : Dn P w K mg base CX0 1 "_law_is_number" sp_isnum) : Dn P w K mg base CX0 2 "_law_same" sp_same := by
  refine D.dn sc__law_same (fun _ _ _ _ _ _ us hl => match us, hl with | [_, _], _ => rfl) (fun vs H Q E h => ?_) (fun f cdv A outer s H vs Q E hr h => ?_)
  · obtain ⟨a, b, xs, rfl, _⟩ := h; rfl
  · obtain ⟨a, b, xs, rfl, ha, hb, hl, q⟩ := h
    refine ⟨_, (pss_cons (ps_if (pw_or (pt_not (pt_val (pe_callB call_isi (by rfl) T.n_isinstance (by decide +kernel) (pa_cons (pv 0) (pa_cons (pe_bltn (v := .ty "tuple") (by rfl) T.n_tuple (by decide +kernel) rfl) pa_nil))))) (pw_or1 (pt_cmpR (op_neA (hr.units)) (pe_callB call_lenA (by rfl) T.n_len (by decide +kernel) (pa_cons (pv 0) pa_nil)) (pe_callB call_lenA (by rfl) T.n_len (by decide +kernel) (pa_cons (pv 1) pa_nil)) (nomark _)))).pt (pss_one (ps_ret pe_bl)) pss_nil)
      (pss_cons (ps_for PassesOwn.never rfl (pi_range1 (by rfl) T.n_range (pa_cons (pe_callB call_lenA (by rfl) T.n_len (by decide +kernel) (pa_cons (pv 1) pa_nil)) pa_nil)) (pg_name (i := 2) sc__law_same.nd rfl (Or.inl rfl)) (pss_one (ps_if (pw_or (pt_not (pt_val (pe_d d__law_is_number hr (by decide) pass0 (by rfl) (pa_cons (pe_ix ix_seq (pv 0) (pv 2) (fun _ _ => rfl)) pa_nil)))) (pw_or1 (pt_cmpR (op_neA (hr.units)) (pe_ix ix_seq (pv 0) (pv 2) (fun _ _ => rfl)) (pe_ix ix_seq (pv 1) (pv 2) (fun _ _ => rfl)) (nomark _)))).pt (pss_one (ps_ret pe_bl)) pss_nil)))
      (pss_one (ps_ret pe_bl)))), ?_⟩
    walk_at "rd"
    refine isiT (r := true) ha (by rfl) ⟨true, rfl, ?_⟩
    rw [if_neg (by decide)]
    refine lenT (.inl (.inl ha)) (lenT (.inl (.inl hb)) (neII.mpr ⟨_, rfl, ?_⟩))
    rw [if_neg (by simp)]
    refine lenT (.inl (.inl hb)) ⟨_, rfl, by omega, by rw [List.length_map]; omega, FJ.rangeI (fun i σ' H' => ∃ z, σ' = [some (.ref a), some (.ref b), z] ∧ H' = H) (by omega) ⟨_, rfl, rfl⟩ (fun i σ' H' hi inv => ?_) fun σ' H' inv => ?_⟩
    · obtain ⟨z, rfl, rfl⟩ := inv
      have hi2 : i < xs.length := by rw [List.length_map] at hi; omega
      have hx : (xs.map V.int)[i]? = some (.int xs[i]) := by rw [List.getElem?_map]; simp [hi2]
      walk_at "rd"
      refine ixT (.inl (.inl ha)) (atN hx) ⟨_, rfl, ?_⟩
      refine ⟨true, rfl, ?_⟩
      rw [if_neg (by decide)]
      refine ixT (.inl (.inl ha)) (atN hx) (ixT (.inl (.inl hb)) (atN hx) (neII.mpr ⟨_, rfl, ?_⟩))
      rw [if_neg (by simp)]
    · obtain ⟨z, rfl, rfl⟩ := inv
      walk_at "rd"
      exact q
end
end U

set_option Elab.async false
set_option linter.all false
set_option maxRecDepth 100000
set_option maxHeartbeats 4000000
namespace U
open PySem PySem.Spec PyProof.Rows L2 UL
local macro_rules | `(tactic| walk_at "rd") => `(tactic| simp only [tSeq, tAsg, tOp, tCB, tCons, tNil, tVar, tC, tB, tTest, tNot, tIfS, tNext, tYes, tUn, rU, tM0, tGFrom, tGThen, tG0, tYfLst, gcxK, tSubO, tProp, tListG, tMethG, tBMF, tFld, sFld, tMeth, tMake, tSl, tNoPart, tPart, tM1, gTup, gCons, gNil, tDrop, tFor_eq, tLc_eq, tLc2_eq, iRng1_eq, StX.tStar, iList, iTup, iStr, iAny_var, iZipB, tLenSetS, wipe, tVar, tAndV, tOrV, tNotV, tOr, tAnd, tLst, tTup, tBM, tBM0, tChain, tCall, cxK, noxK, addII, addSS, mulII, eqII, neII, neSS, cIntI, cAbsI, rI, rI0, rLt, rLe, rGt_, rGe_, rSub_, rMod, rPow, rDivW, rNeg, gName, tRet, L2.start, List.length_cons, List.length_nil, List.map_cons, List.map_nil, List.replicate, List.cons_append, List.nil_append, List.getElem?_cons_zero, List.getElem?_cons_succ, List.set_cons_zero, List.set_cons_succ, Option.some.injEq, exists_eq_left', exists_eq_left, V.int.injEq, V.bl.injEq, V.str.injEq, V.ref.injEq, V.ty.injEq, List.cons.injEq, and_true, true_and, reduceCtorEq, false_and, exists_false, or_false, false_or, exists_and_left, exists_and_right, List.append_nil, forall_eq, decide_eq_true_eq, Bool.not_eq_true, Nat.reduceAdd, Nat.reduceSub, List.replicate_zero, List.replicate_succ, Nat.zero_le, ite_true, ite_false, if_true, if_false])
section
variable {P : Program} {w : World} {K : PySem.W.Frag} {mg : Str → Option Value} {base : Heap}

abbrev s__law_names : Stmt := top 25
abbrev sc__law_names_N : List Str := ["_law_pool_here", "_law_count", "_law_letters", "_law_choice", "_law_shift", "_law_stride", "_law_front", "_law_k", "_law_back", "_law_names_here", "_law_name"]
theorem sc__law_names : FnScope sc__law_names_N ["_law_pool_here", "_law_count"] (defScope s__law_names) := ⟨rfl, rfl, rfl, by decide +kernel, rfl, by decide +kernel, by decide +kernel⟩
-- 0 _law_pool_here, 1 _law_count, 2 _law_letters, 3 _law_choice, 4 _law_shift, 5 _law_stride, 6 _law_front, 7 _law_k, 8 _law_back, 9 _law_names_here, 10 _law_name
abbrev abc : Str := "abcdefghijklmnopqrstuvwxyz"
def InL (z : Str) : Prop := ∀ c ∈ z.cps.toList, c ∈ abc.cps.toList
theorem abc_eq : abc.cps.toList = (List.range 26).map (97 + ·) := by decide +kernel
theorem abc_len : abc.length = 26 := by decide +kernel
theorem abc_at {i : Int} (h0 : 0 ≤ i) (h1 : i < 26) : atI abc.cps.toList i = some (97 + i.toNat) := by
  have e : ((i.toNat : Nat) : Int) = i := by omega
  rw [← e]
  refine atN ?_
  rw [abc_eq, List.getElem?_map, List.getElem?_range (by omega)]
  simp; omega
theorem abc_mem {n : Nat} (h : n < 26) : 97 + n ∈ abc.cps.toList := by
  rw [abc_eq]; exact List.mem_map.mpr ⟨n, List.mem_range.mpr h, rfl⟩
theorem inL_app {x y : Str} (hx : InL x) (hy : InL y) : InL (x ++ y) := fun c hc => by
  have : (x ++ y).cps.toList = x.cps.toList ++ y.cps.toList := by show (x.cps ++ y.cps).toList = _; simp
  rw [this] at hc
  rcases List.mem_append.mp hc with z | z
  · exact hx c z
  · exact hy c z
theorem inL_one {n : Nat} (h : n < 26) : InL ⟨#[97 + n]⟩ := fun c hc => by
  have : c = 97 + n := by simpa using hc
  rw [this]; exact abc_mem h
theorem inL_nil : InL Str.empty := fun c hc => by simp [Str.empty] at hc
theorem len_app (x y : Str) : (x ++ y).length = x.length + y.length := by show (x.cps ++ y.cps).size = _; simp; rfl
theorem len_one (c : Nat) : (⟨#[c]⟩ : Str).length = 1 := rfl
/-- the text at one letter, then anything -/
theorem mid_inj {f b b' s s' : Str} {c c' : Nat} (h : ((f ++ ⟨#[c]⟩) ++ b) ++ s = ((f ++ ⟨#[c']⟩) ++ b') ++ s') : c = c' := by
  have e : ∀ (b s : Str) (c : Nat), (((f ++ ⟨#[c]⟩) ++ b) ++ s).cps.toList = f.cps.toList ++ (c :: (b.cps.toList ++ s.cps.toList)) := fun b s c => by
    show (((f.cps ++ #[c]) ++ b.cps) ++ s.cps).toList = _
    simp
  have h2 := congrArg (fun z : Str => z.cps.toList) h
  simp only [e] at h2
  have h3 := List.append_cancel_left h2
  exact (List.cons.inj h3).1
theorem app_nil (x : Str) : x ++ Str.empty = x := by
  show (⟨x.cps ++ #[]⟩ : Str) = x
  simp
theorem drawI {p : Addr} {m : Int} {H : Hp} {Q : VK} {E : XK} (hm : 0 < m) (hp : Pl H p) (q : ∀ r H', 0 ≤ r → r < m → Pl H' p → But p H H' → Q (.int r) H') : sp_draw [.ref p, .int m] H Q E := ⟨p, m, rfl, hm, hp, q⟩
theorem But.free' {H H' : Hp} {p q : Addr} (s : But p H H') (x : Pl H' p) (h : H' q = none) : H q = none := UL.But.free s x h
theorem But.tr {p : Addr} {H H1 H2 : Hp} (a : But p H H1) (b : But p H1 H2) : But p H H2 := UL.But.trans a b
theorem But.nw {p q : Addr} {H H' : Hp} {o : HO} (a : But p H H') (x : Pl H' p) (h : H' q = none) : But p H (upd H' q o) := But.tr a (UL.Same.but (UL.Same.new h))
/-- the names so far: one letter differs, what stands behind is of no account -/
def NU (fr bk : Str) (sh st : Int) (xs : List Str) : Prop := ∀ (j : Nat) x, xs[j]? = some x → ∃ s', InL s' ∧ s'.length ≤ 1 ∧ x = ((fr ++ ⟨#[97 + ((sh + st * j) % 26).toNat]⟩) ++ bk) ++ s'
theorem mod26 (i : Int) : (i % 26).toNat < 26 := by
  have h0 := Int.emod_nonneg i (show (26 : Int) ≠ 0 by decide)
  have h1 := Int.emod_lt_of_pos i (show (0 : Int) < 26 by decide)
  omega
theorem NU.nm {fr bk : Str} {sh st : Int} {xs : List Str} (h : NU fr bk sh st xs) (hf : fr.length ≤ 3) (hb : bk.length ≤ 3) (hfi : InL fr) (hbi : InL bk) : ∀ z ∈ xs, isNm z := by
  intro z hz
  obtain ⟨j, hj⟩ := List.getElem?_of_mem hz
  obtain ⟨s', hs, hl, rfl⟩ := h j z hj
  refine ⟨?_, ?_, inL_app (inL_app (inL_app hfi (inL_one (mod26 _))) hbi) hs⟩ <;> simp only [len_app, len_one] <;> omega
theorem met1 (a : Str) : (met [a]).length = 1 := rfl
theorem met2 {a b : Str} (h : a ≠ b) : (met [a, b]).length = 2 := by
  have h1 : (a == b) = false := beq_eq_false_iff_ne.mpr h
  simp [met, Ne.symm h]
theorem met3 {a b c : Str} (h : a ≠ b) (h2 : a ≠ c) (h3 : b ≠ c) : (met [a, b, c]).length = 3 := by
  have e1 : (a == b) = false := beq_eq_false_iff_ne.mpr h
  have e2 : (a == c) = false := beq_eq_false_iff_ne.mpr h2
  have e3 : (b == c) = false := beq_eq_false_iff_ne.mpr h3
  simp [met, Ne.symm h, Ne.symm h2, Ne.symm h3]
theorem NU.ne {fr bk : Str} {sh st : Int} {xs : List Str} (h : NU fr bk sh st xs) (hst : st = 1 ∨ st = 25 ∨ st = 7) {i j : Nat} {x y : Str} (hi : xs[i]? = some x) (hj : xs[j]? = some y) (hij : i < j) (hj3 : j < 3) : x ≠ y := by
  obtain ⟨s1, _, _, rfl⟩ := h i x hi
  obtain ⟨s2, _, _, rfl⟩ := h j y hj
  intro e
  have e2 := mid_inj e
  have h1 : i = 0 ∨ i = 1 := by omega
  have h2 : j = 1 ∨ j = 2 := by omega
  rcases h1 with rfl | rfl <;> rcases h2 with rfl | rfl <;> rcases hst with rfl | rfl | rfl <;> simp at e2 <;> omega
theorem NU.met {fr bk : Str} {sh st : Int} {xs : List Str} (h : NU fr bk sh st xs) (hl : xs.length ≤ 3) (hst : st = 1 ∨ st = 25 ∨ st = 7) : (met xs).length = xs.length := by
  match xs, hl, h with
  | [], _, _ => rfl
  | [a], _, _ => exact met1 a
  | [a, b], _, h => exact met2 (h.ne hst (i := 0) (j := 1) rfl rfl (by decide) (by decide))
  | [a, b, c], _, h => exact met3 (h.ne hst (i := 0) (j := 1) rfl rfl (by decide) (by decide)) (h.ne hst (i := 0) (j := 2) rfl rfl (by decide) (by decide)) (h.ne hst (i := 1) (j := 2) rfl rfl (by decide) (by decide))
theorem NU.snoc {fr bk : Str} {sh st : Int} {xs : List Str} (h : NU fr bk sh st xs) {s' : Str} (hs : InL s') (hl : s'.length ≤ 1) : NU fr bk sh st (xs ++ [((fr ++ ⟨#[97 + ((sh + st * xs.length) % 26).toNat]⟩) ++ bk) ++ s']) := fun j x hj => by
  by_cases hlt : j < xs.length
  · rw [List.getElem?_append_left hlt] at hj
    exact h j x hj
  · have : j = xs.length := by have := (List.getElem?_eq_some_iff.mp hj).1; simp at this; omega
    subst this
    simp at hj
    subst hj
    exact ⟨s', hs, hl, rfl⟩
theorem mulSI {H : Hp} {Q : VK} {z : Str} {n : Int} (h : n = 0 ∨ n = 1) (q : ∀ y : Str, (y = Str.empty ∨ y = z) → Q (.str y) H) : rMulA K (.str z) (.int n) H Q :=
  .inr (.inl ⟨z, n, rfl, rfl, h.elim (fun e => .inl ⟨e, q _ (.inl rfl)⟩) fun e => .inr ⟨e, q _ (.inr rfl)⟩⟩)
theorem mod26I (i : Int) : 0 ≤ i % 26 ∧ i % 26 < 26 := ⟨Int.emod_nonneg i (by decide), Int.emod_lt_of_pos i (by decide)⟩
theorem nm_read : isNm "read" := by unfold isNm; decide +kernel
theorem nm_as : isNm "as" := by unfold isNm; decide +kernel
theorem nm_write : isNm "write" := by unfold isNm; decide +kernel
def sp_names : Sp := fun vs H Q _ => ∃ (p : Addr) (c : Nat), vs = [.ref p, .int c] ∧ Pl H p ∧ 1 ≤ c ∧ c ≤ 3 ∧ ∀ q H' (xs : List Str), xs.length = c → (∀ z ∈ xs, isNm z) → (met xs).length = xs.length → H q = none → H' q = some (.lst (xs.map V.str)) → Pl H' p → But p H H' → Q (.ref q) H'
theorem d_names (T : Nm mg) (D : TD K mg "_law_names" s__law_names) (d__law_draw : Dn P w K mg base CX0 1 "_law_draw" sp_draw) : Dn P w K mg base CX0 2 "_law_names" sp_names := by
  refine D.dn sc__law_names (fun _ _ _ _ _ _ us hl => match us, hl with | [_, _], _ => rfl) (fun vs H Q E h => ?_) (fun f cdv A outer s H vs Q E hr h => ?_)
  · obtain ⟨a, xs, rfl, _⟩ := h; rfl
  · obtain ⟨p, c, rfl, hp, h1, h3, q⟩ := h
    refine ⟨_, (pss_cons (ps_set (i := 2) sc__law_names.nd rfl (Or.inl rfl) pe_str)
      (pss_cons (ps_set (i := 3) sc__law_names.nd rfl (Or.inl rfl) (pe_d d__law_draw hr (by decide) pass0 (by rfl) (pa_cons (pv 0) (pa_cons pe_int pa_nil))))
      (pss_cons (ps_if (pt_cmpR (op_eqA (hr.units)) (pv 3) pe_int (nomark _)) (pss_one (ps_ret (pe_slice sl_list (pe_lst (pa_cons pe_str (pa_cons pe_str (pa_cons pe_str (pa_cons pe_str (pa_cons pe_str (pa_cons pe_str pa_nil))))))) po_none (po_some (pv 1))))) pss_nil)
      (pss_cons (ps_set (i := 4) sc__law_names.nd rfl (Or.inl rfl) (pe_d d__law_draw hr (by decide) pass0 (by rfl) (pa_cons (pv 0) (pa_cons pe_int pa_nil))))
      (pss_cons (ps_set (i := 5) sc__law_names.nd rfl (Or.inl rfl) (pe_ix ix_seq (pe_lst (pa_cons pe_int (pa_cons pe_int (pa_cons pe_int pa_nil)))) (pe_d d__law_draw hr (by decide) pass0 (by rfl) (pa_cons (pv 0) (pa_cons pe_int pa_nil))) (fun _ _ => rfl)))
      (pss_cons (ps_set (i := 6) sc__law_names.nd rfl (Or.inl rfl) pe_str)
      (pss_cons (ps_for PassesOwn.never rfl (pi_range1 (by rfl) T.n_range (pa_cons (pe_d d__law_draw hr (by decide) pass0 (by rfl) (pa_cons (pv 0) (pa_cons pe_int pa_nil))) pa_nil)) (pg_name (i := 7) sc__law_names.nd rfl (Or.inl rfl)) (pss_one (ps_set (i := 6) sc__law_names.nd rfl (Or.inl rfl) (pe_op op_addA (pv 6) (pe_ix ix_seq (pv 2) (pe_d d__law_draw hr (by decide) pass0 (by rfl) (pa_cons (pv 0) (pa_cons pe_int pa_nil))) (fun _ _ => rfl))))))
      (pss_cons (ps_set (i := 8) sc__law_names.nd rfl (Or.inl rfl) pe_str)
      (pss_cons (ps_for PassesOwn.never rfl (pi_range1 (by rfl) T.n_range (pa_cons (pe_d d__law_draw hr (by decide) pass0 (by rfl) (pa_cons (pv 0) (pa_cons pe_int pa_nil))) pa_nil)) (pg_name (i := 7) sc__law_names.nd rfl (Or.inl rfl)) (pss_one (ps_set (i := 8) sc__law_names.nd rfl (Or.inl rfl) (pe_op op_addA (pv 8) (pe_ix ix_seq (pv 2) (pe_d d__law_draw hr (by decide) pass0 (by rfl) (pa_cons (pv 0) (pa_cons pe_int pa_nil))) (fun _ _ => rfl))))))
      (pss_cons (ps_set (i := 9) sc__law_names.nd rfl (Or.inl rfl) (pe_lst pa_nil))
      (pss_cons (ps_for PassesOwn.never rfl (pi_range1 (by rfl) T.n_range (pa_cons (pv 1) pa_nil)) (pg_name (i := 7) sc__law_names.nd rfl (Or.inl rfl)) (pss_cons (ps_set (i := 10) sc__law_names.nd rfl (Or.inl rfl) (pe_op op_addA (pe_op op_addA (pv 6) (pe_ix ix_seq (pv 2) (pe_op op_modA (pe_callTy call_intA (by rfl) T.n_int (by decide +kernel) (pa_cons (pe_op op_addA (pv 4) (pe_op op_mulA (pv 5) (pv 7))) pa_nil)) pe_int) (fun _ _ => rfl))) (pv 8)))
      (pss_cons (ps_if (pt_cmpR (op_eqA (hr.units)) (pv 3) pe_int (nomark _)) (pss_one (ps_set (i := 10) sc__law_names.nd rfl (Or.inl rfl) (pe_op op_addA (pv 10) (pe_op op_mulA (pe_ix ix_seq (pv 2) (pv 7) (fun _ _ => rfl)) (pe_op op_modA (pv 7) pe_int))))) pss_nil)
      (pss_one (ps_expr (pe_bm PySem.F.plainAttrs_list PySem.F.slot_list_append PySem.F.type_list_append mt_append (pv 9) (pa_cons (pv 10) pa_nil)))))))
      (pss_one (ps_ret (pv 9)))))))))))))), ?_⟩
    walk_at "rd"
    refine drawI (by decide) hp fun ch H1 c0 c6 hp1 b1 => eqII.mpr ⟨_, rfl, ?_⟩
    by_cases h4 : ch = 4
    · rw [if_pos (by simp [h4])]
      refine ⟨by rw [sizeLine_eq]; decide, fun l hl => ⟨l, _, rfl, .inl (.inl upd_same), fun q0 hq0 => ?_⟩⟩
      have key : ∀ xs : List Str, (upd (upd H1 l (.lst [V.str (Str.ofString "read"), V.str (Str.ofString "as"), V.str (Str.ofString "write"), V.str (Str.ofString "by"), V.str (Str.ofString "of"), V.str (Str.ofString "program")])) q0 (.lst (xs.map V.str)) = upd (upd H1 l (.lst [V.str (Str.ofString "read"), V.str (Str.ofString "as"), V.str (Str.ofString "write"), V.str (Str.ofString "by"), V.str (Str.ofString "of"), V.str (Str.ofString "program")])) q0 (.lst (cutV [V.str (Str.ofString "read"), V.str (Str.ofString "as"), V.str (Str.ofString "write"), V.str (Str.ofString "by"), V.str (Str.ofString "of"), V.str (Str.ofString "program")] none (some (c : Int))))) → xs.length = c → (∀ z ∈ xs, isNm z) → (met xs).length = xs.length → Q (.ref q0) (upd (upd H1 l (.lst [V.str (Str.ofString "read"), V.str (Str.ofString "as"), V.str (Str.ofString "write"), V.str (Str.ofString "by"), V.str (Str.ofString "of"), V.str (Str.ofString "program")])) q0 (.lst (cutV [V.str (Str.ofString "read"), V.str (Str.ofString "as"), V.str (Str.ofString "write"), V.str (Str.ofString "by"), V.str (Str.ofString "of"), V.str (Str.ofString "program")] none (some (c : Int))))) := by
        intro xs e hl2 hn hm
        rw [← e]
        have hp2 := Pl.put (o := .lst [V.str (Str.ofString "read"), V.str (Str.ofString "as"), V.str (Str.ofString "write"), V.str (Str.ofString "by"), V.str (Str.ofString "of"), V.str (Str.ofString "program")]) hp1 (hp1.ne hl)
        have b2 := But.nw (o := .lst [V.str (Str.ofString "read"), V.str (Str.ofString "as"), V.str (Str.ofString "write"), V.str (Str.ofString "by"), V.str (Str.ofString "of"), V.str (Str.ofString "program")]) b1 hp1 hl
        exact q q0 _ xs hl2 hn hm (But.free' b2 hp2 hq0) upd_same (hp2.put (hp2.ne hq0)) (But.nw b2 hp2 hq0)
      have c123 : c = 1 ∨ c = 2 ∨ c = 3 := by omega
      rcases c123 with rfl | rfl | rfl
      · exact key ["read"] rfl rfl (by simp only [List.mem_singleton, forall_eq]; exact nm_read) (met1 _)
      · exact key ["read", "as"] rfl rfl (by simp only [List.mem_cons, List.not_mem_nil, or_false, forall_eq_or_imp, forall_eq]; exact ⟨nm_read, nm_as⟩) (met2 (by decide +kernel))
      · exact key ["read", "as", "write"] rfl rfl (by simp only [List.mem_cons, List.not_mem_nil, or_false, forall_eq_or_imp, forall_eq]; exact ⟨nm_read, nm_as, nm_write⟩) (met3 (by decide +kernel) (by decide +kernel) (by decide +kernel))
    · rw [if_neg (by simp [h4])]
      refine drawI (by decide) hp1 fun sh H2 s0 s26 hp2 b2 => ⟨by rw [sizeLine_eq]; decide, fun l hl => ?_⟩
      have b02 := But.tr b1 b2
      refine drawI (by decide) (hp2.put (hp2.ne hl)) fun r3 H3 r0 r33 hp3 b3 => ?_
      have hl3 : H3 l = some (.lst [V.int 1, .int 25, .int 7]) := b3 _ _ upd_same (Ne.symm (hp2.ne hl))
      have b03 : But p H H3 := But.tr (But.nw b02 hp2 hl) b3
      have hstr : ∃ st : Int, atI [V.int 1, .int 25, .int 7] r3 = some (.int st) ∧ (st = 1 ∨ st = 25 ∨ st = 7) := by
        have : r3 = 0 ∨ r3 = 1 ∨ r3 = 2 := by omega
        rcases this with rfl | rfl | rfl
        · exact ⟨1, rfl, .inl rfl⟩
        · exact ⟨25, rfl, .inr (.inl rfl)⟩
        · exact ⟨7, rfl, .inr (.inr rfl)⟩
      obtain ⟨st, hat, hst⟩ := hstr
      refine ixL (.inl (.inl hl3)) hat (drawI (by decide) hp3 fun fn H4 f0 f4 hp4 b4 => ⟨fn, rfl, by omega, by omega, ?_⟩)
      have b04 := But.tr b03 b4
      refine FJ.rangeI (fun i σ' H' => ∃ fr : Str, fr.length ≤ i ∧ InL fr ∧ Pl H' p ∧ But p H H' ∧ ∃ z, σ' = [some (.ref p), some (.int c), some (.str abc), some (.int ch), some (.int sh), some (.int st), some (.str fr), z, none, none, none]) f0 ⟨Str.empty, Nat.le_refl _, inL_nil, hp4, b04, _, rfl⟩ (fun i σ' H' hi inv => ?_) fun σ' H' inv => ?_
      · obtain ⟨fr, hfl, hfi, hp5, b5, z, rfl⟩ := inv
        walk_at "rd"
        refine drawI (by decide) hp5 fun r H5 r0 r26 hp6 b6 => ixS (by rw [abc_len, sizeLine_eq]; decide) (abc_at r0 r26) (addSS.mpr ⟨by rw [len_one, sizeLine_eq]; omega, _, by rw [len_app, len_one]; omega, inL_app hfi (inL_one (by omega)), hp6, But.tr b5 b6, rfl, _, rfl⟩)
      · obtain ⟨fr, hfl, hfi, hp5, b5, z, rfl⟩ := inv
        walk_at "rd"
        refine drawI (by decide) hp5 fun bn H5 g0 g4 hp6 b6 => ⟨bn, rfl, by omega, by omega, ?_⟩
        have b06 := But.tr b5 b6
        refine FJ.rangeI (fun i σ' H' => ∃ bk : Str, bk.length ≤ i ∧ InL bk ∧ Pl H' p ∧ But p H H' ∧ ∃ z, σ' = [some (.ref p), some (.int c), some (.str abc), some (.int ch), some (.int sh), some (.int st), some (.str fr), z, some (.str bk), none, none]) g0 ⟨Str.empty, Nat.le_refl _, inL_nil, hp6, b06, _, rfl⟩ (fun i σ' H' hi inv => ?_) fun σ' H' inv => ?_
        · obtain ⟨bk, hbl, hbi, hp7, b7, z, rfl⟩ := inv
          walk_at "rd"
          refine drawI (by decide) hp7 fun r H8 r0 r26 hp8 b8 => ixS (by rw [abc_len, sizeLine_eq]; decide) (abc_at r0 r26) (addSS.mpr ⟨by rw [len_one, sizeLine_eq]; omega, _, by rw [len_app, len_one]; omega, inL_app hbi (inL_one (by omega)), hp8, But.tr b7 b8, rfl⟩)
        · obtain ⟨bk, hbl, hbi, hp7, b7, z, rfl⟩ := inv
          walk_at "rd"
          have hfl3 : fr.length ≤ 3 := by omega
          have hbl3 : bk.length ≤ 3 := by omega
          refine fun q0 hq0 => ⟨by omega, by omega, FJ.rangeI (fun i σ' H9 => ∃ xs : List Str, xs.length = i ∧ NU fr bk sh st xs ∧ H9 = upd H' q0 (.lst (xs.map V.str)) ∧ ∃ z w, σ' = [some (.ref p), some (.int c), some (.str abc), some (.int ch), some (.int sh), some (.int st), some (.str fr), z, some (.str bk), some (.ref q0), w]) (by omega) ⟨[], rfl, (fun j x h => nomatch h), rfl, _, _, rfl⟩ (fun i σ' H9 hi inv => ?_) fun σ' H9 inv => ?_⟩
          · obtain ⟨xs, hxl, hnu, rfl, z, w', rfl⟩ := inv
            walk_at "rd"
            subst hxl
            have m := mod26I (sh + st * xs.length)
            refine ⟨.inl (by omega), by decide, ixS (by rw [abc_len, sizeLine_eq]; decide) (abc_at m.1 m.2) (addSS.mpr ⟨by rw [len_one, sizeLine_eq]; omega, addSS.mpr ⟨by rw [len_app, len_one, sizeLine_eq]; omega, ?_⟩⟩)⟩
            have hup : upd H' q0 (.lst (xs.map V.str)) q0 = some (.lst (xs.map V.str)) := upd_same
            have hsz : (xs.map V.str).length < sizeLine := by rw [List.length_map, sizeLine_eq]; omega
            by_cases h2 : ch = 2
            · rw [if_pos h2]
              refine ixS (by rw [abc_len, sizeLine_eq]; decide) (abc_at (by omega) (by omega)) ⟨by decide, mulSI (by omega) fun y hy => addSS.mpr ?_⟩
              have hyl : y.length ≤ 1 ∧ InL y := by
                rcases hy with rfl | rfl
                · exact ⟨Nat.zero_le _, inL_nil⟩
                · exact ⟨Nat.le_refl _, inL_one (by omega)⟩
              refine ⟨by rw [len_app, len_app, len_one, sizeLine_eq]; omega, .inl ⟨rfl, _, .inl (.inl hup)⟩, q0, _, _, rfl, rfl, hup, hsz, _, by simp, hnu.snoc hyl.2 hyl.1, ?_, _, rfl⟩
              rw [upd_upd, List.map_append]; rfl
            · rw [if_neg h2]
              have e := hnu.snoc inL_nil (Nat.zero_le _)
              rw [app_nil] at e
              refine ⟨.inl ⟨rfl, _, .inl (.inl hup)⟩, q0, _, _, rfl, rfl, hup, hsz, _, by simp, e, ?_, _, rfl⟩
              rw [upd_upd, List.map_append]; rfl
          · obtain ⟨xs, hxl, hnu, rfl, z, w', rfl⟩ := inv
            walk_at "rd"
            have hnl : xs.length = c := by omega
            refine q q0 _ xs hnl (hnu.nm hfl3 hbl3 hfi hbi) (hnu.met (by omega) hst) (But.free' b7 hp7 hq0) upd_same ?_ ?_
            · exact hp7.put (hp7.ne hq0)
            · exact But.nw b7 hp7 hq0
end
end U

set_option Elab.async false
set_option linter.all false
set_option maxRecDepth 100000
set_option maxHeartbeats 4000000
namespace U
open PySem PySem.Spec PyProof.Rows L2 UL
local macro_rules | `(tactic| walk_at "rd") => `(tactic| simp only [tSeq, tAsg, tOp, tCB, tCons, tNil, tVar, tC, tB, tTest, tNot, tIfS, tNext, tYes, tUn, rU, tM0, tGFrom, tGThen, tG0, tYfLst, gcxK, tSubO, tProp, tListG, tMethG, tBMF, tFld, sFld, tMeth, tMake, tSl, tNoPart, tPart, tM1, gTup, gCons, gNil, tDrop, tFor_eq, tLc_eq, tLc2_eq, iRng1_eq, StX.tStar, iList, iTup, iStr, iAny_var, iZipB, tLenSetS, wipe, tVar, tAndV, tOrV, tNotV, tOr, tAnd, tLst, tTup, tBM, tBM0, tChain, tCall, cxK, noxK, addII, addSS, mulII, eqII, neII, neSS, cIntI, cAbsI, rI, rI0, rLt, rLe, rGt_, rGe_, rSub_, rMod, rPow, rDivW, rNeg, gName, tRet, L2.start, List.length_cons, List.length_nil, List.map_cons, List.map_nil, List.replicate, List.cons_append, List.nil_append, List.getElem?_cons_zero, List.getElem?_cons_succ, List.set_cons_zero, List.set_cons_succ, Option.some.injEq, exists_eq_left', exists_eq_left, V.int.injEq, V.bl.injEq, V.str.injEq, V.ref.injEq, V.ty.injEq, List.cons.injEq, and_true, true_and, reduceCtorEq, false_and, exists_false, or_false, false_or, exists_and_left, exists_and_right, List.append_nil, forall_eq, decide_eq_true_eq, Bool.not_eq_true, Nat.reduceAdd, Nat.reduceSub, List.replicate_zero, List.replicate_succ, Nat.zero_le, ite_true, ite_false, if_true, if_false])
section
variable {P : Program} {w : World} {K : PySem.W.Frag} {mg : Str → Option Value} {base : Heap}

structure CT (K : PySem.W.Frag) (mg : Str → Option Value) (C : Addr) : Prop extends Nm mg where
  cls : Cls K C
  a_names : NoAttr K C "names"
  a_size : NoAttr K C "size"
  a_held : NoAttr K C "_held"
def horner (s : Int) (ys : List Int) : Int := ys.foldl (fun p v => p * s + v) 0
theorem rep_flat (n : Nat) (v : V) : (List.replicate n [v]).flatten = List.replicate n v := by
  induction n with
  | zero => rfl
  | succ n ih => rw [List.replicate_succ, List.flatten_cons, ih]; rfl
theorem ns1 : ("names" : Str) ≠ "size" := by decide +kernel
theorem ns2 : ("names" : Str) ≠ "_held" := by decide +kernel
theorem ns3 : ("size" : Str) ≠ "_held" := by decide +kernel
theorem put1 {y : V} : putF "names" y [] = [(("names" : Str), y)] := rfl
theorem put2 {y z : V} : putF "size" z [(("names" : Str), y)] = [(("names" : Str), y), (("size" : Str), z)] := by simp [putF, ns1]
theorem put3 {x y z : V} : putF "_held" x [(("names" : Str), y), (("size" : Str), z)] = [(("names" : Str), y), (("size" : Str), z), (("_held" : Str), x)] := by simp [putF, ns2, ns3]
theorem first_ix {z : Str} : ∀ {xs : List Str}, z ∈ xs → ∃ j, j < xs.length ∧ xs[j]? = some z ∧ ∀ m, m < j → xs[m]? ≠ some z
  | x :: r, h => by
    by_cases e : x = z
    · exact ⟨0, by simp, by simp [e], fun m hm => by omega⟩
    · have hr : z ∈ r := (List.mem_cons.mp h).resolve_left fun q => e q.symm
      obtain ⟨j, h1, h2, h3⟩ := first_ix hr
      refine ⟨j + 1, by simp; omega, by simpa using h2, fun m hm => ?_⟩
      cases m with
      | zero => simpa using e
      | succ m => simpa using h3 m (by omega)
theorem horner_snoc (s : Int) (ys : List Int) (v : Int) : horner s (ys ++ [v]) = horner s ys * s + v := by simp [horner, List.foldl_append]
def fsC (t : Addr) (s : Int) (h : Addr) : List (Str × V) := [("names", .ref t), ("size", .int s), ("_held", .ref h)]
/-- cells at a: names xs, size s, the values hs -/
structure CA (H : Hp) (C a dx t h : Addr) (xs : List Str) (s : Int) (hs : List V) : Prop where
  at_ : H a = some (.ins C dx (fsC t s h))
  nm : ∃ o, o.dict = none ∧ H t = some (.frz o (.tup (xs.map V.str)))
  hd : H h = some (.tup hs)
theorem CA.same {H H' : Hp} {C a dx t h : Addr} {xs : List Str} {s : Int} {hs : List V} (x : CA H C a dx t h xs s hs) (z : Same H H') : CA H' C a dx t h xs s hs := ⟨z _ _ x.at_, let ⟨o, d, e⟩ := x.nm; ⟨o, d, z _ _ e⟩, z _ _ x.hd⟩
theorem CA.but {H H' : Hp} {C a dx t h p : Addr} {xs : List Str} {s : Int} {hs : List V} (x : CA H C a dx t h xs s hs) (hp : Pl H p) (z : But p H H') : CA H' C a dx t h xs s hs := by
  obtain ⟨ns, hp⟩ := hp
  obtain ⟨o, d, en⟩ := x.nm
  refine ⟨z _ _ x.at_ ?_, ⟨o, d, z _ _ en ?_⟩, z _ _ x.hd ?_⟩ <;> intro e
  · have := x.at_; rw [e, hp] at this; cases this
  · rw [e, hp] at en; cases en
  · have := x.hd; rw [e, hp] at this; cases this
theorem CA.sqT {H : Hp} {C a dx t h : Addr} {xs : List Str} {s : Int} {hs : List V} (x : CA H C a dx t h xs s hs) : SqT K H t (xs.map V.str) := let ⟨o, _, e⟩ := x.nm; .inl (.inr ⟨o, e⟩)
section
variable {C : Addr}
abbrev s_Cells___init__ : Stmt := inClass (top 19) 0
abbrev sc_Cells___init___N : List Str := ["self", "names", "size"]
theorem sc_Cells___init__ : FnScope sc_Cells___init___N ["self", "names", "size"] (defScope s_Cells___init__) := ⟨rfl, rfl, rfl, by decide +kernel, rfl, by decide +kernel, by decide +kernel⟩
-- 0 self, 1 names, 2 size
def sp_init : PySem.W.Frag → Addr → Sp := fun K C vs H Q _ => ∃ (x n dx : Addr) (s : Int) (xs : List Str), vs = [.ref x, .ref n, .int s] ∧ H x = some (.ins C dx []) ∧ SqL K H n (xs.map V.str) ∧ 1 ≤ s ∧ s ≤ 3 ∧ 1 ≤ xs.length ∧ xs.length ≤ 3 ∧ (∀ z ∈ xs, isNm z) ∧ (met xs).length = xs.length ∧
  ∀ H' t h, CA H' C x dx t h xs s (List.replicate xs.length (V.int 0)) → But x H H' → Q .non H'
theorem m_init (T : CT K mg C) (D : MD K C "__init__" "Cells.__init__" s_Cells___init__) (d_check_names : Dn P w K mg base CX0 2 "check_names" (sp_chknames K)) (d_check_size : Dn P w K mg base CX0 1 "check_size" sp_chksize) : Mn P w K mg base CX0 3 C "__init__" (sp_init K C) := by
  refine D.mn sc_Cells___init__ (fun _ _ _ _ _ _ us hl => match us, hl with | [_, _, _], _ => rfl) (fun vs H Q E h => ?_) (fun f cdv A outer s H vs Q E hr h => ?_)
  · obtain ⟨x, n, dx, s, xs, rfl, _⟩ := h; rfl
  · obtain ⟨x, n, dx, s, xs, rfl, hx, hn, s1, s3, l1, l3, nm, hm, q⟩ := h
    refine ⟨_, (pss_cons (ps_expr (pe_d d_check_names hr (by decide) pass0 (by rfl) (pa_cons (pv 1) pa_nil)))
      (pss_cons (ps_expr (pe_d d_check_size hr (by decide) pass0 (by rfl) (pa_cons (pv 2) pa_nil)))
      (pss_cons (ps_fld (pv 0) (pe_callTy call_tupF (by rfl) T.n_tuple (by decide +kernel) (pa_cons (pv 1) pa_nil)) rfl)
      (pss_cons (ps_fld (pv 0) (pv 2) rfl)
      (pss_one (ps_fld (pv 0) (pe_op op_mulA (pe_tup (pa_cons pe_int pa_nil)) (pe_callB call_lenA (by rfl) T.n_len (by decide +kernel) (pa_cons (pe_fld (pv 0) (by rfl)) pa_nil))) rfl)))))), ?_⟩
    walk_at "rd"
    refine ⟨n, xs, rfl, ⟨.l, hn⟩, l1, l3, nm, hm, fun H1 sm1 => ⟨s, rfl, s1, s3, ?_⟩⟩
    have hx1 := sm1 _ _ hx
    refine ⟨n, _, rfl, UL.Same.sqL sm1 hn, fun t o ht hd => ?_⟩
    have nx : x ≠ t := ne_of_none hx1 ht
    refine ⟨C, dx, [], by rw [upd_ne nx]; exact hx1, T.cls, T.a_names, by decide, C, dx, _, upd_same, T.cls, T.a_size, by rw [put1]; show 1 < 1000; decide, by rw [sizeLine_eq]; decide, fun p hp => ?_⟩
    rw [put1, put2] at hp ⊢
    rw [upd_upd] at hp ⊢
    have np : x ≠ p := fun e => by rw [← e, upd_same] at hp; cases hp
    have npt : t ≠ p := fun e => by rw [← e, upd_ne (Ne.symm nx), upd_same] at hp; cases hp
    have hpH1 : H1 p = none := by rw [upd_ne (Ne.symm np), upd_ne (Ne.symm npt)] at hp; exact hp
    refine ⟨C, dx, _, by rw [upd_ne np, upd_same], T.cls, T.a_names, .ref t, rfl, ?_⟩
    have ht2 : upd (upd (upd H1 t (.frz o (.tup (xs.map V.str)))) x (.ins C dx [(("names" : Str), V.ref t), (("size" : Str), V.int s)])) p (.tup [V.int 0]) t = some (.frz o (.tup (xs.map V.str))) := by rw [upd_ne npt, upd_ne (Ne.symm nx), upd_same]
    refine lenT (.inl (.inr ⟨o, ht2⟩)) (.inr (.inr ⟨p, _, [V.int 0], rfl, rfl, .inl (.inl upd_same), by simp, by rw [List.length_map]; omega, by rw [List.length_map]; omega, by decide, fun h1 => ?_, fun h2 r hr => ?_⟩))
    · have hl1 : xs.length = 1 := by rw [List.length_map] at h1; omega
      refine ⟨C, dx, _, by rw [upd_ne np, upd_same], T.cls, T.a_held, by show 2 < 1000; decide, ?_⟩
      rw [put3]
      refine q _ t p ⟨upd_same, ⟨o, hd, by rw [upd_ne (Ne.symm nx)]; exact ht2⟩, by rw [upd_ne (Ne.symm np), upd_same, hl1]; rfl⟩ ?_
      intro b ob e nb
      have e1 := sm1 _ _ e
      rw [upd_ne nb, upd_ne (ne_of_none e1 hpH1), upd_ne nb, upd_ne (ne_of_none e1 ht)]
      exact e1
    · have nr : x ≠ r := fun e => by rw [← e, upd_ne np, upd_same] at hr; cases hr
      have npr : p ≠ r := fun e => by rw [← e, upd_same] at hr; cases hr
      have ntr : t ≠ r := fun e => by rw [← e, ht2] at hr; cases hr
      have hrH1 : H1 r = none := by rw [upd_ne (Ne.symm npr), upd_ne (Ne.symm nr), upd_ne (Ne.symm ntr)] at hr; exact hr
      refine ⟨C, dx, _, by rw [upd_ne nr, upd_ne np, upd_same], T.cls, T.a_held, by show 2 < 1000; decide, ?_⟩
      rw [put3]
      refine q _ t r ⟨upd_same, ⟨o, hd, by rw [upd_ne (Ne.symm nx), upd_ne ntr]; exact ht2⟩, ?_⟩ fun b ob e nb => ?_
      · rw [upd_ne (Ne.symm nr), upd_same, List.length_map, Int.toNat_natCast, rep_flat]
      · have e1 := sm1 _ _ e
        rw [upd_ne nb, upd_ne (ne_of_none e1 hrH1), upd_ne (ne_of_none e1 hpH1), upd_ne nb, upd_ne (ne_of_none e1 ht)]
        exact e1
abbrev s_Cells___iter__ : Stmt := inClass (top 19) 1
abbrev sc_Cells___iter___N : List Str := ["self"]
theorem sc_Cells___iter__ : FnScope sc_Cells___iter___N ["self"] (defScope s_Cells___iter__) := ⟨rfl, rfl, rfl, by decide +kernel, rfl, by decide +kernel, by decide +kernel⟩
-- 0 self
def sp_iter : Addr → Sp := fun C vs H Q _ => ∃ (a dx t h : Addr) (s : Int) (xs : List Str) (hs : List V), vs = [.ref a] ∧ CA H C a dx t h xs s hs ∧ ∀ it, H it = none → Q (.ref it) (upd H it (ItT t it 0))
theorem m_iter (T : CT K mg C) (D : MD K C "__iter__" "Cells.__iter__" s_Cells___iter__) : Mn P w K mg base CX0 1 C "__iter__" (sp_iter C) := by
  refine D.mn sc_Cells___iter__ (fun _ _ _ _ _ _ us hl => match us, hl with | [_], _ => rfl) (fun vs H Q E h => ?_) (fun f cdv A outer s H vs Q E hr h => ?_)
  · obtain ⟨a, dx, t, h, s, xs, hs, rfl, _⟩ := h; rfl
  · obtain ⟨a, dx, t, h, s, xs, hs, rfl, ca, q⟩ := h
    refine ⟨_, (pss_one (ps_ret (pe_callB call_iterT (by rfl) T.n_iter (by decide +kernel) (pa_cons (pe_fld (pv 0) (by rfl)) pa_nil)))), ?_⟩
    walk_at "rd"
    exact ⟨C, dx, _, ca.at_, T.cls, T.a_names, .ref t, rfl, t, _, rfl, ca.sqT, q⟩
abbrev s_Cells__position : Stmt := inClass (top 19) 4
abbrev sc_Cells__position_N : List Str := ["self", "name"]
theorem sc_Cells__position : FnScope sc_Cells__position_N ["self", "name"] (defScope s_Cells__position) := ⟨rfl, rfl, rfl, by decide +kernel, rfl, by decide +kernel, by decide +kernel⟩
-- 0 self, 1 name
def sp_pos : Addr → Sp := fun C vs H Q _ => ∃ (a dx t h : Addr) (s : Int) (xs : List Str) (hs : List V) (z : Str), vs = [.ref a, .str z] ∧ CA H C a dx t h xs s hs ∧ z ∈ xs ∧ ∀ j : Nat, j < xs.length → Q (.int j) H
theorem m_pos (T : CT K mg C) (D : MD K C "_position" "Cells._position" s_Cells__position) : Mn P w K mg base CX0 1 C "_position" (sp_pos C) := by
  refine D.mn sc_Cells__position (fun _ _ _ _ _ _ us hl => match us, hl with | [_, _], _ => rfl) (fun vs H Q E h => ?_) (fun f cdv A outer s H vs Q E hr h => ?_)
  · obtain ⟨a, dx, t, h, s, xs, hs, z, rfl, _⟩ := h; rfl
  · obtain ⟨a, dx, t, h, s, xs, hs, z, rfl, ca, hz, q⟩ := h
    refine ⟨_, (pss_cons (ps_if (pt_cmpR op_ninA (pv 1) (pe_fld (pv 0) (by rfl)) (by with_unfolding_all rfl)) pss_never pss_nil)
      (pss_one (ps_ret (pe_bmF PySem.F.slot_tuple_index PySem.F.type_tuple_index mt_tup_index (pe_fld (pv 0) (by rfl)) (pa_cons (pv 1) pa_nil))))), ?_⟩
    walk_at "rd"
    refine ⟨C, dx, _, ca.at_, T.cls, T.a_names, .ref t, rfl, .inr ⟨t, _, rfl, .inr ca.sqT, rfl, flat_strs xs, false, ?_, ?_⟩⟩
    · have e : inV (.str z) (xs.map V.str) = true := by
        unfold inV
        rw [List.any_eq_true]
        exact ⟨.str z, List.mem_map_of_mem hz, by simp [eqV]⟩
      rw [if_pos rfl, e]; rfl
    · rw [if_neg (by decide)]
      obtain ⟨o, hd, en⟩ := ca.nm
      refine ⟨C, dx, _, ca.at_, T.cls, T.a_names, .ref t, rfl, ?_⟩
      obtain ⟨j, j1, j2, j3⟩ := first_ix hz
      exact ⟨⟨t, rfl, o, ⟨_, en⟩, hd⟩, t, rfl, xs, ca.sqT, j, j2, j3, q j j1⟩
abbrev s_Cells___getitem__ : Stmt := inClass (top 19) 2
abbrev sc_Cells___getitem___N : List Str := ["self", "at"]
theorem sc_Cells___getitem__ : FnScope sc_Cells___getitem___N ["self", "at"] (defScope s_Cells___getitem__) := ⟨rfl, rfl, rfl, by decide +kernel, rfl, by decide +kernel, by decide +kernel⟩
-- 0 self, 1 at
def sp_get : Addr → Sp := fun C vs H Q _ => ∃ (a dx t h : Addr) (s : Int) (xs : List Str) (z : Str), vs = [.ref a, .str z] ∧ CA H C a dx t h xs s (List.replicate xs.length (V.int 0)) ∧ z ∈ xs ∧ Q (.int 0) H
theorem m_get (T : CT K mg C) (D : MD K C "__getitem__" "Cells.__getitem__" s_Cells___getitem__) (m__position : Mn P w K mg base CX0 1 C "_position" (sp_pos C)) : Mn P w K mg base CX0 2 C "__getitem__" (sp_get C) := by
  refine D.mn sc_Cells___getitem__ (fun _ _ _ _ _ _ us hl => match us, hl with | [_, _], _ => rfl) (fun vs H Q E h => ?_) (fun f cdv A outer s H vs Q E hr h => ?_)
  · obtain ⟨a, dx, t, h, s, xs, z, rfl, _⟩ := h; rfl
  · obtain ⟨a, dx, t, h, s, xs, z, rfl, ca, hz, q⟩ := h
    refine ⟨_, (pss_one (ps_ret (pe_ix ix_seq (pe_fld (pv 0) (by rfl)) (pe_m m__position T.cls hr (by decide) pass0 (pv 0) (pa_cons (pv 1) pa_nil)) (fun _ _ => rfl)))), ?_⟩
    walk_at "rd"
    refine ⟨C, dx, _, ca.at_, T.cls, T.a_held, .ref h, rfl, dx, _, ca.at_, rfl, a, dx, t, h, s, xs, _, z, rfl, ca, hz, fun j hj => ?_⟩
    refine ixT (.inl (.inl ca.hd)) (atN (v := .int 0) ?_) q
    simp [hj]
end
end
end U

set_option Elab.async false
set_option linter.all false
set_option maxRecDepth 100000
set_option maxHeartbeats 4000000
namespace U
open PySem PySem.Spec PyProof.Rows L2 UL
local macro_rules | `(tactic| walk_at "rd") => `(tactic| simp only [tSeq, tAsg, tOp, tCB, tCons, tNil, tVar, tC, tB, tTest, tNot, tIfS, tNext, tYes, tUn, rU, tM0, tGFrom, tGThen, tG0, tYfLst, gcxK, tSubO, tProp, tListG, tMethG, tBMF, tFld, sFld, tMeth, tMake, tSl, tNoPart, tPart, tM1, gTup, gCons, gNil, tDrop, tFor_eq, tLc_eq, tLc2_eq, iRng1_eq, StX.tStar, iList, iTup, iStr, iAny_var, iZipB, tLenSetS, wipe, tVar, tAndV, tOrV, tNotV, tOr, tAnd, tLst, tTup, tBM, tBM0, tChain, tCall, cxK, noxK, addII, addSS, mulII, eqII, neII, neSS, cIntI, cAbsI, rI, rI0, rLt, rLe, rGt_, rGe_, rSub_, rMod, rPow, rDivW, rNeg, gName, tRet, L2.start, List.length_cons, List.length_nil, List.map_cons, List.map_nil, List.replicate, List.cons_append, List.nil_append, List.getElem?_cons_zero, List.getElem?_cons_succ, List.set_cons_zero, List.set_cons_succ, Option.some.injEq, exists_eq_left', exists_eq_left, V.int.injEq, V.bl.injEq, V.str.injEq, V.ref.injEq, V.ty.injEq, List.cons.injEq, and_true, true_and, reduceCtorEq, false_and, exists_false, or_false, false_or, exists_and_left, exists_and_right, List.append_nil, forall_eq, decide_eq_true_eq, Bool.not_eq_true, Nat.reduceAdd, Nat.reduceSub, List.replicate_zero, List.replicate_succ, Nat.zero_le, ite_true, ite_false, if_true, if_false])
section
variable {P : Program} {w : World} {K : PySem.W.Frag} {mg : Str → Option Value} {base : Heap}

section
variable {C : Addr}
abbrev s_Cells_contents : Stmt := inClass (top 19) 6
abbrev sc_Cells_contents_N : List Str := ["self"]
theorem sc_Cells_contents : FnScope sc_Cells_contents_N ["self"] (defScope s_Cells_contents) := ⟨rfl, rfl, rfl, by decide +kernel, rfl, by decide +kernel, by decide +kernel⟩
-- 0 self
theorem p_contents (T : CT K mg C) {p g : Addr} {fd : FuncData} (F : Fun K "contents" "Cells.contents" s_Cells_contents g fd) (hp : PropOf K C "contents" p g) : Pn P w K mg base CX0 1 C "contents" (getSp C "_held") := by
  have hb := F.binds (ps := ["self"]) (fun _ _ _ _ _ _ us hl => match us, hl with | [_], _ => rfl)
  obtain ⟨oc, od, kV, doc, pm, an, cdv, ct, osl, e, lk, hcd⟩ := F.ex
  subst e
  exact ⟨p, g, _, ["self"], fn_getter (N := ["self"]) (p1 := _) (p2 := _) (p3 := _) lk hcd ⟨rfl, rfl, rfl, by decide +kernel, rfl, by decide +kernel, by decide +kernel⟩ rfl rfl T.cls T.a_held, hp, hb⟩
end
end
end U

set_option Elab.async false
set_option linter.all false
set_option maxRecDepth 100000
set_option maxHeartbeats 4000000
namespace U
open PySem PySem.Spec PyProof.Rows L2 UL UV NdefX
section
variable {P : Program} {w : World} {K : PySem.W.Frag} {mg : Str → Option Value} {base : Heap}
theorem ncK {CX : CXT} {N : List Str} {F : NF} {f : Addr} {A : Around} {outer : List Env} {s : Shared} {H : Hp} {E : XK} : (ncx CX P w K mg base N F f A outer s H E).K = K := rfl
end
local macro_rules | `(tactic| walk_at "rdx") => `(tactic| simp only [tCons, tNil, tJs, tC, tFmt, tVar, tOst, tSeq, startF, L2.start, List.length_cons, List.length_nil, List.map_cons, List.map_nil, List.replicate, List.cons_append, List.nil_append, List.getElem?_cons_zero, List.getElem?_cons_succ, Option.some.injEq, exists_eq_left', exists_eq_left, V.str.injEq, V.int.injEq, V.ref.injEq, reduceCtorEq, false_and, exists_false, or_false, false_or, and_true, true_and, exists_and_left, exists_and_right, Nat.reduceAdd, Nat.reduceSub, Nat.reduceLeDiff, ncK])
section
variable {P : Program} {w : World} {K : PySem.W.Frag} {mg : Str → Option Value} {base : Heap}
/-- an exception class as it stands, with its __init__ -/
structure XD (P : Program) (K : PySem.W.Frag) (mg : Str → Option Value) (C : Addr) (x qual : Str) (st : Stmt) : Prop where
  ex : ∃ (f c cc : Addr) (oc kV doc pm ct : Value) (od an : Option Addr) (osl : Array (Option Value)), K.lookup f = some ⟨oc, od, .func (PySem.W.fnX "__init__" qual (defArgs st) (defBody st) (defScope st) [("__class__", cc)] .none kV doc pm an (.ref c) ct), osl⟩ ∧ PySem.W.codeIn K (.ref c) qual = true ∧
    SupF P K mg C f c cc (PySem.W.fnX "__init__" qual (defArgs st) (defBody st) (defScope st) [("__class__", cc)] .none kV doc pm an (.ref c) ct) ∧ PySem.W.findIn K (.ref C) "__init__" = some (some (.ref f)) ∧ PySem.W.typeIn K (.ref f) = some (.type "function")
  ox : OexC K C
  gc : mg x = some (.ref C)
/-- .. and what its __init__ promises -/
structure Xn (P : Program) (w : World) (K : PySem.W.Frag) (mg : Str → Option Value) (base : Heap) (k : Nat) (C : Addr) (x : Str) (sp : Sp) : Prop where
  ex : ∃ (f : Addr) (fd : FuncData) (ps : List Str), FnOk P w K mg base CX0 k f fd ps sp ∧ PySem.W.findIn K (.ref C) "__init__" = some (some (.ref f)) ∧ PySem.W.typeIn K (.ref f) = some (.type "function") ∧ Binds K fd ps []
  ox : OexC K C
  gc : mg x = some (.ref C)
theorem pmk_x {X : Cx} {C : Addr} {x : Str} {sp : Sp} {k j : Nat} {e : Expr} {es : List Expr} {ta : TA} {p pos : Pos} (d : Xn X.prog X.w X.K X.mg X.base k C x sp) (hr : Room j X.A) (hk : k + 1 ≤ j) (hg : Gl X x) (ha : PA X (e :: es) ta)
    (hdb : (x == ("__debug__" : Str)) = false := by decide) (he : starEach (e :: es) X.env = (false, eval e X.env) :: starEach es X.env := by rfl) (hpl : (backTo pos (starEach es X.env)).any (·.1) = false := by rfl) : PMk X (.Call (.Name x p) (e :: es) [] pos) (tMkO C sp [] ta) := by
  obtain ⟨f, fd, ps, F, h1, h2, B⟩ := d.ex
  exact pmk_oex d.ox h1 h2 F (hr.mono hk) B .nil (fun _ _ _ _ _ _ _ h => h.elim) hg d.gc ha hdb he hpl
section
variable {C : Addr}
abbrev s_UC : Stmt := inClass (top 4) 0
theorem sc_UC : NScope ["self", "cell", "__class__"] ["self", "cell"] ["__class__"] (defScope s_UC) := nscope_by (by decide +kernel)
def sp_UC : Addr → Sp := fun C vs H Q _ => ∃ (a : Addr) (z : Str), vs = [.ref a, .str z] ∧ H a = some (exo a C none) ∧ PySem.W.findIn K (.ref C) "cell" = some none ∧ z.length ≤ 1000 ∧ ∀ d, H d = none → d ≠ a → Q .non (upd (upd H d (exd d [(("cell" : Str), V.str z)])) a (exo a C (some d)))
theorem x_UC (D : XD P K mg C "UnknownCell" "UnknownCell.__init__" s_UC) : Xn P w K mg base 1 C "UnknownCell" (sp_UC (K := K) C) := by
  obtain ⟨f, c, cc, oc, kV, doc, pm, ct, od, an, osl, lk, hcd, F, h1, h2⟩ := D.ex
  refine ⟨⟨f, _, ["self", "cell"], fn_sup (N := ["self", "cell", "__class__"]) (ps := ["cell"]) (pl := _) lk hcd sc_UC D.ox F (by decide +kernel) (fun vs H Q E h => ?_) (fun A outer s H vs Q E hr h => ?_), h1, h2, Binds.all fun us hl => match us, hl with | [_, _], _ => rfl⟩, D.ox, D.gc⟩
  · obtain ⟨a, z, rfl, _⟩ := h; rfl
  · obtain ⟨a, z, rfl, ha, hf, hl, q⟩ := h
    refine ⟨a, _, _, rfl, ha, pa_cons (pe_joined (.cons pe_str (.cons (pe_fmt (pv 1)) .nil))) pa_nil, pss_one (ps_ost (pv 0) (pv 1)), ?_⟩
    walk_at "rdx"
    have l1 : (Str.empty ++ Str.ofString "there is no cell ").length ≤ 100 := by decide +kernel
    refine ⟨by rw [sizeLine_eq]; omega, by rw [sizeLine_eq]; omega, by rw [len_app, sizeLine_eq]; omega, ha, C, D.ox, hf, ?_⟩
    exact .inl ⟨ha, fun d hd hda => q d hd hda⟩
abbrev s_OR : Stmt := inClass (top 5) 0
theorem sc_OR : NScope ["self", "cell", "value", "__class__"] ["self", "cell", "value"] ["__class__"] (defScope s_OR) := nscope_by (by decide +kernel)
def sp_OR : Addr → Sp := fun C vs H Q _ => ∃ (a : Addr) (z : Str) (i : Int), vs = [.ref a, .str z, .int i] ∧ H a = some (exo a C none) ∧ PySem.W.findIn K (.ref C) "cell" = some none ∧ PySem.W.findIn K (.ref C) "value" = some none ∧ z.length ≤ 1000 ∧ -(2 ^ 64) < i ∧ i < 2 ^ 64 ∧
  ∀ d, H d = none → d ≠ a → Q .non (upd (upd (upd H d (exd d [(("cell" : Str), V.str z)])) a (exo a C (some d))) d (exd d [(("value" : Str), V.int i), (("cell" : Str), V.str z)]))
theorem log64 {i : Int} (h0 : -(2 ^ 64) < i) (h1 : i < 2 ^ 64) : i.natAbs.log2 < 1920 := by
  by_cases e : i.natAbs = 0
  · rw [e]; decide
  · have : i.natAbs < 2 ^ 64 := by omega
    have := (Nat.log2_lt e).mpr this
    omega
theorem x_OR (D : XD P K mg C "OutOfRange" "OutOfRange.__init__" s_OR) : Xn P w K mg base 1 C "OutOfRange" (sp_OR (K := K) C) := by
  obtain ⟨f, c, cc, oc, kV, doc, pm, ct, od, an, osl, lk, hcd, F, h1, h2⟩ := D.ex
  refine ⟨⟨f, _, ["self", "cell", "value"], fn_sup (N := ["self", "cell", "value", "__class__"]) (ps := ["cell", "value"]) (pl := _) lk hcd sc_OR D.ox F (by decide +kernel) (fun vs H Q E h => ?_) (fun A outer s H vs Q E hr h => ?_), h1, h2, Binds.all fun us hl => match us, hl with | [_, _, _], _ => rfl⟩, D.ox, D.gc⟩
  · obtain ⟨a, z, i, rfl, _⟩ := h; rfl
  · obtain ⟨a, z, i, rfl, ha, hf, hg, hl, i0, i1, q⟩ := h
    refine ⟨a, _, _, rfl, ha, pa_cons (pe_joined (.cons pe_str (.cons (pe_fmt (pv 1)) (.cons pe_str (.cons (pe_fmt (pv 2)) .nil))))) pa_nil, pss_cons (ps_ost (pv 0) (pv 1)) (pss_one (ps_ost (pv 0) (pv 2))), ?_⟩
    walk_at "rdx"
    have l1 : (Str.empty ++ Str.ofString "cell ").length ≤ 100 := by decide +kernel
    have l2 : (Str.ofString " cannot hold ").length ≤ 100 := by decide +kernel
    have lg := log64 i0 i1
    have l3 := int_text_len_1921 lg
    refine ⟨by rw [sizeLine_eq]; omega, by rw [sizeLine_eq]; omega, by rw [len_app, sizeLine_eq]; omega, by rw [len_app, len_app, sizeLine_eq]; omega, lg, by rw [len_app, len_app, len_app, sizeLine_eq]; omega, ha, C, D.ox, hf, .inl ⟨ha, fun d hd hda => ⟨C, D.ox, hg, .inr ⟨d, upd_same, _, by rw [upd_ne hda, upd_same], by show 1 ≤ 900; decide, q d hd hda⟩⟩⟩⟩
end
end
end U

set_option Elab.async false
set_option linter.all false
set_option maxRecDepth 100000
set_option maxHeartbeats 4000000
namespace U
open PySem PySem.Spec PyProof.Rows L2 UL
local macro_rules | `(tactic| walk_at "rd") => `(tactic| simp only [tSeq, tAsg, tOp, tCB, tCons, tNil, tVar, tC, tB, tTest, tNot, tIfS, tNext, tYes, tUn, rU, tM0, tGFrom, tGThen, tG0, tYfLst, gcxK, tSubO, tProp, tListG, tMethG, tBMF, tFld, sFld, tMeth, tMake, tSl, tNoPart, tPart, tM1, gTup, gCons, gNil, tDrop, tFor_eq, tLc_eq, tLc2_eq, iRng1_eq, StX.tStar, iList, iTup, iStr, iAny_var, iZipB, tLenSetS, wipe, tVar, tAndV, tOrV, tNotV, tOr, tAnd, tLst, tTup, tBM, tBM0, tChain, tCall, cxK, noxK, addII, addSS, mulII, eqII, neII, neSS, cIntI, cAbsI, rI, rI0, rLt, rLe, rGt_, rGe_, rSub_, rMod, rPow, rDivW, rNeg, gName, tRet, L2.start, List.length_cons, List.length_nil, List.map_cons, List.map_nil, List.replicate, List.cons_append, List.nil_append, List.getElem?_cons_zero, List.getElem?_cons_succ, List.set_cons_zero, List.set_cons_succ, Option.some.injEq, exists_eq_left', exists_eq_left, V.int.injEq, V.bl.injEq, V.str.injEq, V.ref.injEq, V.ty.injEq, List.cons.injEq, and_true, true_and, reduceCtorEq, false_and, exists_false, or_false, false_or, exists_and_left, exists_and_right, List.append_nil, forall_eq, decide_eq_true_eq, Bool.not_eq_true, Nat.reduceAdd, Nat.reduceSub, List.replicate_zero, List.replicate_succ, Nat.zero_le, ite_true, ite_false, if_true, if_false])
section
variable {P : Program} {w : World} {K : PySem.W.Frag} {mg : Str → Option Value} {base : Heap}

/-- o[i] = v by an own __setitem__ -/
structure Sn (P : Program) (w : World) (K : PySem.W.Frag) (mg : Str → Option Value) (base : Heap) (CX : CXT) (k : Nat) (C : Addr) (sp : Sp) : Prop where
  ex : ∃ (f : Addr) (fd : FuncData) (ps : List Str), FnOk P w K mg base CX k f fd ps sp ∧ SetO_ K C f ∧ Binds K fd ps []
theorem Mn.sn {CX : CXT} {k : Nat} {C : Addr} {sp : Sp} (d : Mn P w K mg base CX k C "__setitem__" sp) (h : PySem.W.noSeq K C = true) : Sn P w K mg base CX k C sp :=
  let ⟨f, fd, ps, F, M, B⟩ := d.ex
  ⟨f, fd, ps, F, ⟨h, M.at_, M.fn⟩, B⟩
theorem set_ownn {X : Cx} {CX : CXT} {k j : Nat} {C : Addr} {sp : Sp} {E : XK} (d : Sn X.prog X.w X.K X.mg X.base CX k C sp) (hr : Room j X.A) (hk : k ≤ j) (hx : Passes CX X E) : PSet X (rSetO C sp E) := by
  obtain ⟨f, fd, ps, F, c, B⟩ := d.ex
  exact set_own c F (hr.mono hk) B hx
/-- the exception's record is gone, its dict stands -/
theorem exn_heap {H : Hp} {a d : Addr} {o1 o2 o3 o4 : HO} (ha : H a = none) : upd (del (upd (upd (upd H a o1) d o2) a o3) a) d o4 = upd H d o4 := by
  funext b
  by_cases hb : b = d
  · rw [hb, upd_same, upd_same]
  · rw [upd_ne hb, upd_ne hb]
    by_cases h2 : b = a
    · rw [h2, del_same, ha]
    · rw [del_ne h2, upd_ne h2, upd_ne hb, upd_ne h2]
theorem exn_heap2 {H : Hp} {a d : Addr} {o1 o2 o3 o4 o5 : HO} (ha : H a = none) : upd (del (upd (upd (upd (upd H a o1) d o2) a o3) d o5) a) d o4 = upd H d o4 := by
  funext b
  by_cases hb : b = d
  · rw [hb, upd_same, upd_same]
  · rw [upd_ne hb, upd_ne hb]
    by_cases h2 : b = a
    · rw [h2, del_same, ha]
    · rw [del_ne h2, upd_ne hb, upd_ne h2, upd_ne hb, upd_ne h2]
/-- what the exceptions' classes do not have -/
structure XT (K : PySem.W.Frag) (UC OR : Addr) : Prop where
  u1 : PySem.W.findIn K (.ref UC) "cell" = some none
  o1 : PySem.W.findIn K (.ref OR) "cell" = some none
  o2 : PySem.W.findIn K (.ref OR) "value" = some none
theorem put4 {t h h' : Addr} {s : Int} : putF "_held" (.ref h') (fsC t s h) = fsC t s h' := by simp [putF, fsC, ns2, ns3]
section
variable {C UC OR : Addr}
def sp_posX : Addr → Addr → Sp := fun C UC vs H Q E => ∃ (a dx t h : Addr) (s : Int) (xs : List Str) (hs : List V) (z : Str), vs = [.ref a, .str z] ∧ CA H C a dx t h xs s hs ∧ z.length ≤ 1000 ∧
  (z ∈ xs → ∀ j : Nat, j < xs.length → xs[j]? = some z → (∀ m, m < j → xs[m]? ≠ some z) → Q (.int j) H) ∧ (z ∉ xs → ∀ d, H d = none → E (.ref UC) (some d) (upd H d (.xd [(("cell" : Str), V.str z)])))
theorem m_posX (T : CT K mg C) (XX : XT K UC OR) (D : MD K C "_position" "Cells._position" s_Cells__position) (x_UnknownCell : Xn P w K mg base 1 UC "UnknownCell" (sp_UC (K := K) UC)) : Mn P w K mg base (L2.CX P w) 3 C "_position" (sp_posX C UC) := by
  refine D.mx sc_Cells__position (fun _ _ _ _ _ _ us hl => match us, hl with | [_, _], _ => rfl) (fun vs H Q E h => ?_) (fun f cdv A outer s H vs Q E hr h => ?_)
  · obtain ⟨a, dx, t, h, s, xs, hs, z, rfl, _⟩ := h; rfl
  · obtain ⟨a, dx, t, h, s, xs, hs, z, rfl, ca, hl, q1, q2⟩ := h
    refine ⟨_, (pss_cons (ps_if (pt_cmpR op_ninA (pv 1) (pe_fld (pv 0) (by rfl)) (by with_unfolding_all rfl)) (pss_one (ps_raise rfl (takes_of rfl rfl rfl rfl) (pmk_x x_UnknownCell hr (by decide) (by rfl) (pa_cons (pv 1) pa_nil)))) pss_nil)
      (pss_one (ps_ret (pe_bmF PySem.F.slot_tuple_index PySem.F.type_tuple_index mt_tup_index (pe_fld (pv 0) (by rfl)) (pa_cons (pv 1) pa_nil))))), ?_⟩
    walk_at "rd"
    refine ⟨C, dx, _, ca.at_, T.cls, T.a_names, .ref t, rfl, .inr ⟨t, _, rfl, .inr ca.sqT, rfl, flat_strs xs, _, rfl, ?_⟩⟩
    by_cases hz : z ∈ xs
    · have e : inV (.str z) (xs.map V.str) = true := by
        unfold inV
        rw [List.any_eq_true]
        exact ⟨.str z, List.mem_map_of_mem hz, by simp [eqV]⟩
      rw [if_pos rfl, e, if_neg (by decide)]
      obtain ⟨o, hd, en⟩ := ca.nm
      obtain ⟨j, j1, j2, j3⟩ := first_ix hz
      exact ⟨C, dx, _, ca.at_, T.cls, T.a_names, .ref t, rfl, ⟨t, rfl, o, ⟨_, en⟩, hd⟩, t, rfl, xs, ca.sqT, j, j2, j3, q1 hz j j1 j2 j3⟩
    · have e : inV (.str z) (xs.map V.str) = false := by
        unfold inV
        rw [List.any_eq_false]
        intro y hy
        obtain ⟨u, hu, rfl⟩ := List.mem_map.mp hy
        simp only [eqV, beq_iff_eq]
        exact fun q => hz (q ▸ hu)
      rw [if_pos rfl, e, if_pos (by decide)]
      refine ⟨_, rfl, by show 1 ≤ 1000; decide, fun e he => ⟨e, z, rfl, upd_same, XX.u1, hl, fun d hd hde => ⟨rfl, d, _, upd_same, by rw [upd_ne hde, upd_same], by rw [upd_ne hde] at hd; exact hd, ?_⟩⟩⟩
      rw [exn_heap he]
      exact q2 hz d (by rw [upd_ne hde] at hd; exact hd)
abbrev s_Cells___setitem__ : Stmt := inClass (top 19) 3
abbrev sc_Cells___setitem___N : List Str := ["self", "at", "worth", "position", "held"]
theorem sc_Cells___setitem__ : FnScope sc_Cells___setitem___N ["self", "at", "worth"] (defScope s_Cells___setitem__) := ⟨rfl, rfl, rfl, by decide +kernel, rfl, by decide +kernel, by decide +kernel⟩
-- 0 self, 1 at, 2 worth, 3 position, 4 held
def bad (s v : Int) : Prop := v < 0 ∨ s ≤ v
def sp_set : Addr → Addr → Addr → Sp := fun C UC OR vs H Q E => ∃ (a dx t h : Addr) (s : Int) (xs : List Str) (hs : List V) (z : Str) (v : Int), vs = [.ref a, .str z, .int v] ∧ CA H C a dx t h xs s hs ∧ hs.length = xs.length ∧ z.length ≤ 1000 ∧ -(2 ^ 64) < v ∧ v < 2 ^ 64 ∧
  (z ∉ xs → ∀ d, H d = none → E (.ref UC) (some d) (upd H d (.xd [(("cell" : Str), V.str z)]))) ∧
  (z ∈ xs → bad s v → ∀ d, H d = none → E (.ref OR) (some d) (upd H d (.xd [(("value" : Str), V.int v), (("cell" : Str), V.str z)]))) ∧
  (z ∈ xs → ¬ bad s v → ∀ (j : Nat) (h' : Addr) (H' : Hp), j < xs.length → xs[j]? = some z → (∀ m, m < j → xs[m]? ≠ some z) → CA H' C a dx t h' xs s (hs.set j (.int v)) → But a H H' → Q .non H')
theorem m_setX (T : CT K mg C) (XX : XT K UC OR) (D : MD K C "__setitem__" "Cells.__setitem__" s_Cells___setitem__) (x_OutOfRange : Xn P w K mg base 1 OR "OutOfRange" (sp_OR (K := K) OR)) (m__position : Mn P w K mg base (L2.CX P w) 3 C "_position" (sp_posX C UC)) (d_is_value : Dn P w K mg base CX0 1 "is_value" sp_isval) : Mn P w K mg base (L2.CX P w) 4 C "__setitem__" (sp_set C UC OR) := by
  refine D.mx sc_Cells___setitem__ (fun _ _ _ _ _ _ us hl => match us, hl with | [_, _, _], _ => rfl) (fun vs H Q E h => ?_) (fun f cdv A outer s H vs Q E hr h => ?_)
  · obtain ⟨a, dx, t, h, s, xs, hs, z, v, rfl, _⟩ := h; rfl
  · obtain ⟨a, dx, t, h, s, xs, hs, z, v, rfl, ca, hhl, hl, v0, v1, q1, q2, q3⟩ := h
    refine ⟨_, (pss_cons (ps_set (i := 3) sc_Cells___setitem__.nd rfl (Or.inl rfl) (pe_m m__position T.cls hr (by decide) (passes_call (takes_of rfl rfl rfl rfl) (fun _ _ _ _ h => h)) (pv 0) (pa_cons (pv 1) pa_nil)))
      (pss_cons (ps_if (pt_not (pt_val (pe_d d_is_value hr (by decide) pass0 (by rfl) (pa_cons (pv 2) (pa_cons (pe_fld (pv 0) (by rfl)) pa_nil))))) (pss_one (ps_raise rfl (takes_of rfl rfl rfl rfl) (pmk_x x_OutOfRange hr (by decide) (by rfl) (pa_cons (pv 1) (pa_cons (pv 2) pa_nil))))) pss_nil)
      (pss_cons (ps_set (i := 4) sc_Cells___setitem__.nd rfl (Or.inl rfl) (pe_callTy call_listA (by rfl) T.n_list (by decide +kernel) (pa_cons (pe_fld (pv 0) (by rfl)) pa_nil)))
      (pss_cons (ps_asg (pv 2) (pg_sub (pv 4) (pv 3) set_list))
      (pss_one (ps_fld (pv 0) (pe_callTy call_tupA (by rfl) T.n_tuple (by decide +kernel) (pa_cons (pv 4) pa_nil)) rfl)))))), ?_⟩
    walk_at "rd"
    refine ⟨dx, _, ca.at_, rfl, a, dx, t, h, s, xs, hs, z, rfl, ca, hl, fun hz j j1 j2 j3 => ?_, fun hz d hd => q1 hz d hd⟩
    refine ⟨C, dx, _, ca.at_, T.cls, T.a_size, .int s, rfl, v, s, rfl, _, rfl, ?_⟩
    by_cases hb : bad s v
    · have eb : (!(decide (0 ≤ v) && decide (v < s))) = true := by
        rcases hb with e | e
        · rw [decide_eq_false (show ¬ 0 ≤ v by omega)]; rfl
        · rw [decide_eq_false (show ¬ v < s by omega), Bool.and_false]; rfl
      rw [if_pos eb]
      refine ⟨_, rfl, _, rfl, by show 2 ≤ 1000; decide, fun e he => ⟨e, z, v, rfl, upd_same, XX.o1, XX.o2, hl, v0, v1, fun d hd hde => ⟨rfl, d, _, by rw [upd_ne (Ne.symm hde), upd_same], upd_same, by rw [upd_ne hde] at hd; exact hd, ?_⟩⟩⟩
      rw [exn_heap2 he]
      exact q2 hz hb d (by rw [upd_ne hde] at hd; exact hd)
    · have eb : ¬ (!(decide (0 ≤ v) && decide (v < s))) = true := by
        unfold bad at hb
        rw [decide_eq_true (show 0 ≤ v by omega), decide_eq_true (show v < s by omega)]; decide
      rw [if_neg eb]
      refine ⟨C, dx, _, ca.at_, T.cls, T.a_held, .ref h, rfl, h, hs, rfl, .inr (.inl (.inl ca.hd)), fun l hl9 => ?_⟩
      have ejx : ixN hs.length (j : Int) = some j := by unfold ixN; rw [if_pos (by omega), if_pos (by omega)]; rfl
      refine ⟨_, rfl, _, rfl, l, hs, (j : Int), j, rfl, rfl, upd_same, ejx, _, rfl, l, _, rfl, .inl ⟨.inl (.inl upd_same), fun t2 ht2 => ?_⟩⟩
      rw [upd_upd] at ht2 ⊢
      have nal : a ≠ l := ne_of_none ca.at_ hl9
      have nt2 : ∀ {b o}, H b = some o → b ≠ t2 := fun {b o} e q => by
        rw [← q, upd_ne (ne_of_none e hl9), e] at ht2; cases ht2
      have s2 : Same H (upd (upd H l (.lst (hs.set j (V.int v)))) t2 (.tup (hs.set j (V.int v)))) := fun b o e => by rw [upd_ne (nt2 e), upd_ne (ne_of_none e hl9)]; exact e
      refine ⟨_, rfl, a, C, dx, _, rfl, s2 _ _ ca.at_, T.cls, T.a_held, by show 3 < 1000; decide, ?_⟩
      rw [put4]
      obtain ⟨o, od, ot⟩ := ca.nm
      refine q3 hz hb j t2 _ j1 j2 j3 ⟨upd_same, ⟨o, od, ?_⟩, ?_⟩ fun b ob e nb => by rw [upd_ne nb]; exact s2 _ _ e
      · rw [upd_ne (fun e => by have := ca.at_; rw [← e, ot] at this; cases this)]; exact s2 _ _ ot
      · rw [upd_ne (Ne.symm (nt2 ca.at_)), upd_same]
abbrev s_Cells_change : Stmt := inClass (top 19) 5
abbrev sc_Cells_change_N : List Str := ["self", "name", "value"]
theorem sc_Cells_change : FnScope sc_Cells_change_N ["self", "name", "value"] (defScope s_Cells_change) := ⟨rfl, rfl, rfl, by decide +kernel, rfl, by decide +kernel, by decide +kernel⟩
-- 0 self, 1 name, 2 value
theorem m_changeX (T : CT K mg C) (D : MD K C "change" "Cells.change" s_Cells_change) (S_setitem : Sn P w K mg base (L2.CX P w) 4 C (sp_set C UC OR)) : Mn P w K mg base (L2.CX P w) 5 C "change" (sp_set C UC OR) := by
  refine D.mx sc_Cells_change (fun _ _ _ _ _ _ us hl => match us, hl with | [_, _, _], _ => rfl) (fun vs H Q E h => ?_) (fun f cdv A outer s H vs Q E hr h => ?_)
  · obtain ⟨a, dx, t, h, s, xs, hs, z, v, rfl, _⟩ := h; rfl
  · obtain ⟨a, dx, t, h, s, xs, hs, z, v, rfl, ca, hhl, hl, v0, v1, q1, q2, q3⟩ := h
    refine ⟨_, (pss_one (ps_asg (pv 2) (pg_sub (pv 0) (pv 1) (set_ownn S_setitem hr (by decide) (passes_call (takes_of rfl rfl rfl rfl) (fun _ _ _ _ h => h)))))), ?_⟩
    refine ⟨_, rfl, _, rfl, _, rfl, a, dx, _, rfl, ca.at_, a, dx, t, h, s, xs, hs, z, v, rfl, ca, hhl, hl, v0, v1, q1, q2, fun hz hb j h' H' j1 j2 j3 ca' bt => q3 hz hb j h' H' j1 j2 j3 ca' bt⟩
end
end
end U

set_option Elab.async false
set_option linter.all false
set_option maxRecDepth 100000
set_option maxHeartbeats 4000000
namespace U
open PySem PySem.Spec PyProof.Rows L2 UL
local macro_rules | `(tactic| walk_at "rd") => `(tactic| simp only [tSeq, tAsg, tOp, tCB, tCons, tNil, tVar, tC, tB, tTest, tNot, tIfS, tNext, tYes, tUn, rU, tM0, tGFrom, tGThen, tG0, tYfLst, gcxK, tSubO, tProp, tListG, tMethG, tBMF, tFld, sFld, tMeth, tMake, tSl, tNoPart, tPart, tM1, gTup, gCons, gNil, tDrop, tFor_eq, tLc_eq, tLc2_eq, iRng1_eq, StX.tStar, iList, iTup, iStr, iAny_var, iZipB, tLenSetS, wipe, tVar, tAndV, tOrV, tNotV, tOr, tAnd, tLst, tTup, tBM, tBM0, tChain, tCall, cxK, noxK, addII, addSS, mulII, eqII, neII, neSS, cIntI, cAbsI, rI, rI0, rLt, rLe, rGt_, rGe_, rSub_, rMod, rPow, rDivW, rNeg, gName, tRet, L2.start, List.length_cons, List.length_nil, List.map_cons, List.map_nil, List.replicate, List.cons_append, List.nil_append, List.getElem?_cons_zero, List.getElem?_cons_succ, List.set_cons_zero, List.set_cons_succ, Option.some.injEq, exists_eq_left', exists_eq_left, V.int.injEq, V.bl.injEq, V.str.injEq, V.ref.injEq, V.ty.injEq, List.cons.injEq, and_true, true_and, reduceCtorEq, false_and, exists_false, or_false, false_or, exists_and_left, exists_and_right, List.append_nil, forall_eq, decide_eq_true_eq, Bool.not_eq_true, Nat.reduceAdd, Nat.reduceSub, List.replicate_zero, List.replicate_succ, Nat.zero_le, ite_true, ite_false, if_true, if_false])
section
variable {P : Program} {w : World} {K : PySem.W.Frag} {mg : Str → Option Value} {base : Heap}

open UV UW
section
variable {C UC OR Tr : Addr}
theorem map_at {α : Type} {f : α → V} {l : List α} {i : Nat} {x : V} (h : (l.map f)[i]? = some x) : ∃ z, x = f z ∧ l[i]? = some z := by
  rw [List.getElem?_map] at h
  cases hz : l[i]? with
  | none => rw [hz] at h; cases h
  | some z => rw [hz] at h; cases h; exact ⟨z, rfl, rfl⟩
/-! reset of a state -/
abbrev s_Cells_contentsp : Stmt := inClass (top 19) 7
abbrev sc_Cells_contentsp_N : List Str := ["self", "value"]
theorem sc_Cells_contentsp : FnScope sc_Cells_contentsp_N ["self", "value"] (defScope s_Cells_contentsp) := ⟨rfl, rfl, rfl, by decide +kernel, rfl, by decide +kernel, by decide +kernel⟩
-- 0 self, 1 value
def sp_putN : PySem.W.Frag → Addr → Sp := fun K C vs H Q _ => ∃ (a b dx t h : Addr) (s : Int) (xs : List Str) (hs : List V) (ys : List Int), vs = [.ref a, .ref b] ∧ CA H C a dx t h xs s hs ∧ H b = some (.tup (ys.map V.int)) ∧ xs.length = ys.length ∧ (∀ v ∈ ys, 0 ≤ v ∧ v < s) ∧ ∀ H', CA H' C a dx t b xs s (ys.map V.int) → But a H H' → Q .non H'
theorem put_N (T : CT K mg C) {p g : Addr} {fd : FuncData} (F : Fun K "contents" "Cells.contents" s_Cells_contentsp g fd) (hp : PutO K C "contents" p g) (d_check_state : Dn P w K mg base CX0 2 "check_state" (sp_chkst K)) : PutN P w K mg base CX0 3 C "contents" (sp_putN K C) := by
  refine ⟨p, g, fd, ["self", "value"], F.ok sc_Cells_contentsp (fun vs H Q E h => ?_) (fun cdv A outer s H vs Q E hr h => ?_), hp, F.binds (fun _ _ _ _ _ _ us hl => match us, hl with | [_, _], _ => rfl)⟩
  · obtain ⟨a, b, dx, t, h, s, xs, hs, ys, rfl, _⟩ := h; rfl
  · obtain ⟨a, b, dx, t, h, s, xs, hs, ys, rfl, ca, hb, hl, hv, q⟩ := h
    refine ⟨_, (pss_cons (ps_expr (pe_d d_check_state hr (by decide) pass0 (by rfl) (pa_cons (pe_fld (pv 0) (by rfl)) (pa_cons (pe_fld (pv 0) (by rfl)) (pa_cons (pv 1) pa_nil)))))
      (pss_one (ps_fld (pv 0) (pe_callTy call_tupA (by rfl) T.n_tuple (by decide +kernel) (pa_cons (pv 1) pa_nil)) rfl))), ?_⟩
    walk_at "rd"
    refine ⟨C, dx, _, ca.at_, T.cls, T.a_names, .ref t, rfl, C, dx, _, ca.at_, T.cls, T.a_size, .int s, rfl, t, b, xs.map V.str, ys, s, rfl, ⟨.t, ca.sqT⟩, ⟨.t, SqT.of hb⟩, by rw [List.length_map]; exact hl, hv, fun H1 sm => ?_⟩
    have c1 := CA.same ca sm
    have hb1 := sm _ _ hb
    refine ⟨b, _, rfl, .inr ⟨SqT.of hb1, C, dx, _, c1.at_, T.cls, T.a_held, by show 3 < 1000; decide, ?_⟩⟩
    rw [put4]
    obtain ⟨o, od, ot⟩ := c1.nm
    refine q _ ⟨upd_same, ⟨o, od, ?_⟩, ?_⟩ fun b ob e nb => by rw [upd_ne nb]; exact sm _ _ e
    · rw [upd_ne (ne_of ot c1.at_ (fun z => nomatch z))]; exact ot
    · rw [upd_ne (ne_of hb1 c1.at_ (fun z => nomatch z))]; exact hb1
abbrev s_Cells_reset : Stmt := inClass (top 19) 8
abbrev sc_Cells_reset_N : List Str := ["self", "state"]
theorem sc_Cells_reset : FnScope sc_Cells_reset_N ["self", "state"] (defScope s_Cells_reset) := ⟨rfl, rfl, rfl, by decide +kernel, rfl, by decide +kernel, by decide +kernel⟩
-- 0 self, 1 state
theorem m_resetN (T : CT K mg C) (D : MD K C "reset" "Cells.reset" s_Cells_reset) (P_contents : PutN P w K mg base CX0 3 C "contents" (sp_putN K C)) : Mn P w K mg base CX0 6 C "reset" (sp_putN K C) := by
  refine D.mn sc_Cells_reset (fun _ _ _ _ _ _ us hl => match us, hl with | [_, _], _ => rfl) (fun vs H Q E h => ?_) (fun f cdv A outer s H vs Q E hr h => ?_)
  · obtain ⟨a, b, dx, t, h, s, xs, hs, ys, rfl, _⟩ := h; rfl
  · obtain ⟨a, b, dx, t, h, s, xs, hs, ys, rfl, ca, hb, hl, hv, q⟩ := h
    refine ⟨_, (pss_one (ps_put P_contents T.cls hr (by decide) (E := fun _ => E0) (fun _ _ _ _ _ _ _ h => h.elim) (pv 0) (pv 1))), ?_⟩
    exact ⟨_, rfl, _, rfl, a, dx, _, rfl, ca.at_, a, b, dx, t, h, s, xs, hs, ys, rfl, ca, hb, hl, hv, q⟩
/-! the trial -/
structure CTt (K : PySem.W.Frag) (mg : Str → Option Value) (C Tr : Addr) : Prop extends CT K mg C where
  clt : Cls K Tr
  a_cells : NoAttr K Tr "_cells"
  a_before : NoAttr K Tr "_before"
def fsT (a h : Addr) : List (Str × V) := [("_cells", .ref a), ("_before", .ref h)]
theorem nt1 : ("_cells" : Str) ≠ "_before" := by decide +kernel
theorem putT1 {y : V} : putF "_cells" y [] = [(("_cells" : Str), y)] := rfl
theorem putT2 {a h : Addr} : putF "_before" (.ref h) [(("_cells" : Str), V.ref a)] = fsT a h := by simp [putF, fsT, nt1]
theorem putT3 {a h h' : Addr} : putF "_before" (.ref h') (fsT a h) = fsT a h' := by simp [putF, fsT, nt1]
theorem lkT1 {a h : Addr} : (fsT a h).lookup ("_cells" : Str) = some (V.ref a) := rfl
theorem lkT2 {a h : Addr} : (fsT a h).lookup ("_before" : Str) = some (V.ref h) := by unfold fsT; rw [lookup_put, if_neg (Ne.symm nt1), lookup_put, if_pos rfl]
abbrev s_Trial___init__ : Stmt := inClass (top 18) 0
abbrev sc_Trial___init___N : List Str := ["self", "cells"]
theorem sc_Trial___init__ : FnScope sc_Trial___init___N ["self", "cells"] (defScope s_Trial___init__) := ⟨rfl, rfl, rfl, by decide +kernel, rfl, by decide +kernel, by decide +kernel⟩
-- 0 self, 1 cells
def sp_tinit : Addr → Sp := fun Tr vs H Q _ => ∃ (m a mdx : Addr), vs = [.ref m, .ref a] ∧ H m = some (.ins Tr mdx []) ∧ ∀ e H', H' m = some (.ins Tr mdx (fsT a e)) → But m H H' → Q .non H'
theorem m_tinit (T : CTt K mg C Tr) (D : MD K Tr "__init__" "Trial.__init__" s_Trial___init__) : Mn P w K mg base CX0 1 Tr "__init__" (sp_tinit Tr) := by
  refine D.mn sc_Trial___init__ (fun _ _ _ _ _ _ us hl => match us, hl with | [_, _], _ => rfl) (fun vs H Q E h => ?_) (fun f cdv A outer s H vs Q E hr h => ?_)
  · obtain ⟨m, a, mdx, rfl, _⟩ := h; rfl
  · obtain ⟨m, a, mdx, rfl, hm, q⟩ := h
    refine ⟨_, (pss_cons (ps_fld (pv 0) (pv 1) rfl)
      (pss_one (ps_fld (pv 0) (pe_tup pa_nil) rfl))), ?_⟩
    walk_at "rd"
    refine ⟨Tr, mdx, [], hm, T.clt, T.a_cells, by decide, fun p hp => ⟨Tr, mdx, putF "_cells" (.ref a) [], ?_, T.clt, T.a_before, by show 1 < 1000; decide, ?_⟩⟩
    · rw [upd_ne (fun e => by rw [← e, upd_same] at hp; cases hp), upd_same]
    · rw [putT1] at hp ⊢
      rw [putT2]
      have nmp : m ≠ p := fun e => by rw [← e, upd_same] at hp; cases hp
      rw [upd_ne (Ne.symm nmp)] at hp
      refine q p _ upd_same fun b ob e nb => ?_
      rw [upd_ne nb, upd_ne (ne_of_none e hp), upd_ne nb]
      exact e
abbrev s_Trial___enter__ : Stmt := inClass (top 18) 1
abbrev sc_Trial___enter___N : List Str := ["self"]
theorem sc_Trial___enter__ : FnScope sc_Trial___enter___N ["self"] (defScope s_Trial___enter__) := ⟨rfl, rfl, rfl, by decide +kernel, rfl, by decide +kernel, by decide +kernel⟩
-- 0 self
def sp_enter : Addr → Addr → Sp := fun Tr C vs H Q _ => ∃ (m mdx a dx e : Addr) (fs : List (Str × V)) (v : Addr), vs = [.ref m] ∧ H m = some (.ins Tr mdx (fsT a e)) ∧ H a = some (.ins C dx fs) ∧ fs.lookup ("_held" : Str) = some (V.ref v) ∧ Q (.ref a) (upd H m (.ins Tr mdx (fsT a v)))
theorem f_enter (T : CTt K mg C Tr) {f : Addr} {fd : FuncData} (F : Fun K "__enter__" "Trial.__enter__" s_Trial___enter__ f fd) (p_contents : Pn P w K mg base CX0 1 C "contents" (getSp C "_held")) : FnOk P w K mg base CX0 3 f fd ["self"] (sp_enter Tr C) := by
  refine F.ok sc_Trial___enter__ (fun vs H Q E h => ?_) (fun cdv A outer s H vs Q E hr h => ?_)
  · obtain ⟨m, mdx, a, dx, e, fs, v, rfl, _⟩ := h; rfl
  · obtain ⟨m, mdx, a, dx, e, fs, v, rfl, hm, ha, hl, q⟩ := h
    refine ⟨_, (pss_cons (ps_fld (pv 0) (pe_p p_contents T.cls hr (by decide) pass0 (pe_fld (pv 0) (by rfl)) (by rfl)) rfl)
      (pss_one (ps_ret (pe_fld (pv 0) (by rfl))))), ?_⟩
    walk_at "rd"
    refine ⟨Tr, mdx, _, hm, T.clt, T.a_cells, .ref a, lkT1, a, rfl, ⟨_, _, ha⟩, a, dx, fs, .ref v, rfl, ha, hl, Tr, mdx, _, hm, T.clt, T.a_before, by show 2 < 1000; decide, Tr, mdx, fsT a v, ?_, T.clt, T.a_cells, .ref a, lkT1, ?_⟩
    · rw [upd_same, putT3]
    · rw [putT3]; exact q
abbrev s_Trial___exit__ : Stmt := inClass (top 18) 2
abbrev sc_Trial___exit___N : List Str := ["self", "kind", "value", "trace", "cells"]
theorem sc_Trial___exit__ : FnScope sc_Trial___exit___N ["self", "kind", "value", "trace"] (defScope s_Trial___exit__) := ⟨rfl, rfl, rfl, by decide +kernel, rfl, by decide +kernel, by decide +kernel⟩
-- 0 self, 1 kind, 2 value, 3 trace, 4 cells
def sp_exit : Addr → Addr → Sp := fun Tr C vs H Q _ => ∃ (m mdx a dx t h h' : Addr) (s : Int) (u1 u2 u3 : V), vs = [.ref m, u1, u2, u3] ∧ H m = some (.ins Tr mdx (fsT a h)) ∧ H a = some (.ins C dx (fsC t s h')) ∧ Q .non (upd H a (.ins C dx (fsC t s h)))
theorem f_exit (T : CTt K mg C Tr) {f : Addr} {fd : FuncData} (F : Fun K "__exit__" "Trial.__exit__" s_Trial___exit__ f fd) : FnOk P w K mg base CX0 3 f fd ["self", "kind", "value", "trace"] (sp_exit Tr C) := by
  refine F.ok sc_Trial___exit__ (fun vs H Q E h => ?_) (fun cdv A outer s H vs Q E hr h => ?_)
  · obtain ⟨m, mdx, a, dx, t, h, h', s, u1, u2, u3, rfl, _⟩ := h; rfl
  · obtain ⟨m, mdx, a, dx, t, h, h', s, u1, u2, u3, rfl, hm, ha, q⟩ := h
    refine ⟨_, (pss_cons (ps_set (i := 4) sc_Trial___exit__.nd rfl (Or.inl rfl) (pe_fld (pv 0) (by rfl)))
      (pss_one (ps_fld (pv 4) (pe_fld (pv 0) (by rfl)) rfl))), ?_⟩
    walk_at "rd"
    refine ⟨Tr, mdx, _, hm, T.clt, T.a_cells, .ref a, lkT1, Tr, mdx, _, hm, T.clt, T.a_before, .ref h, lkT2, a, rfl, C, dx, _, ha, T.cls, T.a_held, by show 3 < 1000; decide, ?_⟩
    rw [put4]
    exact q
theorem p_exit (T : CTt K mg C Tr) {f : Addr} {fd : FuncData} (F : Fun K "__exit__" "Trial.__exit__" s_Trial___exit__ f fd) : FnP P w K mg base 3 f fd ["self", "kind", "value", "trace"] (fun _ => sp_exit Tr C) := by
  refine Fun_okP F sc_Trial___exit__ (fun p vs H Q E h => ?_) (fun cdv p A outer s H vs Q E hr h => ?_)
  · obtain ⟨m, mdx, a, dx, t, h, h', s, u1, u2, u3, rfl, _⟩ := h; rfl
  · obtain ⟨m, mdx, a, dx, t, h, h', s, u1, u2, u3, rfl, hm, ha, q⟩ := h
    refine ⟨_, (pss_cons (ps_set (i := 4) sc_Trial___exit__.nd rfl (Or.inl rfl) (pe_fld (pv 0) (by rfl)))
      (pss_one (ps_fld (pv 4) (pe_fld (pv 0) (by rfl)) rfl))), ?_⟩
    walk_at "rd"
    refine ⟨Tr, mdx, _, hm, T.clt, T.a_cells, .ref a, lkT1, Tr, mdx, _, hm, T.clt, T.a_before, .ref h, lkT2, a, rfl, C, dx, _, ha, T.cls, T.a_held, by show 3 < 1000; decide, ?_⟩
    rw [put4]
    exact q
theorem w_tr (T : CTt K mg C Tr) (De : MD K Tr "__enter__" "Trial.__enter__" s_Trial___enter__) (Dx : MD K Tr "__exit__" "Trial.__exit__" s_Trial___exit__) (p_contents : Pn P w K mg base CX0 1 C "contents" (getSp C "_held")) (fe : ∀ f, PySem.W.findIn K (.ref Tr) "__enter__" = some (some (.ref f)) → PySem.W.isFn K (.ref f) = true)
    (fx : ∀ f, PySem.W.findIn K (.ref Tr) "__exit__" = some (some (.ref f)) → PySem.W.isFn K (.ref f) = true) : WithN P w K mg base 3 Tr (sp_enter Tr C) (sp_exit Tr C) := by
  obtain ⟨f1, d1, F1, M1⟩ := De.ex
  obtain ⟨f2, d2, F2, M2⟩ := Dx.ex
  exact ⟨f1, f2, d1, d2, _, _, f_enter T F1 p_contents, F1.binds (fun _ _ _ _ _ _ us hl => match us, hl with | [_], _ => rfl), f_exit T F2, p_exit T F2, F2.binds (fun _ _ _ _ _ _ us hl => match us, hl with | [_, _, _, _], _ => rfl), M1.at_, fe _ M1.at_, M2.at_, fx _ M2.at_⟩
abbrev s_Cells_trial : Stmt := inClass (top 19) 11
abbrev sc_Cells_trial_N : List Str := ["self"]
theorem sc_Cells_trial : FnScope sc_Cells_trial_N ["self"] (defScope s_Cells_trial) := ⟨rfl, rfl, rfl, by decide +kernel, rfl, by decide +kernel, by decide +kernel⟩
-- 0 self
def sp_trial : Addr → Sp := fun Tr vs H Q _ => ∃ a : Addr, vs = [.ref a] ∧ (∃ o, H a = some o) ∧ ∀ m mdx e H', H m = none → H' m = some (.ins Tr mdx (fsT a e)) → Same H H' → Q (.ref m) H'
theorem m_trial (D : MD K C "trial" "Cells.trial" s_Cells_trial) (k_Trial : Kn P w K mg base CX0 1 Tr "Trial" (sp_tinit Tr)) : Mn P w K mg base CX0 3 C "trial" (sp_trial Tr) := by
  refine D.mn sc_Cells_trial (fun _ _ _ _ _ _ us hl => match us, hl with | [_], _ => rfl) (fun vs H Q E h => ?_) (fun f cdv A outer s H vs Q E hr h => ?_)
  · obtain ⟨a, rfl, _⟩ := h; rfl
  · obtain ⟨a, rfl, ho, q⟩ := h
    refine ⟨_, (pss_one (ps_ret (pe_k k_Trial hr (by decide) pass0 (by rfl) (pa_cons (pv 0) pa_nil)))), ?_⟩
    walk_at "rd"
    refine fun m mdx hm hmd hne => ⟨m, a, mdx, rfl, upd_same, fun e H' hm' b => ⟨rfl, q m mdx e H' hm hm' fun b' o' e' => ?_⟩⟩
    refine b _ _ ?_ (ne_of_none e' hm)
    rw [upd_ne (ne_of_none e' hm), upd_ne (ne_of_none e' hmd)]
    exact e'
/-- what a list of assignments leads to -/
inductive Res
  | unk (z : Str)
  | rng (z : Str) (v : Int)
  | st (ms : List Int)
instance (s v : Int) : Decidable (bad s v) := by unfold bad; infer_instance
def fix : List Str → Str → Nat
  | [], _ => 0
  | x :: r, z => if x = z then 0 else fix r z + 1
theorem fix_at {z : Str} : ∀ {xs : List Str} {j : Nat}, xs[j]? = some z → (∀ m, m < j → xs[m]? ≠ some z) → fix xs z = j
  | [], _, h, _ => by simp at h
  | x :: r, 0, h, _ => by simp at h; simp [fix, h]
  | x :: r, j + 1, h, n => by
    have h0 : x ≠ z := fun e => n 0 (Nat.succ_pos _) (by simp [e])
    rw [fix, if_neg h0, fix_at (by simpa using h) fun m hm => by have := n (m + 1) (Nat.succ_lt_succ hm); simpa using this]
def peekR (xs : List Str) (s : Int) : List (Str × Int) → List Int → Res
  | [], ms => .st ms
  | (z, v) :: r, ms => if z ∈ xs then (if bad s v then .rng z v else peekR xs s r (ms.set (fix xs z) v)) else .unk z
def smallC (chs : List (Str × Int)) : Prop := ∀ p ∈ chs, p.1.length ≤ 1000 ∧ -(2 ^ 64) < p.2 ∧ p.2 < 2 ^ 64
def Chs (H : Hp) (cs : List Addr) (chs : List (Str × Int)) : Prop := Paired (fun c p => H c = some (.tup [V.str p.1, V.int p.2])) cs chs
abbrev s_Cells_peek : Stmt := inClass (top 19) 12
abbrev sc_Cells_peek_N : List Str := ["self", "changes", "name", "value"]
theorem sc_Cells_peek : FnScope sc_Cells_peek_N ["self", "changes"] (defScope s_Cells_peek) := ⟨rfl, rfl, rfl, by decide +kernel, rfl, by decide +kernel, by decide +kernel⟩
-- 0 self, 1 changes, 2 name, 3 value
def sp_peek : PySem.W.Frag → Addr → Addr → Addr → Sp := fun K C UC OR vs H Q E => ∃ (a q dx t h : Addr) (s : Int) (xs : List Str) (ms : List Int) (cs : List Addr) (chs : List (Str × Int)), vs = [.ref a, .ref q] ∧ CA H C a dx t h xs s (ms.map V.int) ∧ ms.length = xs.length ∧ H q = some (.lst (cs.map V.ref)) ∧ Chs H cs chs ∧ smallC chs ∧
  (∀ z, peekR xs s chs ms = .unk z → ∀ d H', H' d = some (.xd [(("cell" : Str), V.str z)]) → CA H' C a dx t h xs s (ms.map V.int) → But a H H' → E (.ref UC) (some d) H') ∧
  (∀ z v, peekR xs s chs ms = .rng z v → ∀ d H', H' d = some (.xd [(("value" : Str), V.int v), (("cell" : Str), V.str z)]) → CA H' C a dx t h xs s (ms.map V.int) → But a H H' → E (.ref OR) (some d) H') ∧
  (∀ ms', peekR xs s chs ms = .st ms' → ∀ r H', H' r = some (.tup (ms'.map V.int)) → CA H' C a dx t h xs s (ms.map V.int) → But a H H' → Q (.ref r) H')
theorem m_peek (T : CTt K mg C Tr) (D : MD K C "peek" "Cells.peek" s_Cells_peek) (m_trial : Mn P w K mg base CX0 3 C "trial" (sp_trial Tr)) (w_Trial : WithN P w K mg base 3 Tr (sp_enter Tr C) (sp_exit Tr C)) (S_setitem : Sn P w K mg base (L2.CX P w) 4 C (sp_set C UC OR)) (p_contents : Pn P w K mg base CX0 1 C "contents" (getSp C "_held")) :
    Mn P w K mg base (L2.CX P w) 8 C "peek" (sp_peek K C UC OR) := by
  refine D.mx sc_Cells_peek (fun _ _ _ _ _ _ us hl => match us, hl with | [_, _], _ => rfl) (fun vs H Q E h => ?_) (fun f cdv A outer s H vs Q E hr h => ?_)
  · obtain ⟨a, q, dx, t, h, s, xs, ms, cs, chs, rfl, _⟩ := h; rfl
  · obtain ⟨a, q, dx, t, h, s, xs, ms, cs, chs, rfl, ca, lm, hq, hc, sc, q1, q2, q3⟩ := h
    refine ⟨_, (pss_one (ps_withN w_Trial rfl rfl rfl hr (by decide) (takes_of rfl rfl rfl rfl) (pe_m' m_trial T.cls hr (by decide) pass0 (pv 0)) (fun W pn xe tk po => (pss_cons (ps_for (X := Cx.tr _ pn xe) po rfl (pi_listK K rfl (pv 1)) (pg_tupK K 2 rfl rfl (pgs_cons (pg_name (i := 2) sc_Cells_peek.nd rfl (Or.inl rfl)) (pgs_cons (pg_name (i := 3) sc_Cells_peek.nd rfl (Or.inl rfl)) pgs_nil))) (pss_one (ps_asg (pv 3) (pg_sub (pv 0) (pv 2) (set_ownn (E := fun c d H => ∀ σ, W c d σ H) S_setitem hr (by decide) (passes_call tk (fun _ _ σ _ h => h σ)))))))
      (pss_one (ps_ret (pe_p p_contents T.cls hr (by decide) pass0 (pv 0) (by rfl)))))))), ?_⟩
    walk_at "rd"
    refine ⟨_, rfl, a, dx, _, rfl, ca.at_, rfl, a, rfl, ⟨_, ca.at_⟩, fun m mdx e H1 hm0 hm s1 => ⟨m, mdx, _, rfl, hm, m, mdx, a, dx, e, _, h, rfl, hm, s1 _ _ ca.at_, rfl, ?_⟩⟩
    walk_at "rd"
    have nma : m ≠ a := Ne.symm (ne_of_none ca.at_ hm0)
    have nhm : h ≠ m := ne_of_none ca.hd hm0
    have nha : h ≠ a := ne_of ca.hd ca.at_ (fun z => nomatch z)
    have nqm : q ≠ m := ne_of_none hq hm0
    have nqa : q ≠ a := ne_of hq ca.at_ (fun z => nomatch z)
    have up2 : ∀ b o, b ≠ m → H b = some o → upd H1 m (.ins Tr mdx (fsT a h)) b = some o := fun b o n z => by rw [upd_ne n]; exact s1 _ _ z
    have hm2 : upd H1 m (.ins Tr mdx (fsT a h)) m = some (.ins Tr mdx (fsT a h)) := upd_same
    have ca2 : CA (upd H1 m (.ins Tr mdx (fsT a h))) C a dx t h xs s (ms.map V.int) := ⟨up2 _ _ (Ne.symm nma) ca.at_, let ⟨o, d, z⟩ := ca.nm; ⟨o, d, up2 _ _ (ne_of_none z hm0) z⟩, up2 _ _ nhm ca.hd⟩
    generalize upd H1 m (.ins Tr mdx (fsT a h)) = H2 at up2 hm2 ca2 ⊢
    have bak : ∀ {H' : Hp} {hi : Addr} {zs : List V} {d : Addr} {o : HO}, CA H' C a dx t hi xs s zs → But a H2 H' → H' d = none → CA (upd (upd H' d o) a (.ins C dx (fsC t s h))) C a dx t h xs s (ms.map V.int) ∧ But a H (upd (upd H' d o) a (.ins C dx (fsC t s h))) := fun {H' hi zs d o} ci bi hd => by
      have hh := bi _ _ ca2.hd nha
      obtain ⟨o1, d1, t1⟩ := ci.nm
      refine ⟨⟨upd_same, ⟨o1, d1, ?_⟩, ?_⟩, fun b ob e nb => ?_⟩
      · rw [upd_ne (ne_of t1 ci.at_ (fun z => nomatch z)), upd_ne (ne_of_none t1 hd)]; exact t1
      · rw [upd_ne nha, upd_ne (ne_of_none hh hd)]; exact hh
      · have z := bi _ _ (up2 b ob (ne_of_none e hm0) e) nb
        rw [upd_ne nb, upd_ne (ne_of_none z hd)]; exact z
    refine ⟨⟨_, SqL.of (up2 _ _ nqm hq)⟩, FJ.list (xs := cs.map V.ref) (fun i σ' H' => ∃ y2 y3 mi hi, σ' = [some (.ref a), some (.ref q), y2, y3] ∧ CA H' C a dx t hi xs s (mi.map V.int) ∧ mi.length = xs.length ∧ peekR xs s chs ms = peekR xs s (chs.drop i) mi ∧ But a H2 H') ⟨_, _, ms, h, rfl, ca2, lm, rfl, fun _ _ z _ => z⟩ (fun i σ' H' _ inv => ?_) (fun i x σ' H' hx inv => ?_) fun σ' H' inv => ?_⟩
    · obtain ⟨y2, y3, mi, hi, rfl, ci, li, ri, bi⟩ := inv
      exact SqL.of (bi _ _ (up2 _ _ nqm hq) nqa)
    · obtain ⟨y2, y3, mi, hi, rfl, ci, li, ri, bi⟩ := inv
      obtain ⟨c, rfl, hci⟩ := map_at hx
      obtain ⟨⟨z, v⟩, hzv, hcz⟩ := pr_at hc hci
      have hc' : H' c = some (.tup [V.str z, V.int v]) := bi _ _ (up2 _ _ (ne_of_none hcz hm0) hcz) (ne_of hcz ca.at_ (fun z => nomatch z))
      obtain ⟨z1, v0, v1⟩ := sc _ (List.mem_of_getElem? hzv)
      have dr : chs.drop i = (z, v) :: chs.drop (i + 1) := by
        obtain ⟨hlt, e⟩ := List.getElem?_eq_some_iff.mp hzv
        rw [List.drop_eq_getElem_cons hlt, e]
      have hmi := bi _ _ hm2 nma
      walk_at "rd"
      refine ⟨[.str z, .int v], SqT.of hc', rfl, .str z, [.int v], rfl, .int v, [], rfl, rfl, _, rfl, _, rfl, a, dx, _, rfl, ci.at_, a, dx, t, hi, s, xs, _, z, v, rfl, ci, by rw [List.length_map]; exact li, z1, v0, v1, fun hz d hd σ => ⟨UC, rfl, fun a1 tv _ => ?_⟩, fun hz hb d hd σ => ⟨OR, rfl, fun a1 tv _ => ?_⟩, fun hz hb j h' H'' j1 j2 j3 ca'' bt => ?_⟩
      · have nda : d ≠ a := Ne.symm (ne_of_none ci.at_ hd)
        obtain ⟨c1, b1⟩ := bak (o := .xd [(("cell" : Str), V.str z)]) ci bi hd
        refine ⟨m, mdx, a, dx, t, h, hi, s, _, _, _, rfl, UL.Same.new hd _ _ hmi, UL.Same.new hd _ _ ci.at_, rfl, q1 z ?_ d _ (by rw [upd_ne nda, upd_same]) c1 b1⟩
        rw [ri, dr, peekR, if_neg hz]
      · have nda : d ≠ a := Ne.symm (ne_of_none ci.at_ hd)
        obtain ⟨c1, b1⟩ := bak (o := .xd [(("value" : Str), V.int v), (("cell" : Str), V.str z)]) ci bi hd
        refine ⟨m, mdx, a, dx, t, h, hi, s, _, _, _, rfl, UL.Same.new hd _ _ hmi, UL.Same.new hd _ _ ci.at_, rfl, q2 z v ?_ d _ (by rw [upd_ne nda, upd_same]) c1 b1⟩
        rw [ri, dr, peekR, if_pos hz, if_pos hb]
      · rw [show (mi.map V.int).set j (V.int v) = (mi.set j v).map V.int by rw [List.map_set]] at ca''
        refine ⟨⟨_, _, rfl⟩, mi.set j v, ⟨h', ca''⟩, by rw [List.length_set]; exact li, ?_, But.tr bi bt⟩
        rw [ri, dr, peekR, if_pos hz, if_neg hb, fix_at j2 j3]
    · obtain ⟨y2, y3, mi, hi, rfl, ci, li, ri, bi⟩ := inv
      have hmi := bi _ _ hm2 nma
      walk_at "rd"
      have lc : cs.length = chs.length := hc.length
      rw [List.length_map, lc, List.drop_length] at ri
      refine ⟨⟨_, _, ci.at_⟩, a, dx, _, .ref hi, rfl, ci.at_, rfl, m, mdx, a, dx, t, h, hi, s, _, _, _, rfl, hmi, ci.at_, rfl, q3 mi ri hi _ ?_ ?_ ?_⟩
      · rw [upd_ne (ne_of ci.hd ci.at_ (fun z => nomatch z))]; exact ci.hd
      · obtain ⟨o1, d1, t1⟩ := ci.nm
        exact ⟨upd_same, ⟨o1, d1, by rw [upd_ne (ne_of t1 ci.at_ (fun z => nomatch z))]; exact t1⟩, by rw [upd_ne nha]; exact bi _ _ ca2.hd nha⟩
      · intro b ob e nb
        rw [upd_ne nb]
        exact bi _ _ (up2 b ob (ne_of_none e hm0) e) nb
end
end
end U

set_option Elab.async false
set_option linter.all false
set_option maxRecDepth 100000
set_option maxHeartbeats 4000000
namespace U
open PySem PySem.Spec PyProof.Rows L2 UL
local macro_rules | `(tactic| walk_at "rd") => `(tactic| simp only [tSeq, tAsg, tOp, tCB, tCons, tNil, tVar, tC, tB, tTest, tNot, tIfS, tNext, tYes, tUn, rU, tM0, tGFrom, tGThen, tG0, tYfLst, gcxK, tSubO, tProp, tListG, tMethG, tBMF, tFld, sFld, tMeth, tMake, tSl, tNoPart, tPart, tM1, gTup, gCons, gNil, tDrop, tFor_eq, tLc_eq, tLc2_eq, iRng1_eq, StX.tStar, iList, iTup, iStr, iAny_var, iZipB, tLenSetS, wipe, tVar, tAndV, tOrV, tNotV, tOr, tAnd, tLst, tTup, tBM, tBM0, tChain, tCall, cxK, noxK, addII, addSS, mulII, eqII, neII, neSS, cIntI, cAbsI, rI, rI0, rLt, rLe, rGt_, rGe_, rSub_, rMod, rPow, rDivW, rNeg, gName, tRet, L2.start, List.length_cons, List.length_nil, List.map_cons, List.map_nil, List.replicate, List.cons_append, List.nil_append, List.getElem?_cons_zero, List.getElem?_cons_succ, List.set_cons_zero, List.set_cons_succ, Option.some.injEq, exists_eq_left', exists_eq_left, V.int.injEq, V.bl.injEq, V.str.injEq, V.ref.injEq, V.ty.injEq, List.cons.injEq, and_true, true_and, reduceCtorEq, false_and, exists_false, or_false, false_or, exists_and_left, exists_and_right, List.append_nil, forall_eq, decide_eq_true_eq, Bool.not_eq_true, Nat.reduceAdd, Nat.reduceSub, List.replicate_zero, List.replicate_succ, Nat.zero_le, ite_true, ite_false, if_true, if_false])
section
variable {P : Program} {w : World} {K : PySem.W.Frag} {mg : Str → Option Value} {base : Heap}

open UV UW
section
variable {C UC OR Tr : Addr}
abbrev s__law_value : Stmt := top 27
abbrev sc__law_value_N : List Str := ["_law_pool_here", "_law_size", "_law_choice", "_law_far"]
theorem sc__law_value : FnScope sc__law_value_N ["_law_pool_here", "_law_size"] (defScope s__law_value) := ⟨rfl, rfl, rfl, by decide +kernel, rfl, by decide +kernel, by decide +kernel⟩
-- 0 _law_pool_here, 1 _law_size, 2 _law_choice, 3 _law_far
def sp_value : Sp := fun vs H Q _ => ∃ (p : Addr) (n : Int), vs = [.ref p, .int n] ∧ Pl H p ∧ 1 ≤ n ∧ n ≤ 3 ∧ ∀ v H', -(2 ^ 30) < v → v < 2 ^ 30 → Pl H' p → But p H H' → Q (.int v) H'
theorem d_value (T : Nm mg) (D : TD K mg "_law_value" s__law_value) (d__law_draw : Dn P w K mg base CX0 1 "_law_draw" sp_draw) : Dn P w K mg base CX0 2 "_law_value" sp_value := by
  refine D.dn sc__law_value (fun _ _ _ _ _ _ us hl => match us, hl with | [_, _], _ => rfl) (fun vs H Q E h => ?_) (fun f cdv A outer s H vs Q E hr h => ?_)
  · obtain ⟨p, n, rfl, _⟩ := h; rfl
  · obtain ⟨p, n, rfl, hp, n1, n3, q⟩ := h
    refine ⟨_, (pss_cons (ps_set (i := 2) sc__law_value.nd rfl (Or.inl rfl) (pe_d d__law_draw hr (by decide) pass0 (by rfl) (pa_cons (pv 0) (pa_cons pe_int pa_nil))))
      (pss_cons (ps_set (i := 3) sc__law_value.nd rfl (Or.inl rfl) (pe_op op_addA (pe_op op_mulA (pe_d d__law_draw hr (by decide) pass0 (by rfl) (pa_cons (pv 0) (pa_cons pe_int pa_nil))) pe_int) (pe_d d__law_draw hr (by decide) pass0 (by rfl) (pa_cons (pv 0) (pa_cons pe_int pa_nil)))))
      (pss_cons (ps_if (pt_cmpR (op_eqA (hr.units)) (pv 2) pe_int (nomark _)) (pss_one (ps_ret (pe_un un_negA pe_int))) pss_nil)
      (pss_cons (ps_if (pt_cmpR (op_eqA (hr.units)) (pv 2) pe_int (nomark _)) (pss_one (ps_ret (pv 1))) pss_nil)
      (pss_cons (ps_if (pt_cmpR (op_eqA (hr.units)) (pv 2) pe_int (nomark _)) (pss_one (ps_ret (pe_op op_addA (pv 1) (pv 3)))) pss_nil)
      (pss_cons (ps_if (pt_cmpR (op_eqA (hr.units)) (pv 2) pe_int (nomark _)) (pss_one (ps_ret (pe_op op_subA (pe_un un_negA pe_int) (pv 3)))) pss_nil)
      (pss_one (ps_ret (pe_op op_modA (pe_callTy call_intA (by rfl) T.n_int (by decide +kernel) (pa_cons (pv 3) pa_nil)) (pv 1)))))))))), ?_⟩
    walk_at "rd"
    refine drawI (by decide) hp fun ch H1 c0 c8 hp1 b1 => drawI (by decide) hp1 fun u H2 u0 u1 hp2 b2 => mulII.mpr ⟨.inl ⟨by omega, by omega⟩, drawI (by decide) hp2 fun w' H3 w0 w1 hp3 b3 => addII.mpr ?_⟩
    have bt := But.tr (But.tr b1 b2) b3
    have e : ∀ {i j : Int} {H' : Hp} {R : VK}, (i = j → R (.bl true) H') → (i ≠ j → R (.bl false) H') → rEqA K (.int i) (.int j) H' R := fun {i j H' R} h1 h2 => eqII.mpr (by
      by_cases z : i = j
      · rw [decide_eq_true z]; exact h1 z
      · rw [decide_eq_false z]; exact h2 z)
    refine e (fun _ => ⟨true, rfl, ?_⟩) fun _ => ⟨false, rfl, ?_⟩
    · rw [if_pos rfl]; exact q _ _ (by omega) (by omega) hp3 bt
    rw [if_neg (by decide)]
    refine e (fun _ => ⟨true, rfl, ?_⟩) fun _ => ⟨false, rfl, ?_⟩
    · rw [if_pos rfl]; exact q _ _ (by omega) (by omega) hp3 bt
    rw [if_neg (by decide)]
    refine e (fun _ => ⟨true, rfl, ?_⟩) fun _ => ⟨false, rfl, ?_⟩
    · rw [if_pos rfl]; exact addII.mpr (q _ _ (by omega) (by omega) hp3 bt)
    rw [if_neg (by decide)]
    refine e (fun _ => ⟨true, rfl, ?_⟩) fun _ => ⟨false, rfl, ?_⟩
    · rw [if_pos rfl]; exact ⟨_, rfl, q _ _ (by omega) (by omega) hp3 bt⟩
    rw [if_neg (by decide)]
    have m0 := Int.emod_nonneg (u * 1000 + w') (show n ≠ 0 by omega)
    have m1 := Int.emod_lt_of_pos (u * 1000 + w') (show 0 < n by omega)
    exact cIntI.mpr ⟨_, rfl, by omega, q _ _ (by omega) (by omega) hp3 bt⟩
theorem nm_ok {z : Str} (h : isNm z) : PyData.strOk z = true := by
  have e : ∀ c ∈ abc.cps.toList, c < 0x110000 := by rw [abc_eq]; intro c hc; obtain ⟨n, hn, rfl⟩ := List.mem_map.mp hc; have := List.mem_range.mp hn; omega
  show (z.cps.all (· < 0x110000)) = true
  rw [Array.all_eq_true_iff_forall_mem]
  intro c hc
  exact decide_eq_true (e c (h.2.2 c (by simpa using hc)))
theorem ok_app {x y : Str} (hx : PyData.strOk x = true) (hy : PyData.strOk y = true) : PyData.strOk (x ++ y) = true := by
  show (x.cps ++ y.cps).all (· < 0x110000) = true
  rw [Array.all_append]
  have h1 : x.cps.all (· < 0x110000) = true := hx
  have h2 : y.cps.all (· < 0x110000) = true := hy
  rw [h1, h2]; rfl
theorem ok_cut {x : Str} {lo hi : Option Int} (hx : PyData.strOk x = true) : PyData.strOk (cutS x lo hi) = true := by
  have h1 : x.cps.all (· < 0x110000) = true := hx
  rw [Array.all_eq_true_iff_forall_mem] at h1
  show (Array.all _ (· < 0x110000)) = true
  rw [Array.all_eq_true_iff_forall_mem]
  intro c hc
  refine h1 c ?_
  unfold cutS at hc
  have h2 := List.mem_of_mem_drop (List.mem_of_mem_take (by simpa using hc))
  simpa using h2
theorem up26 : ∀ n : Fin 26, Unicode.upperOf (97 + n.val) = [97 + n.val - 32] := by decide +kernel
theorem ok_upper {x : Str} (h : isNm x) : PyData.strOk (Txt.upper x) = true := by
  have e : placed x (fun _ c => Unicode.upperOf c) = x.cps.map (fun c => c - 32) := placed_single x _ _ fun i c hc => by
    have hm := h.2.2 c (List.mem_of_getElem? hc)
    rw [abc_eq] at hm
    obtain ⟨n, hn, rfl⟩ := List.mem_map.mp hm
    exact up26 ⟨n, List.mem_range.mp hn⟩
  show (placed x (fun _ c => Unicode.upperOf c)).all (· < 0x110000) = true
  rw [e, Array.all_eq_true_iff_forall_mem]
  intro c hc
  obtain ⟨d, hd, rfl⟩ := Array.mem_map.mp hc
  have h1 : x.cps.all (· < 0x110000) = true := nm_ok h
  rw [Array.all_eq_true_iff_forall_mem] at h1
  have := of_decide_eq_true (h1 d hd)
  exact decide_eq_true (by omega)
theorem inV_yes {z : Str} {xs : List Str} (h : z ∈ xs) : inV (.str z) (xs.map V.str) = true := by
  unfold inV
  rw [List.any_eq_true]
  exact ⟨.str z, List.mem_map_of_mem h, by simp [eqV]⟩
theorem inV_no {z : Str} {xs : List Str} (h : z ∉ xs) : inV (.str z) (xs.map V.str) = false := by
  unfold inV
  rw [List.any_eq_false]
  intro y hy
  obtain ⟨u, hu, rfl⟩ := List.mem_map.mp hy
  simp only [eqV, beq_iff_eq]
  exact fun q => h (q ▸ hu)
abbrev s__law_strange : Stmt := top 26
abbrev sc__law_strange_N : List Str := ["_law_pool_here", "_law_names_here", "_law_words", "_law_start", "_law_k", "_law_word"]
theorem sc__law_strange : FnScope sc__law_strange_N ["_law_pool_here", "_law_names_here"] (defScope s__law_strange) := ⟨rfl, rfl, rfl, by decide +kernel, rfl, by decide +kernel, by decide +kernel⟩
-- 0 _law_pool_here, 1 _law_names_here, 2 _law_words, 3 _law_start, 4 _law_k, 5 _law_word
def sp_strange : Sp := fun vs H Q _ => ∃ (p q : Addr) (xs : List Str), vs = [.ref p, .ref q] ∧ Pl H p ∧ H q = some (.lst (xs.map V.str)) ∧ q ≠ p ∧ 1 ≤ xs.length ∧ xs.length ≤ 3 ∧ (∀ z ∈ xs, isNm z) ∧ ∀ z H', z ∉ xs → z.length ≤ 100 → PyData.strOk z = true → Pl H' p → But p H H' → Q (.str z) H'
theorem d_strange (T : Nm mg) (D : TD K mg "_law_strange" s__law_strange) (d__law_draw : Dn P w K mg base CX0 1 "_law_draw" sp_draw) : Dn P w K mg base CX0 2 "_law_strange" sp_strange := by
  refine D.dn sc__law_strange (fun _ _ _ _ _ _ us hl => match us, hl with | [_, _], _ => rfl) (fun vs H Q E h => ?_) (fun f cdv A outer s H vs Q E hr h => ?_)
  · obtain ⟨p, q, xs, rfl, _⟩ := h; rfl
  · obtain ⟨p, q0, xs, rfl, hp, hq, npq, l1, l3, nm, q⟩ := h
    refine ⟨_, (pss_cons (ps_set (i := 2) sc__law_strange.nd rfl (Or.inl rfl) (pe_lst (pa_cons (pe_op op_addA (pe_ix ix_seq (pv 1) pe_int (fun _ _ => rfl)) pe_str) (pa_cons (pe_slice sl_str (pe_ix ix_seq (pv 1) pe_int (fun _ _ => rfl)) (po_some pe_int) po_none) (pa_cons (pe_op op_addA (pe_ix ix_seq (pv 1) (pe_un un_negA pe_int) (fun _ _ => rfl)) pe_str) (pa_cons pe_str (pa_cons pe_str (pa_cons (pe_m0 PySem.F.slot_str_upper PySem.F.type_str_upper mt_upper (pe_ix ix_seq (pv 1) pe_int (fun _ _ => rfl))) pa_nil))))))))
      (pss_cons (ps_set (i := 3) sc__law_strange.nd rfl (Or.inl rfl) (pe_d d__law_draw hr (by decide) pass0 (by rfl) (pa_cons (pv 0) (pa_cons (pe_callB call_lenA (by rfl) T.n_len (by decide +kernel) (pa_cons (pv 2) pa_nil)) pa_nil))))
      (pss_cons (ps_for PassesOwn.never rfl (pi_range1 (by rfl) T.n_range (pa_cons (pe_callB call_lenA (by rfl) T.n_len (by decide +kernel) (pa_cons (pv 2) pa_nil)) pa_nil)) (pg_name (i := 4) sc__law_strange.nd rfl (Or.inl rfl)) (pss_cons (ps_set (i := 5) sc__law_strange.nd rfl (Or.inl rfl) (pe_ix ix_seq (pv 2) (pe_op op_modA (pe_callTy call_intA (by rfl) T.n_int (by decide +kernel) (pa_cons (pe_op op_addA (pv 3) (pv 4)) pa_nil)) (pe_callB call_lenA (by rfl) T.n_len (by decide +kernel) (pa_cons (pv 2) pa_nil))) (fun _ _ => rfl)))
      (pss_one (ps_if (pt_cmpR op_ninA (pv 5) (pv 1) (by with_unfolding_all rfl)) (pss_one (ps_ret (pv 5))) pss_nil))))
      (pss_one (ps_ret pe_str))))), ?_⟩
    walk_at "rd"
    obtain ⟨x0, hx0⟩ : ∃ x0, xs[0]? = some x0 := ⟨xs[0], by simp [show 0 < xs.length by omega]⟩
    obtain ⟨xe, hxe⟩ : ∃ xe, xs[xs.length - 1]? = some xe := ⟨xs[xs.length - 1], by simp [show xs.length - 1 < xs.length by omega]⟩
    have n0 := nm x0 (List.mem_of_getElem? hx0)
    have ne := nm xe (List.mem_of_getElem? hxe)
    have a0 : atI (xs.map V.str) 0 = some (.str x0) := atN (n := 0) (by rw [List.getElem?_map, hx0]; rfl)
    have ae : atI (xs.map V.str) (-1) = some (.str xe) := by
      unfold atI ixN
      rw [if_neg (by decide), if_pos (by rw [List.length_map]; omega), List.length_map]
      show (xs.map V.str)[((-1 : Int) + xs.length).toNat]? = _
      rw [show ((-1 : Int) + xs.length).toNat = xs.length - 1 by omega, List.getElem?_map, hxe]; rfl
    have z0 := n0.2.1
    have ze := ne.2.1
    have zc := cutS_length x0 (some 1) none
    have zu := len_upper x0
    have lq : (Str.ofString "q").length = 1 := by decide +kernel
    have lz : (Str.ofString "z").length = 1 := by decide +kernel
    have le : (Str.ofString "").length = 0 := by decide +kernel
    have lA : (Str.ofString "A").length = 1 := by decide +kernel
    have sL := SqL.of hq (K := K)
    refine ixL sL a0 (addSS.mpr ⟨by rw [sizeLine_eq]; omega, ixL sL a0 ⟨x0, rfl, by rw [sizeLine_eq]; omega, ixL sL ae (addSS.mpr ⟨by rw [sizeLine_eq]; omega, ixL sL a0 ⟨⟨_, rfl⟩, x0, rfl, by omega, by rw [sizeLine_eq]; decide, fun pw hpw => ?_⟩⟩)⟩⟩)
    have hok : ∀ z ∈ [x0 ++ Str.ofString "q", cutS x0 (some 1) none, xe ++ Str.ofString "z", Str.ofString "", Str.ofString "A", Txt.upper x0], PyData.strOk z = true := by
      intro z hz
      simp only [List.mem_cons, List.not_mem_nil, or_false] at hz
      rcases hz with rfl | rfl | rfl | rfl | rfl | rfl
      · exact ok_app (nm_ok n0) (by decide +kernel)
      · exact ok_cut (nm_ok n0)
      · exact ok_app (nm_ok ne) (by decide +kernel)
      · decide +kernel
      · decide +kernel
      · exact ok_upper n0
    have hws : ∀ z ∈ [x0 ++ Str.ofString "q", cutS x0 (some 1) none, xe ++ Str.ofString "z", Str.ofString "", Str.ofString "A", Txt.upper x0], z.length ≤ 100 := by
      intro z hz
      simp only [List.mem_cons, List.not_mem_nil, or_false] at hz
      rcases hz with rfl | rfl | rfl | rfl | rfl | rfl <;> (try rw [len_app]) <;> omega
    rw [show [V.str (x0 ++ Str.ofString "q"), V.str (cutS x0 (some 1) none), V.str (xe ++ Str.ofString "z"), V.str (Str.ofString ""), V.str (Str.ofString "A"), V.str (Txt.upper x0)] = [x0 ++ Str.ofString "q", cutS x0 (some 1) none, xe ++ Str.ofString "z", Str.ofString "", Str.ofString "A", Txt.upper x0].map V.str from rfl]
    generalize hwe : [x0 ++ Str.ofString "q", cutS x0 (some 1) none, xe ++ Str.ofString "z", Str.ofString "", Str.ofString "A", Txt.upper x0] = ws at hws hok
    have wl : ws.length = 6 := by rw [← hwe]; rfl
    have npw : pw ≠ p := Ne.symm (hp.ne hpw)
    refine lenL (.inl (.inl upd_same)) (drawI (by rw [List.length_map, wl]; decide) (hp.put (hp.ne hpw)) fun st H1 s0 s6 hp1 b1 => ?_)
    rw [List.length_map, wl] at s6
    have hw1 : H1 pw = some (.lst (ws.map V.str)) := b1 _ _ upd_same npw
    have b01 : But p H H1 := But.tr (UL.Same.but (UL.Same.new hpw)) b1
    have hq1 := b01 _ _ hq npq
    refine lenL (.inl (.inl hw1)) ⟨_, rfl, by omega, by rw [List.length_map, wl]; decide, FJ.rangeI (fun k σ' H' => ∃ y z, σ' = [some (.ref p), some (.ref q0), some (.ref pw), some (.int st), y, z] ∧ H' = H1) (by omega) ⟨_, _, rfl, rfl⟩ (fun k σ' H' hk inv => ?_) fun σ' H' inv => ?_⟩
    · obtain ⟨y, z, rfl, rfl⟩ := inv
      walk_at "rd"
      have m0 := Int.emod_nonneg (st + k) (show (6 : Int) ≠ 0 by decide)
      have m1 := Int.emod_lt_of_pos (st + k) (show (0 : Int) < 6 by decide)
      have wl2 : ((ws.map V.str).length : Int) = 6 := by rw [List.length_map, wl]; rfl
      refine lenL (.inl (.inl hw1)) ⟨_, rfl, by rw [wl2]; decide, ?_⟩
      rw [wl2]
      have hlt : ((st + k) % 6).toNat < ws.length := by rw [wl]; omega
      have hg : (ws.map V.str)[((st + k) % 6).toNat]? = some (.str ws[((st + k) % 6).toNat]) := by rw [List.getElem?_map]; simp [hlt]
      have hat := atN hg
      rw [show ((((st + k) % 6).toNat : Nat) : Int) = (st + k) % 6 by omega] at hat
      refine ixL (.inl (.inl hw1)) hat (.inr ⟨q0, _, rfl, .inl (SqL.of hq1), rfl, flat_strs xs, _, rfl, ?_⟩)
      have hl := hws _ (List.getElem_mem hlt)
      have ho := hok _ (List.getElem_mem hlt)
      generalize ws[((st + k) % 6).toNat] = wz at hl ho
      by_cases hz : wz ∈ xs
      · rw [if_pos rfl, inV_yes hz, if_neg (by decide)]
        exact ⟨⟨_, rfl⟩, rfl⟩
      · rw [if_pos rfl, inV_no hz, if_pos (by decide)]
        exact q _ _ hz hl ho hp1 b01
    · obtain ⟨y, z, rfl, rfl⟩ := inv
      walk_at "rd"
      refine q _ _ (fun hA => ?_) (by omega) (by decide +kernel) hp1 b01
      exact absurd ((nm _ hA).2.2 65 (by decide +kernel)) (by decide +kernel)
structure LX4 (K : PySem.W.Frag) (mg : Str → Option Value) (C Tr UC OR : Addr) : Prop extends CTt K mg C Tr where
  g_UC : mg "UnknownCell" = some (.ref UC)
  g_OR : mg "OutOfRange" = some (.ref OR)
  xfU : XfC K UC
  xfO : XfC K OR
  uu : PySem.W.exmOne K (.ref UC) (.ref UC) = some true
  ou : PySem.W.exmOne K (.ref OR) (.ref UC) = some false
  oo : PySem.W.exmOne K (.ref OR) (.ref OR) = some true
theorem vc_ne : ("cell" : Str) ≠ "value" := by decide +kernel
theorem lk_cv {v z : V} : List.lookup ("cell" : Str) [(("value" : Str), v), (("cell" : Str), z)] = some z := by rw [lookup_put, if_neg vc_ne, lookup_put, if_pos rfl]
/-- the tuple of what a list of assignments leads to -/
def DueAt (H : Hp) (r : Addr) : Res → Prop
  | .unk z => H r = some (.tup [V.str "unknown", V.str z])
  | .rng z v => H r = some (.tup [V.str "range", V.str z, V.int v])
  | .st ms => ∃ r2, H r = some (.tup [V.str "state", V.ref r2]) ∧ H r2 = some (.tup (ms.map V.int))
theorem DueAt.same {H H' : Hp} {r : Addr} {x : Res} (d : DueAt H r x) (s : Same H H') : DueAt H' r x := by
  cases x with
  | unk z => exact s _ _ d
  | rng z v => exact s _ _ d
  | st ms => obtain ⟨r2, a, b⟩ := d; exact ⟨r2, s _ _ a, s _ _ b⟩
abbrev s__law_peeked : Stmt := top 29
abbrev sc__law_peeked_N : List Str := ["_law_cells", "_law_changes_here", "e"]
theorem sc__law_peeked : FnScope sc__law_peeked_N ["_law_cells", "_law_changes_here"] (defScope s__law_peeked) := ⟨rfl, rfl, rfl, by decide +kernel, rfl, by decide +kernel, by decide +kernel⟩
-- 0 _law_cells, 1 _law_changes_here, 2 e
def sp_peeked : PySem.W.Frag → Addr → Sp := fun K C vs H Q _ => ∃ (a q dx t h : Addr) (s : Int) (xs : List Str) (ms : List Int) (cs : List Addr) (chs : List (Str × Int)), vs = [.ref a, .ref q] ∧ CA H C a dx t h xs s (ms.map V.int) ∧ ms.length = xs.length ∧ H q = some (.lst (cs.map V.ref)) ∧ Chs H cs chs ∧ smallC chs ∧
  ∀ r H', DueAt H' r (peekR xs s chs ms) → CA H' C a dx t h xs s (ms.map V.int) → But a H H' → Q (.ref r) H'
theorem d_peeked (T : LX4 K mg C Tr UC OR) (XX : XT K UC OR) (D : TD K mg "_law_peeked" s__law_peeked) (m_peek : Mn P w K mg base (L2.CX P w) 8 C "peek" (sp_peek K C UC OR)) : Dn P w K mg base CX0 9 "_law_peeked" (sp_peeked K C) := by
  have xf_UnknownCell := T.xfU
  have xf_OutOfRange := T.xfO
  have na_UnknownCell_cell := XX.u1
  have na_OutOfRange_cell := XX.o1
  have na_OutOfRange_value := XX.o2
  have nms_UnknownCell : ∀ {X : Cx}, X.mg = mg → Gl X "UnknownCell" → Names X "UnknownCell" (.ref UC) := fun e g => ⟨g, by decide, .inl (by rw [e]; exact T.g_UC)⟩
  have nms_OutOfRange : ∀ {X : Cx}, X.mg = mg → Gl X "OutOfRange" → Names X "OutOfRange" (.ref OR) := fun e g => ⟨g, by decide, .inl (by rw [e]; exact T.g_OR)⟩
  refine D.dn sc__law_peeked (fun _ _ _ _ _ _ us hl => match us, hl with | [_, _], _ => rfl) (fun vs H Q E h => ?_) (fun f cdv A outer s H vs Q E hr h => ?_)
  · obtain ⟨a, q, dx, t, h, s, xs, ms, cs, chs, rfl, _⟩ := h; rfl
  · obtain ⟨a, q0, dx, t, h, s, xs, ms, cs, chs, rfl, ca, lm, hq, hc, sc, q⟩ := h
    refine ⟨_, (pss_one (ps_try_asMany rfl rfl takes0 (fun W pn xe tk po => (pss_one (ps_ret (pe_tup (pa_cons pe_str (pa_cons (pe_mX m_peek T.cls hr (by decide) (fun σ => passAt tk σ) (pv 0) (pa_cons (pv 1) pa_nil)) pa_nil)))))) (.cons (i := 2) sc__law_peeked.nd rfl rfl (nms_UnknownCell rfl (by rfl)) (fun a oe cls d pn hz hv => (pss_one (ps_ret (pe_tup (pa_cons pe_str (pa_cons (pe_xf xf_UnknownCell na_UnknownCell_cell hz hv (pv 2)) pa_nil)))))) (.cons (i := 2) sc__law_peeked.nd rfl rfl (nms_OutOfRange rfl (by rfl)) (fun a oe cls d pn hz hv => (pss_one (ps_ret (pe_tup (pa_cons pe_str (pa_cons (pe_xf xf_OutOfRange na_OutOfRange_cell hz hv (pv 2)) (pa_cons (pe_xf xf_OutOfRange na_OutOfRange_value hz hv (pv 2)) pa_nil))))))) .nil)))), ?_⟩
    walk_at "rd"
    refine ⟨_, rfl, a, dx, _, rfl, ca.at_, rfl, _, rfl, a, q0, dx, t, h, s, xs, ms, cs, chs, rfl, ca, lm, hq, hc, sc, fun z hz d H' hd ca' b' => ?_, fun z v hz d H' hd ca' b' => ?_, fun ms' hz r H' hr' ca' b' => ⟨by rw [sizeLine_eq]; decide, fun r2 hr2 => ?_⟩⟩
    · refine ⟨true, T.uu, fun _ e he => ?_, fun x => nomatch x⟩
      walk_at "rd"
      refine ⟨_, rfl, rfl, rfl, d, _, .str z, rfl, hd, rfl, by rw [sizeLine_eq]; decide, fun r hr => q r _ ?_ (ca'.same (UL.Same.new hr)) (But.tr b' (UL.Same.but (UL.Same.new hr)))⟩
      rw [hz]
      exact upd_same
    · refine ⟨false, T.ou, ⟨fun x => Bool.noConfusion x, fun _ => ⟨true, T.oo, fun _ e he => ?_, fun x => nomatch x⟩⟩⟩
      walk_at "rd"
      refine ⟨_, rfl, rfl, rfl, d, _, .str z, rfl, hd, lk_cv, _, rfl, rfl, rfl, d, _, .int v, rfl, hd, rfl, by rw [sizeLine_eq]; decide, fun r hr => q r _ ?_ (ca'.same (UL.Same.new hr)) (But.tr b' (UL.Same.but (UL.Same.new hr)))⟩
      rw [hz]
      exact upd_same
    · refine q r2 _ ?_ (ca'.same (UL.Same.new hr2)) (But.tr b' (UL.Same.but (UL.Same.new hr2)))
      rw [hz]
      exact ⟨r, upd_same, UL.Same.new hr2 _ _ hr'⟩
theorem pr_app {α β : Type} {F : α → β → Prop} : ∀ {l l' : List α} {m m' : List β}, Paired F l m → Paired F l' m' → Paired F (l ++ l') (m ++ m')
  | _, _, _, _, .nil, h => h
  | _, _, _, _, .cons a r, h => .cons a (pr_app r h)
theorem pickC {r : Int} (h0 : 0 ≤ r) (h5 : r < 5) : ∃ e : Int, atI [V.int 2, .int 3, .int 1, .int 4, .int 0] r = some (.int e) ∧ 0 ≤ e ∧ e ≤ 4 := by
  have : r = 0 ∨ r = 1 ∨ r = 2 ∨ r = 3 ∨ r = 4 := by omega
  rcases this with rfl | rfl | rfl | rfl | rfl
  · exact ⟨2, rfl, by decide, by decide⟩
  · exact ⟨3, rfl, by decide, by decide⟩
  · exact ⟨1, rfl, by decide, by decide⟩
  · exact ⟨4, rfl, by decide, by decide⟩
  · exact ⟨0, rfl, by decide, by decide⟩
abbrev s__law_changes : Stmt := top 31
abbrev sc__law_changes_N : List Str := ["_law_pool_here", "_law_names_here", "_law_size", "_law_changes_here", "_law_k", "_law_name"]
theorem sc__law_changes : FnScope sc__law_changes_N ["_law_pool_here", "_law_names_here", "_law_size"] (defScope s__law_changes) := ⟨rfl, rfl, rfl, by decide +kernel, rfl, by decide +kernel, by decide +kernel⟩
-- 0 _law_pool_here, 1 _law_names_here, 2 _law_size, 3 _law_changes_here, 4 _law_k, 5 _law_name
def goodC (chs : List (Str × Int)) : Prop := ∀ p ∈ chs, p.1.length ≤ 100 ∧ PyData.strOk p.1 = true ∧ -(2 ^ 30) < p.2 ∧ p.2 < 2 ^ 30
def sp_changes : Sp := fun vs H Q _ => ∃ (p qn : Addr) (n : Int) (xs : List Str), vs = [.ref p, .ref qn, .int n] ∧ Pl H p ∧ H qn = some (.lst (xs.map V.str)) ∧ qn ≠ p ∧ 1 ≤ n ∧ n ≤ 3 ∧ 1 ≤ xs.length ∧ xs.length ≤ 3 ∧ (∀ z ∈ xs, isNm z) ∧
  ∀ q H' cs chs, H q = none → H' q = some (.lst (cs.map V.ref)) → Chs H' cs chs → goodC chs → cs.length ≤ 4 → Pl H' p → But p H H' → Q (.ref q) H'
theorem d_changes (T : Nm mg) (D : TD K mg "_law_changes" s__law_changes) (d__law_draw : Dn P w K mg base CX0 1 "_law_draw" sp_draw) (d__law_strange : Dn P w K mg base CX0 2 "_law_strange" sp_strange) (d__law_value : Dn P w K mg base CX0 2 "_law_value" sp_value) : Dn P w K mg base CX0 3 "_law_changes" sp_changes := by
  refine D.dn sc__law_changes (fun _ _ _ _ _ _ us hl => match us, hl with | [_, _, _], _ => rfl) (fun vs H Q E h => ?_) (fun f cdv A outer s H vs Q E hr h => ?_)
  · obtain ⟨p, qn, n, xs, rfl, _⟩ := h; rfl
  · obtain ⟨p, qn, n, xs, rfl, hp, hqn, nqp, n1, n3, l1, l3, nm, q⟩ := h
    refine ⟨_, (pss_cons (ps_set (i := 3) sc__law_changes.nd rfl (Or.inl rfl) (pe_lst pa_nil))
      (pss_cons (ps_for PassesOwn.never rfl (pi_range1 (by rfl) T.n_range (pa_cons (pe_ix ix_seq (pe_lst (pa_cons pe_int (pa_cons pe_int (pa_cons pe_int (pa_cons pe_int (pa_cons pe_int pa_nil)))))) (pe_d d__law_draw hr (by decide) pass0 (by rfl) (pa_cons (pv 0) (pa_cons pe_int pa_nil))) (fun _ _ => rfl)) pa_nil)) (pg_name (i := 4) sc__law_changes.nd rfl (Or.inl rfl)) (pss_cons (ps_set (i := 5) sc__law_changes.nd rfl (Or.inl rfl) (pe_ix ix_seq (pv 1) (pe_d d__law_draw hr (by decide) pass0 (by rfl) (pa_cons (pv 0) (pa_cons (pe_callB call_lenA (by rfl) T.n_len (by decide +kernel) (pa_cons (pv 1) pa_nil)) pa_nil))) (fun _ _ => rfl)))
      (pss_cons (ps_if (pt_cmpR (op_eqA (hr.units)) (pe_d d__law_draw hr (by decide) pass0 (by rfl) (pa_cons (pv 0) (pa_cons pe_int pa_nil))) pe_int (nomark _)) (pss_one (ps_set (i := 5) sc__law_changes.nd rfl (Or.inl rfl) (pe_d d__law_strange hr (by decide) pass0 (by rfl) (pa_cons (pv 0) (pa_cons (pv 1) pa_nil))))) pss_nil)
      (pss_one (ps_expr (pe_bm PySem.F.plainAttrs_list PySem.F.slot_list_append PySem.F.type_list_append mt_append (pv 3) (pa_cons (pe_tup (pa_cons (pv 5) (pa_cons (pe_d d__law_value hr (by decide) pass0 (by rfl) (pa_cons (pv 0) (pa_cons (pv 2) pa_nil))) pa_nil))) pa_nil)))))))
      (pss_one (ps_ret (pv 3))))), ?_⟩
    walk_at "rd"
    refine fun pa hpa => ⟨by rw [sizeLine_eq]; decide, fun la hla => ?_⟩
    have hpA := hp.put (o := .lst []) (hp.ne hpa)
    have npa : pa ≠ p := Ne.symm (hp.ne hpa)
    have nla : la ≠ p := Ne.symm (hpA.ne hla)
    have npl : pa ≠ la := ne_of_none upd_same hla
    refine drawI (by decide) (hpA.put (hpA.ne hla)) fun r1 H2 r10 r15 hp2 b2 => ?_
    obtain ⟨c0, hc0, c00, c04⟩ := pickC r10 r15
    have hla0 : H la = none := by rw [upd_ne (Ne.symm npl)] at hla; exact hla
    have b02 : But p H H2 := But.tr (UL.Same.but (UL.Same.new hpa)) (But.tr (UL.Same.but (UL.Same.new hla)) b2)
    have h2pa : H2 pa = some (.lst []) := b2 _ _ (by rw [upd_ne npl, upd_same]) npa
    refine ixL (SqL.of (b2 _ _ upd_same nla)) hc0 ⟨_, rfl, by omega, by omega, FJ.rangeI (fun k σ' H' => ∃ y4 y5 cs chs, σ' = [some (.ref p), some (.ref qn), some (.int n), some (.ref pa), y4, y5] ∧ H' pa = some (.lst (cs.map V.ref)) ∧ Chs H' cs chs ∧ goodC chs ∧ cs.length = k ∧ Pl H' p ∧ But p H H') (by omega) ⟨_, _, [], [], rfl, h2pa, .nil, fun z hz => absurd hz (by simp), rfl, hp2, b02⟩ (fun k σ' H' hk inv => ?_) fun σ' H' inv => ?_⟩
    · obtain ⟨y4, y5, cs, chs, rfl, hpa', hcs, gc, lc, hp', b'⟩ := inv
      walk_at "rd"
      have hq1 := b' _ _ hqn nqp
      refine lenL (SqL.of hq1) (drawI (by rw [List.length_map]; omega) hp' fun r9 H9 r90 r91 hp9 b9 => ?_)
      rw [List.length_map] at r91
      have hr9 : r9.toNat < xs.length := by omega
      have hx9 : xs[r9.toNat]? = some xs[r9.toNat] := by simp [hr9]
      have hat := atN (xs := xs.map V.str) (n := r9.toNat) (v := .str xs[r9.toNat]) (by rw [List.getElem?_map, hx9]; rfl)
      rw [show ((r9.toNat : Nat) : Int) = r9 by omega] at hat
      have nm9 := nm _ (List.getElem_mem hr9)
      generalize xs[r9.toNat] = z0 at hat nm9
      refine ixL (SqL.of (b9 _ _ hq1 nqp)) hat (drawI (by decide) hp9 fun r11 H11 r110 r111 hp11 b11 => eqII.mpr ⟨_, rfl, ?_⟩)
      have b911 := But.tr b9 b11
      by_cases h4 : r11 = 4
      · rw [if_pos (by simp [h4])]
        refine ⟨p, qn, xs, rfl, hp11, b911 _ _ hq1 nqp, nqp, by omega, by omega, nm, fun z H12 hzn hzl hzo hp12 b12 => ?_⟩
        have bt := But.tr b911 b12
        refine ⟨.inl ⟨rfl, _, SqL.of (bt _ _ hpa' npa)⟩, p, n, rfl, hp12, n1, n3, fun v H13 v0 v1 hp13 b13 => ⟨by rw [sizeLine_eq]; decide, fun pt hpt => ?_⟩⟩
        have bt2 := But.tr bt b13
        have hpt' := bt2 _ _ hpa' npa
        have npt : pa ≠ pt := ne_of_none hpt' hpt
        refine ⟨pa, _, .ref pt, rfl, rfl, UL.Same.new hpt _ _ hpt', by rw [List.length_map, sizeLine_eq]; omega, ?_⟩
        have hcs2 : Chs H13 cs chs := L2.Paired.mapP hcs fun c pr z => bt2 _ _ z (fun e => by obtain ⟨w, hw⟩ := hp'; rw [e, hw] at z; cases z)
        refine ⟨⟨_, rfl⟩, cs ++ [pt], by rw [upd_same, List.map_append]; rfl, chs ++ [(z, v)], ?_, ?_, by simp [lc], (hp13.put (hp13.ne hpt)).put (Ne.symm npa), fun b ob e nb => ?_⟩
        · refine pr_app (L2.Paired.mapP hcs2 fun c pr y => ?_) (.cons ?_ .nil)
          · rw [upd_ne (ne_of y hpt' (fun z => nomatch z)), upd_ne (ne_of_none y hpt)]; exact y
          · rw [upd_ne (Ne.symm npt), upd_same]
        · intro pr hpr
          rcases List.mem_append.mp hpr with y | y
          · exact gc pr y
          · rw [List.mem_singleton.mp y]; exact ⟨hzl, hzo, v0, v1⟩
        · have y := bt2 _ _ (b' _ _ e nb) nb
          rw [upd_ne (ne_of_none e hpa), upd_ne (ne_of_none y hpt)]
          exact y
      · rw [if_neg (by simp [h4])]
        obtain ⟨z, hzz⟩ : ∃ z, z = z0 := ⟨_, rfl⟩
        rw [← hzz] at nm9 ⊢
        have hzl : z.length ≤ 100 := by have := nm9.2.1; omega
        have hzo : PyData.strOk z = true := nm_ok nm9
        have hp12 := hp11
        have bt := b911
        refine ⟨.inl ⟨rfl, _, SqL.of (bt _ _ hpa' npa)⟩, p, n, rfl, hp12, n1, n3, fun v H13 v0 v1 hp13 b13 => ⟨by rw [sizeLine_eq]; decide, fun pt hpt => ?_⟩⟩
        have bt2 := But.tr bt b13
        have hpt' := bt2 _ _ hpa' npa
        have npt : pa ≠ pt := ne_of_none hpt' hpt
        refine ⟨pa, _, .ref pt, rfl, rfl, UL.Same.new hpt _ _ hpt', by rw [List.length_map, sizeLine_eq]; omega, ?_⟩
        have hcs2 : Chs H13 cs chs := L2.Paired.mapP hcs fun c pr z => bt2 _ _ z (fun e => by obtain ⟨w, hw⟩ := hp'; rw [e, hw] at z; cases z)
        refine ⟨⟨_, rfl⟩, cs ++ [pt], by rw [upd_same, List.map_append]; rfl, chs ++ [(z, v)], ?_, ?_, by simp [lc], (hp13.put (hp13.ne hpt)).put (Ne.symm npa), fun b ob e nb => ?_⟩
        · refine pr_app (L2.Paired.mapP hcs2 fun c pr y => ?_) (.cons ?_ .nil)
          · rw [upd_ne (ne_of y hpt' (fun z => nomatch z)), upd_ne (ne_of_none y hpt)]; exact y
          · rw [upd_ne (Ne.symm npt), upd_same]
        · intro pr hpr
          rcases List.mem_append.mp hpr with y | y
          · exact gc pr y
          · rw [List.mem_singleton.mp y]; exact ⟨hzl, hzo, v0, v1⟩
        · have y := bt2 _ _ (b' _ _ e nb) nb
          rw [upd_ne (ne_of_none e hpa), upd_ne (ne_of_none y hpt)]
          exact y
    · obtain ⟨y4, y5, cs, chs, rfl, hpa', hcs, gc, lc, hp', b'⟩ := inv
      walk_at "rd"
      exact q pa _ cs chs hpa hpa' hcs gc (by omega) hp' b'
abbrev s__law_due : Stmt := top 30
abbrev sc__law_due_N : List Str := ["_law_names_here", "_law_size", "_law_model", "_law_changes_here", "_law_values", "_law_change"]
theorem sc__law_due : FnScope sc__law_due_N ["_law_names_here", "_law_size", "_law_model", "_law_changes_here"] (defScope s__law_due) := ⟨rfl, rfl, rfl, by decide +kernel, rfl, by decide +kernel, by decide +kernel⟩
-- 0 _law_names_here, 1 _law_size, 2 _law_model, 3 _law_changes_here, 4 _law_values, 5 _law_change
def sp_due4 : Sp := fun vs H Q _ => ∃ (qn qm q : Addr) (s : Int) (xs : List Str) (ms : List Int) (cs : List Addr) (chs : List (Str × Int)), vs = [.ref qn, .int s, .ref qm, .ref q] ∧ H qn = some (.lst (xs.map V.str)) ∧ H qm = some (.lst (ms.map V.int)) ∧ ms.length = xs.length ∧ xs.length ≤ 1000 ∧ H q = some (.lst (cs.map V.ref)) ∧ Chs H cs chs ∧
  ∀ r H', DueAt H' r (peekR xs s chs ms) → Same H H' → Q (.ref r) H'
theorem d_due4 (T : Nm mg) (D : TD K mg "_law_due" s__law_due) : Dn P w K mg base CX0 1 "_law_due" sp_due4 := by
  refine D.dn sc__law_due (fun _ _ _ _ _ _ us hl => match us, hl with | [_, _, _, _], _ => rfl) (fun vs H Q E h => ?_) (fun f cdv A outer s H vs Q E hr h => ?_)
  · obtain ⟨qn, qm, q, s, xs, ms, cs, chs, rfl, _⟩ := h; rfl
  · obtain ⟨qn, qm, q0, s, xs, ms, cs, chs, rfl, hqn, hqm, lm, lx, hq, hc, q⟩ := h
    refine ⟨_, (pss_cons (ps_set (i := 4) sc__law_due.nd rfl (Or.inl rfl) (pe_callTy call_listA (by rfl) T.n_list (by decide +kernel) (pa_cons (pv 2) pa_nil)))
      (pss_cons (ps_for PassesOwn.never rfl (pi_list (pv 3)) (pg_name (i := 5) sc__law_due.nd rfl (Or.inl rfl)) (pss_cons (ps_if (pt_cmpR op_ninA (pe_ix ix_seq (pv 5) pe_int (fun _ _ => rfl)) (pv 0) (by with_unfolding_all rfl)) (pss_one (ps_ret (pe_tup (pa_cons pe_str (pa_cons (pe_ix ix_seq (pv 5) pe_int (fun _ _ => rfl)) pa_nil))))) pss_nil)
      (pss_cons (ps_if (pw_or (pt_cmpR op_ltA (pe_ix ix_seq (pv 5) pe_int (fun _ _ => rfl)) pe_int (nomark _)) (pw_or1 (pt_cmpR op_geA (pe_ix ix_seq (pv 5) pe_int (fun _ _ => rfl)) (pv 1) (nomark _)))).pt (pss_one (ps_ret (pe_tup (pa_cons pe_str (pa_cons (pe_ix ix_seq (pv 5) pe_int (fun _ _ => rfl)) (pa_cons (pe_ix ix_seq (pv 5) pe_int (fun _ _ => rfl)) pa_nil)))))) pss_nil)
      (pss_one (ps_asg (pe_ix ix_seq (pv 5) pe_int (fun _ _ => rfl)) (pg_sub (pv 4) (pe_bm PySem.F.plainAttrs_list PySem.F.slot_list_index PySem.F.type_list_index mt_index (pv 0) (pa_cons (pe_ix ix_seq (pv 5) pe_int (fun _ _ => rfl)) pa_nil)) set_list))))))
      (pss_one (ps_ret (pe_tup (pa_cons pe_str (pa_cons (pe_callTy call_tupA (by rfl) T.n_tuple (by decide +kernel) (pa_cons (pv 4) pa_nil)) pa_nil))))))), ?_⟩
    walk_at "rd"
    refine ⟨qm, _, rfl, .inl (SqL.of hqm), fun D hD => ⟨⟨_, SqL.of (UL.Same.new hD _ _ hq)⟩, FJ.list (xs := cs.map V.ref) (fun i σ' H' => ∃ y mi, σ' = [some (.ref qn), some (.int s), some (.ref qm), some (.ref q0), some (.ref D), y] ∧ Same H H' ∧ H' D = some (.lst (mi.map V.int)) ∧ mi.length = xs.length ∧ peekR xs s chs ms = peekR xs s (chs.drop i) mi) ⟨_, ms, rfl, UL.Same.new hD, upd_same, lm, rfl⟩ (fun i σ' H' _ inv => ?_) (fun i x σ' H' hx inv => ?_) fun σ' H' inv => ?_⟩⟩
    · obtain ⟨y, mi, rfl, sm, hd, li, ri⟩ := inv
      exact SqL.of (sm _ _ hq)
    · obtain ⟨y, mi, rfl, sm, hd, li, ri⟩ := inv
      obtain ⟨c, rfl, hci⟩ := map_at hx
      obtain ⟨⟨z, v⟩, hzv, hcz⟩ := pr_at hc hci
      have hc' : H' c = some (.tup [V.str z, V.int v]) := sm _ _ hcz
      have dr : chs.drop i = (z, v) :: chs.drop (i + 1) := by
        obtain ⟨hlt, e⟩ := List.getElem?_eq_some_iff.mp hzv
        rw [List.drop_eq_getElem_cons hlt, e]
      walk_at "rd"
      refine ixT (SqT.of hc') (i := 0) rfl (.inr ⟨qn, _, rfl, .inl (SqL.of (sm _ _ hqn)), rfl, flat_strs xs, _, rfl, ?_⟩)
      by_cases hz : z ∈ xs
      · rw [if_pos rfl, inV_yes hz, if_neg (by decide)]
        have rng : bad s v → ∀ r : Addr, H' r = none → Q (.ref r) (upd H' r (.tup [V.str "range", V.str z, V.int v])) := fun hb r hr => by
          refine q r _ ?_ (Same.tr sm (UL.Same.new hr))
          rw [ri, dr, peekR, if_pos hz, if_pos hb]
          exact upd_same
        refine ixT (SqT.of hc') (i := 1) rfl ⟨v, rfl, ?_⟩
        by_cases h0 : v < 0
        · rw [if_pos h0]
          exact ixT (SqT.of hc') (i := 0) rfl (ixT (SqT.of hc') (i := 1) rfl ⟨by rw [sizeLine_eq]; decide, rng (.inl h0)⟩)
        · rw [if_neg h0]
          refine ixT (SqT.of hc') (i := 1) rfl ⟨v, rfl, ?_⟩
          by_cases h1 : s ≤ v
          · rw [if_pos h1]
            exact ixT (SqT.of hc') (i := 0) rfl (ixT (SqT.of hc') (i := 1) rfl ⟨by rw [sizeLine_eq]; decide, rng (.inr h1)⟩)
          · rw [if_neg h1]
            have hnb : ¬ bad s v := fun x => x.elim h0 h1
            obtain ⟨j, j1, j2, j3⟩ := first_ix hz
            have hjm : (xs.map V.str)[j]? = some (.str z) := by rw [List.getElem?_map, j2]; rfl
            have hje : ∀ m z', m < j → (xs.map V.str)[m]? = some z' → eqV z' (.str z) = false := fun m z' hm hz' => by
              obtain ⟨y', rfl, hy'⟩ := map_at hz'
              simp only [eqV]
              exact beq_eq_false_iff_ne.mpr fun e => j3 m hm (e ▸ hy')
            have ejx : ixN (mi.map V.int).length (j : Int) = some j := by unfold ixN; rw [if_pos (by omega), if_pos (by rw [List.length_map]; omega)]; rfl
            refine ixT (SqT.of hc') (i := 1) rfl ⟨_, rfl, _, rfl, .inl ⟨rfl, _, SqL.of (sm _ _ hqn)⟩, _, rfl, ixT (SqT.of hc') (i := 0) rfl ⟨qn, _, .str z, j, .str z, rfl, rfl, SqL.of (sm _ _ hqn), rfl, flat_strs xs, hjm, by simp [eqV], hje, D, _, (j : Int), j, rfl, rfl, hd, ejx, ?_⟩⟩
            rw [show (mi.map V.int).set j (V.int v) = (mi.set j v).map V.int by rw [List.map_set]]
            refine ⟨⟨_, rfl⟩, UL.Same.put sm hD, mi.set j v, upd_same, by rw [List.length_set]; exact li, ?_⟩
            rw [ri, dr, peekR, if_pos hz, if_neg hnb, fix_at j2 j3]
      · rw [if_pos rfl, inV_no hz, if_pos (by decide)]
        refine ixT (SqT.of hc') (i := 0) rfl ⟨by rw [sizeLine_eq]; decide, fun r hr => q r _ ?_ (Same.tr sm (UL.Same.new hr))⟩
        rw [ri, dr, peekR, if_neg hz]
        exact upd_same
    · obtain ⟨y, mi, rfl, sm, hd, li, ri⟩ := inv
      walk_at "rd"
      have lc : cs.length = chs.length := hc.length
      rw [List.length_map, lc, List.drop_length] at ri
      refine ⟨D, _, rfl, .inl ⟨SqL.of hd, fun t1 ht1 => ⟨by rw [sizeLine_eq]; decide, fun r hr => q r _ ?_ (Same.tr sm (Same.tr (UL.Same.new ht1) (UL.Same.new hr)))⟩⟩⟩
      rw [ri]
      exact ⟨t1, upd_same, UL.Same.new hr _ _ upd_same⟩
end
end
end U

set_option Elab.async false
set_option linter.all false
set_option maxRecDepth 100000
set_option maxHeartbeats 4000000
namespace U
open PySem PySem.Spec PyProof.Rows L2 UL
local macro_rules | `(tactic| walk_at "rd") => `(tactic| simp only [tSeq, tAsg, tOp, tCB, tCons, tNil, tVar, tC, tB, tTest, tNot, tIfS, tNext, tYes, tUn, rU, tM0, tGFrom, tGThen, tG0, tYfLst, gcxK, tSubO, tProp, tListG, tMethG, tBMF, tFld, sFld, tMeth, tMake, tSl, tNoPart, tPart, tM1, gTup, gCons, gNil, tDrop, tFor_eq, tLc_eq, tLc2_eq, iRng1_eq, StX.tStar, iList, iTup, iStr, iAny_var, iZipB, tLenSetS, wipe, tVar, tAndV, tOrV, tNotV, tOr, tAnd, tLst, tTup, tBM, tBM0, tChain, tCall, cxK, noxK, addII, addSS, mulII, eqII, neII, neSS, cIntI, cAbsI, rI, rI0, rLt, rLe, rGt_, rGe_, rSub_, rMod, rPow, rDivW, rNeg, gName, tRet, L2.start, List.length_cons, List.length_nil, List.map_cons, List.map_nil, List.replicate, List.cons_append, List.nil_append, List.getElem?_cons_zero, List.getElem?_cons_succ, List.set_cons_zero, List.set_cons_succ, Option.some.injEq, exists_eq_left', exists_eq_left, V.int.injEq, V.bl.injEq, V.str.injEq, V.ref.injEq, V.ty.injEq, List.cons.injEq, and_true, true_and, reduceCtorEq, false_and, exists_false, or_false, false_or, exists_and_left, exists_and_right, List.append_nil, forall_eq, decide_eq_true_eq, Bool.not_eq_true, Nat.reduceAdd, Nat.reduceSub, List.replicate_zero, List.replicate_succ, Nat.zero_le, ite_true, ite_false, if_true, if_false])
section
variable {P : Program} {w : World} {K : PySem.W.Frag} {mg : Str → Option Value} {base : Heap}

open UV UW
set_option pp.deepTerms true
section
variable {C UC OR Tr : Addr}
theorem pick {r : Int} (h0 : 0 ≤ r) (h3 : r < 3) : ∃ c : Nat, atI [V.int 2, .int 3, .int 1] r = some (.int c) ∧ 1 ≤ c ∧ c ≤ 3 := by
  have : r = 0 ∨ r = 1 ∨ r = 2 := by omega
  rcases this with rfl | rfl | rfl
  · exact ⟨2, rfl, by decide, by decide⟩
  · exact ⟨3, rfl, by decide, by decide⟩
  · exact ⟨1, rfl, by decide, by decide⟩
theorem met_nodup : ∀ {xs : List Str}, 1 ≤ xs.length → xs.length ≤ 3 → (met xs).length = xs.length → xs.Nodup
  | [a], _, _, _ => by simp
  | [a, b], _, _, h => by
    by_cases e : b = a
    · subst e; simp [met] at h
    · simp [Ne.symm e]
  | [a, b, c], _, _, h => by
    by_cases e : b = a
    · subst e
      by_cases e2 : c = b <;> simp [met, e2] at h
    · by_cases e2 : c = a
      · subst e2; simp [met, e] at h
      · by_cases e3 : c = b
        · subst e3; simp [met, e] at h
        · simp [Ne.symm e, Ne.symm e2, Ne.symm e3]
/-- what stands: the pool, the names, the two objects, the models of the first i -/
structure W5 (i : Nat) (H : Hp) (C p qn qb qM : Addr) (xo dx tt qm : Nat → Addr) (xs : List Str) (n : Nat) (ms : Nat → List Int) : Prop where
  pl : Pl H p
  qa : H qn = some (.lst (xs.map V.str))
  np : qn ≠ p
  bo : H qb = some (.lst ((List.range 2).map fun j => V.ref (xo j)))
  mo : H qM = some (.lst ((List.range i).map fun j => V.ref (qm j)))
  md : ∀ j, j < i → H (qm j) = some (.lst ((ms j).map V.int)) ∧ ∀ v ∈ ms j, 0 ≤ v ∧ v < n
  lm : ∀ j, j < 2 → (ms j).length = xs.length
  ca : ∀ j, j < 2 → ∃ h, CA H C (xo j) (dx j) (tt j) h xs n ((ms j).map V.int)
  nb : qb ≠ p
  nM : qM ≠ p ∧ qn ≠ qM ∧ qb ≠ qM
  nm : ∀ j, j < i → qm j ≠ p ∧ qm j ≠ qn ∧ qm j ≠ qb ∧ qm j ≠ qM
  nx : xo 0 ≠ xo 1
  nq : ∀ j k, j < k → k < i → qm j ≠ qm k
theorem two {f : Nat → Addr} {i j : Nat} (hf : f 0 ≠ f 1) (hi : i < 2) (hj : j < 2) (n : i ≠ j) : f i ≠ f j := by
  have : (i = 0 ∧ j = 1) ∨ (i = 1 ∧ j = 0) := by omega
  rcases this with ⟨rfl, rfl⟩ | ⟨rfl, rfl⟩
  · exact hf
  · exact Ne.symm hf
theorem rng_at {f : Nat → V} {n i : Nat} {x : V} (h : ((List.range n).map f)[i]? = some x) : i < n ∧ x = f i := by
  rw [List.getElem?_map] at h
  by_cases hi : i < n
  · rw [List.getElem?_range hi] at h
    cases h; exact ⟨hi, rfl⟩
  · rw [List.getElem?_eq_none (by simp; omega)] at h; cases h
theorem at_rng {f : Nat → V} {n i : Nat} (h : i < n) : atI ((List.range n).map f) (i : Int) = some (f i) := atN (by rw [List.getElem?_map, List.getElem?_range h]; rfl)
section
variable {i : Nat} {p qn qb qM : Addr} {xo dx tt qm : Nat → Addr} {xs : List Str} {n : Nat} {ms : Nat → List Int} {H H' : Hp}
theorem W5.same (a : W5 i H C p qn qb qM xo dx tt qm xs n ms) (s : Same H H') : W5 i H' C p qn qb qM xo dx tt qm xs n ms :=
  ⟨a.pl.same s, s _ _ a.qa, a.np, s _ _ a.bo, s _ _ a.mo, fun j hj => let ⟨x, y⟩ := a.md j hj; ⟨s _ _ x, y⟩, a.lm, fun j hj => let ⟨h, c⟩ := a.ca j hj; ⟨h, c.same s⟩, a.nb, a.nM, a.nm, a.nx, a.nq⟩
theorem W5.but (a : W5 i H C p qn qb qM xo dx tt qm xs n ms) (s : But p H H') (hp : Pl H' p) : W5 i H' C p qn qb qM xo dx tt qm xs n ms :=
  ⟨hp, s _ _ a.qa a.np, a.np, s _ _ a.bo a.nb, s _ _ a.mo a.nM.1, fun j hj => let ⟨x, y⟩ := a.md j hj; ⟨s _ _ x (a.nm j hj).1, y⟩, a.lm, fun j hj => let ⟨h, c⟩ := a.ca j hj; ⟨h, c.but a.pl s⟩, a.nb, a.nM, a.nm, a.nx, a.nq⟩
theorem W5.new (a : W5 i H C p qn qb qM xo dx tt qm xs n ms) {q : Addr} {o : HO} (hq : H q = none) : W5 i (upd H q o) C p qn qb qM xo dx tt qm xs n ms := a.same (UL.Same.new hq)
/-- the k-th object has done something; it holds ys now -/
theorem W5.obj (a : W5 i H C p qn qb qM xo dx tt qm xs n ms) {k : Nat} (hk : k < 2) {h : Addr} {ms' : Nat → List Int} (c : CA H' C (xo k) (dx k) (tt k) h xs n ((ms' k).map V.int)) (lk : (ms' k).length = xs.length) (eo : ∀ j, j ≠ k → ms' j = ms j)
    (s : But (xo k) H H') (md : ∀ j, j < i → H' (qm j) = some (.lst ((ms' j).map V.int)) ∧ ∀ v ∈ ms' j, 0 ≤ v ∧ v < n) : W5 i H' C p qn qb qM xo dx tt qm xs n ms' := by
  obtain ⟨h0, c0⟩ := a.ca k hk
  have nl : ∀ {b : Addr} {zs : List V}, H b = some (.lst zs) → H' b = some (.lst zs) := fun {b zs} e => s _ _ e (ne_of e c0.at_ (fun z => nomatch z))
  refine ⟨?_, nl a.qa, a.np, nl a.bo, nl a.mo, md, fun j hj => ?_, fun j hj => ?_, a.nb, a.nM, a.nm, a.nx, a.nq⟩
  · obtain ⟨zs, hz⟩ := a.pl
    exact ⟨zs, nl hz⟩
  · by_cases e : j = k
    · rw [e]; exact lk
    · rw [eo j e]; exact a.lm j hj
  · by_cases e : j = k
    · subst e; exact ⟨h, c⟩
    · obtain ⟨hj', cj⟩ := a.ca j hj
      have nn := two a.nx hj hk e
      obtain ⟨o1, d1, t1⟩ := cj.nm
      rw [eo j e]
      exact ⟨hj', ⟨s _ _ cj.at_ nn, ⟨o1, d1, s _ _ t1 (ne_of t1 c0.at_ (fun z => nomatch z))⟩, s _ _ cj.hd (ne_of cj.hd c0.at_ (fun z => nomatch z))⟩⟩
/-- .. and holds what it held -/
theorem W5.objS (a : W5 i H C p qn qb qM xo dx tt qm xs n ms) {k : Nat} (hk : k < 2) {h : Addr} (c : CA H' C (xo k) (dx k) (tt k) h xs n ((ms k).map V.int)) (s : But (xo k) H H') : W5 i H' C p qn qb qM xo dx tt qm xs n ms := by
  obtain ⟨h0, c0⟩ := a.ca k hk
  exact a.obj hk c (a.lm k hk) (fun _ _ => rfl) s fun j hj => let ⟨x, y⟩ := a.md j hj; ⟨s _ _ x (ne_of x c0.at_ (fun z => nomatch z)), y⟩
end
section
variable {i : Nat} {p qn qb qM : Addr} {xo dx tt qm : Nat → Addr} {xs : List Str} {n : Nat} {ms : Nat → List Int} {H H' : Hp}
theorem CA.putL {H : Hp} {C a dx t h q : Addr} {xs : List Str} {s : Int} {hs zs : List V} {o : HO} (c : CA H C a dx t h xs s hs) (e : H q = some (.lst zs)) : CA (upd H q o) C a dx t h xs s hs := by
  obtain ⟨o1, d1, t1⟩ := c.nm
  exact ⟨by rw [upd_ne (ne_of c.at_ e (fun z => nomatch z))]; exact c.at_, ⟨o1, d1, by rw [upd_ne (ne_of t1 e (fun z => nomatch z))]; exact t1⟩, by rw [upd_ne (ne_of c.hd e (fun z => nomatch z))]; exact c.hd⟩
theorem W5.put {q : Addr} {zs : List V} {o : HO} (a : W5 i H C p qn qb qM xo dx tt qm xs n ms) (e : H q = some (.lst zs)) (n1 : qn ≠ q) (n2 : qb ≠ q) (n3 : qM ≠ q) (n4 : p ≠ q) (n5 : ∀ j, j < i → qm j ≠ q) : W5 i (upd H q o) C p qn qb qM xo dx tt qm xs n ms :=
  ⟨let ⟨z, hz⟩ := a.pl; ⟨z, by rw [upd_ne n4]; exact hz⟩, by rw [upd_ne n1]; exact a.qa, a.np, by rw [upd_ne n2]; exact a.bo, by rw [upd_ne n3]; exact a.mo, fun j hj => ⟨by rw [upd_ne (n5 j hj)]; exact (a.md j hj).1, (a.md j hj).2⟩, a.lm, fun j hj => let ⟨h, c⟩ := a.ca j hj; ⟨h, c.putL e⟩, a.nb, a.nM, a.nm, a.nx, a.nq⟩
theorem W5.push {D : Addr} (a : W5 i H C p qn qb qM xo dx tt qm xs n ms) (hd : H D = some (.lst ((ms i).map V.int))) (rg : ∀ v ∈ ms i, 0 ≤ v ∧ v < n) (n1 : D ≠ p ∧ D ≠ qn ∧ D ≠ qb ∧ D ≠ qM) (n5 : ∀ j, j < i → qm j ≠ D) :
    W5 (i + 1) (upd H qM (.lst (((List.range i).map fun j => V.ref (qm j)) ++ [V.ref D]))) C p qn qb qM xo dx tt (fun j => if j = i then D else qm j) xs n ms := by
  have lt : ∀ {j}, j < i + 1 → j ≠ i → j < i := fun {j} h1 h2 => by omega
  refine ⟨?_, by rw [upd_ne a.nM.2.1]; exact a.qa, a.np, by rw [upd_ne a.nM.2.2]; exact a.bo, ?_, fun j hj => ?_, a.lm, fun j hj => let ⟨h, c⟩ := a.ca j hj; ⟨h, c.putL a.mo⟩, a.nb, a.nM, fun j hj => ?_, a.nx, fun j k hjk hk => ?_⟩
  · obtain ⟨z, hz⟩ := a.pl
    exact ⟨z, by rw [upd_ne (Ne.symm a.nM.1)]; exact hz⟩
  · rw [upd_same, List.range_succ, List.map_append]
    congr 3
    · refine List.map_congr_left fun j hj => ?_
      rw [if_neg (by have := List.mem_range.mp hj; omega)]
    · simp
  · by_cases e : j = i
    · subst e
      rw [if_pos rfl, upd_ne n1.2.2.2]; exact ⟨hd, rg⟩
    · rw [if_neg e, upd_ne (a.nm j (lt hj e)).2.2.2]; exact a.md j (lt hj e)
  · by_cases e : j = i
    · rw [if_pos e]; exact n1
    · rw [if_neg e]; exact a.nm j (lt hj e)
  · show (if j = i then D else qm j) ≠ (if k = i then D else qm k)
    rw [if_neg (by omega)]
    by_cases e : k = i
    · rw [if_pos e]; exact n5 j (by omega)
    · rw [if_neg e]; exact a.nq j k hjk (lt hk e)
end
/-! data -/
def pD (pr : Str × Int) : PyData := .tuple ([V.str pr.1, V.int pr.2].map dV)
theorem pD_fl {pr : Str × Int} (h : PyData.strOk pr.1 = true) : [V.str pr.1, V.int pr.2].all fl2 = true := by simp [fl2, h]
theorem pD_all {H : Hp} {cs : List Addr} {chs : List (Str × Int)} (h : Chs H cs chs) (g : ∀ pr ∈ chs, PyData.strOk pr.1 = true) : DpAll K H (cs.map V.ref) (chs.map pD) := by
  induction h with
  | nil => exact .nil
  | cons r _ ih => exact .cons (.tup (SqT.of r) (dV_all (pD_fl (g _ List.mem_cons_self)))) (ih fun pr hp => g pr (List.mem_cons_of_mem _ hp))
theorem pD_shape : ∀ chs : List (Str × Int), (∀ pr ∈ chs, PyData.strOk pr.1 = true) → PyData.canLayAll0 (chs.map pD) = true ∧ PyData.depthAll (chs.map pD) ≤ 2
  | [], _ => by simp [PyData.canLayAll0, PyData.depthAll]
  | y :: r, g => by
    have ih := pD_shape r fun pr hp => g pr (List.mem_cons_of_mem _ hp)
    have h := dV_shape (pD_fl (g y List.mem_cons_self))
    have h1 : PyData.canLay0 (pD y) = true := by rw [pD, PyData.canLay0]; exact h.1
    have h2 : PyData.depth (pD y) ≤ 2 := by rw [pD, PyData.depth]; have := h.2; omega
    simp only [List.map_cons, PyData.canLayAll0, PyData.depthAll, h1, ih.1, Bool.and_self, true_and]
    have := ih.2
    omega
theorem pD_eqv : ∀ chs : List (Str × Int), PyData.eqvAll (chs.map pD) (chs.map pD) = true
  | [] => by simp [PyData.eqvAll]
  | y :: r => by
    have h0 : PyData.eqv (pD y) (pD y) = true := by rw [pD, PyData.eqv]; exact dV_eqv
    simp only [List.map_cons, PyData.eqvAll, h0, pD_eqv r, Bool.and_self]
theorem neLC {H : Hp} {Q : VK} {a b : Addr} {cs : List Addr} {chs : List (Str × Int)} (h : Chs H cs chs) (g : ∀ pr ∈ chs, PyData.strOk pr.1 = true) (ha : SqL K H a (cs.map V.ref)) (hb : SqL K H b (cs.map V.ref)) (q : Q (.bl false) H) : rNeA K (.ref a) (.ref b) H Q := by
  have sh := pD_shape chs g
  have h2 := sh.2
  have c1 : PyData.canLay0 (.list (chs.map pD)) = true := by rw [PyData.canLay0]; exact sh.1
  have c2 : PyData.depth (.list (chs.map pD)) ≤ 64 := by rw [PyData.depth]; omega
  have c3 : SeqAt.shaped (.list (chs.map pD)) = true := by
    show (_ && _) = true
    rw [c1, decide_eq_true c2]; rfl
  exact .inr ⟨_, _, .lst ha (pD_all h g), .lst hb (pD_all h g), c3, c3, by rw [PyData.eqv, pD_eqv]; exact q⟩
theorem neSt {H : Hp} {Q : VK} {a b a2 b2 : Addr} {ms : List Int} (ha : H a = some (.tup [V.str "state", V.ref a2])) (ha2 : H a2 = some (.tup (ms.map V.int))) (hb : H b = some (.tup [V.str "state", V.ref b2])) (hb2 : H b2 = some (.tup (ms.map V.int))) (q : Q (.bl false) H) : rNeA K (.ref a) (.ref b) H Q := by
  have fl : (ms.map V.int).all fl2 = true := fl2_ints
  have sh := dV_shape fl
  have h2 := sh.2
  have so : PyData.strOk "state" = true := by decide +kernel
  have c1 : PyData.canLay0 (.tuple [.str "state", .tuple ((ms.map V.int).map dV)]) = true := by
    rw [PyData.canLay0, PyData.canLayAll0, PyData.canLayAll0, PyData.canLayAll0, PyData.canLay0, PyData.canLay0, so, sh.1]; rfl
  have c2 : PyData.depth (.tuple [.str "state", .tuple ((ms.map V.int).map dV)]) ≤ 64 := by
    simp only [PyData.depth, PyData.depthAll]; omega
  have c3 : SeqAt.shaped (.tuple [.str "state", .tuple ((ms.map V.int).map dV)]) = true := by
    show (_ && _) = true
    rw [c1, decide_eq_true c2]; rfl
  have da : ∀ {x y : Addr}, H x = some (.tup [V.str "state", V.ref y]) → H y = some (.tup (ms.map V.int)) → Dp K H (.ref x) (.tuple [.str "state", .tuple ((ms.map V.int).map dV)]) := fun {x y} h1 h2 => .tup (SqT.of h1) (.cons (.str _) (.cons (.tup (SqT.of h2) (dV_all fl)) .nil))
  refine .inr ⟨_, _, da ha ha2, da hb hb2, c3, c3, ?_⟩
  have e : PyData.eqv (.tuple [.str "state", .tuple ((ms.map V.int).map dV)]) (.tuple [.str "state", .tuple ((ms.map V.int).map dV)]) = true := by
    rw [PyData.eqv, PyData.eqvAll, PyData.eqvAll, PyData.eqvAll, PyData.eqv, PyData.eqv, dV_eqv]; simp
  rw [e]; exact q
theorem peekR_len {xs : List Str} {s : Int} : ∀ {chs : List (Str × Int)} {ms ms' : List Int}, peekR xs s chs ms = .st ms' → ms'.length = ms.length
  | [], ms, ms', h => by rw [peekR] at h; cases h; rfl
  | (z, v) :: r, ms, ms', h => by
    rw [peekR] at h
    by_cases hz : z ∈ xs
    · rw [if_pos hz] at h
      by_cases hb : bad s v
      · rw [if_pos hb] at h; cases h
      · rw [if_neg hb] at h
        rw [peekR_len h, List.length_set]
    · rw [if_neg hz] at h; cases h
theorem peekR_ok {xs : List Str} {s : Int} : ∀ {chs : List (Str × Int)} {ms : List Int}, (∀ pr ∈ chs, PyData.strOk pr.1 = true) → (∀ z, peekR xs s chs ms = .unk z → PyData.strOk z = true) ∧ ∀ z v, peekR xs s chs ms = .rng z v → PyData.strOk z = true
  | [], ms, g => ⟨fun z h => (by rw [peekR] at h; cases h), fun z v h => (by rw [peekR] at h; cases h)⟩
  | (z, v) :: r, ms, g => by
    rw [peekR]
    by_cases hz : z ∈ xs
    · rw [if_pos hz]
      by_cases hb : bad s v
      · rw [if_pos hb]
        exact ⟨fun z' h => (by cases h), fun z' v' h => (by cases h; exact g _ List.mem_cons_self)⟩
      · rw [if_neg hb]; exact peekR_ok fun pr hp => g pr (List.mem_cons_of_mem _ hp)
    · rw [if_neg hz]
      exact ⟨fun z' h => (by cases h; exact g _ List.mem_cons_self), fun z' v' h => (by cases h)⟩
/-- the two answers are compared -/
theorem mid_ok {H : Hp} {rt rd : Addr} {x : Res} {F T : Hp → Prop} (h1 : DueAt H rt x) (h2 : DueAt H rd x) (ok : (∀ z, x = .unk z → PyData.strOk z = true) ∧ ∀ z v, x = .rng z v → PyData.strOk z = true) (ln : ∀ ms, x = .st ms → ms.length ≤ 1000) (ht : T H) :
    cLen K [.ref rt] H fun x7 H1 => cLen K [.ref rd] H1 fun y H2 => rNeA K x7 y H2 fun x8 H' => ∃ k2, x8 = V.bl k2 ∧ if k2 = true then F H' else rIx K (.ref rt) (.int 0) H' fun x9 H1 => rIx K (.ref rd) (.int 0) H1 fun y H2 => rNeA K x9 y H2 fun x10 H' => ∃ k3, x10 = V.bl k3 ∧ if k3 = true then F H' else
      rIx K (.ref rd) (.int 0) H' fun x11 H1 => rEqA K x11 (.str (Str.ofString "state")) H1 fun x12 H' => ∃ k4, x12 = V.bl k4 ∧ if k4 = true then (rIx K (.ref rt) (.int 1) H' fun x13 H1 => rIx K (.ref rd) (.int 1) H1 fun x14 H1 => sp_same [x13, x14] H1 (fun x15 H1 => ∃ c, x15 = V.bl c ∧ if (!c) = true then F H1 else
        rNeA K (.ref rt) (.ref rd) H1 fun x16 H' => ∃ k5, x16 = V.bl k5 ∧ if k5 = true then F H' else T H') E0) else rNeA K (.ref rt) (.ref rd) H' fun x16 H' => ∃ k5, x16 = V.bl k5 ∧ if k5 = true then F H' else T H' := by
  have so : ∀ {z : Str}, z.length ≤ sizeLine → True := fun _ => trivial
  cases x with
  | unk z =>
    have fl : [V.str "unknown", V.str z].all fl3 = true := by simp [fl3, ok.1 z rfl]; decide +kernel
    refine lenT (SqT.of h1) (lenT (SqT.of h2) (neII.mpr ⟨_, rfl, ?_⟩))
    rw [if_neg (by simp)]
    refine ixT (SqT.of h1) (i := 0) rfl (ixT (SqT.of h2) (i := 0) rfl (neSS.mpr ⟨_, rfl, ?_⟩))
    rw [if_neg (by simp)]
    refine ixT (SqT.of h2) (i := 0) rfl (eqSS (by rw [sizeLine_eq]; decide +kernel) ⟨_, rfl, ?_⟩)
    rw [if_neg (by decide +kernel)]
    refine neT3 fl fl (SqT.of h1) (SqT.of h2) ⟨_, rfl, ?_⟩
    rw [if_neg (by simp)]
    exact ht
  | rng z v =>
    have fl : [V.str "range", V.str z, V.int v].all fl3 = true := by simp [fl3, ok.2 z v rfl]; decide +kernel
    refine lenT (SqT.of h1) (lenT (SqT.of h2) (neII.mpr ⟨_, rfl, ?_⟩))
    rw [if_neg (by simp)]
    refine ixT (SqT.of h1) (i := 0) rfl (ixT (SqT.of h2) (i := 0) rfl (neSS.mpr ⟨_, rfl, ?_⟩))
    rw [if_neg (by simp)]
    refine ixT (SqT.of h2) (i := 0) rfl (eqSS (by rw [sizeLine_eq]; decide +kernel) ⟨_, rfl, ?_⟩)
    rw [if_neg (by decide +kernel)]
    refine neT3 fl fl (SqT.of h1) (SqT.of h2) ⟨_, rfl, ?_⟩
    rw [if_neg (by simp)]
    exact ht
  | st ms =>
    obtain ⟨r1, a1, a2⟩ := h1
    obtain ⟨r2, b1, b2⟩ := h2
    refine lenT (SqT.of a1) (lenT (SqT.of b1) (neII.mpr ⟨_, rfl, ?_⟩))
    rw [if_neg (by simp)]
    refine ixT (SqT.of a1) (i := 0) rfl (ixT (SqT.of b1) (i := 0) rfl (neSS.mpr ⟨_, rfl, ?_⟩))
    rw [if_neg (by simp)]
    refine ixT (SqT.of b1) (i := 0) rfl (eqSS (by rw [sizeLine_eq]; decide +kernel) ⟨_, rfl, ?_⟩)
    rw [if_pos (by simp)]
    refine ixT (SqT.of a1) (i := 1) rfl (ixT (SqT.of b1) (i := 1) rfl ⟨r1, r2, ms, rfl, a2, b2, ln ms rfl, true, rfl, ?_⟩)
    rw [if_neg (by decide)]
    refine neSt a1 a2 b1 b2 ⟨_, rfl, ?_⟩
    rw [if_neg (by decide)]
    exact ht
theorem DueAt.but {H H' : Hp} {r a C dx : Addr} {fs : List (Str × V)} {x : Res} (d : DueAt H r x) (s : But a H H') (ha : H a = some (.ins C dx fs)) : DueAt H' r x := by
  have t : ∀ {b : Addr} {zs : List V}, H b = some (.tup zs) → H' b = some (.tup zs) := fun {b zs} e => s _ _ e (ne_of e ha (fun z => nomatch z))
  cases x with
  | unk z => exact t d
  | rng z v => exact t d
  | st ms => obtain ⟨r2, a, b⟩ := d; exact ⟨r2, t a, t b⟩
section
variable {p qn qb qM : Addr} {xo dx tt qm : Nat → Addr} {xs : List Str} {n : Nat} {ms : Nat → List Int} {H H' : Hp}
/-- the k-th model and the k-th object have gone on -/
theorem W5.step (a : W5 2 H C p qn qb qM xo dx tt qm xs n ms) {k : Nat} (hk : k < 2) {h : Addr} {ys : List Int} (ly : ys.length = xs.length) (rg : ∀ v ∈ ys, 0 ≤ v ∧ v < n) (c : CA H' C (xo k) (dx k) (tt k) h xs n (ys.map V.int)) (s : But (xo k) (upd H (qm k) (.lst (ys.map V.int))) H') :
    W5 2 H' C p qn qb qM xo dx tt qm xs n (fun j => if j = k then ys else ms j) := by
  have q0 := a.nq 0 1 (by decide) (by decide)
  have hm := (a.md k hk).1
  obtain ⟨m1, m2, m3, m4⟩ := a.nm k hk
  obtain ⟨h0, c0⟩ := a.ca k hk
  have c1 := c0.putL (o := .lst (ys.map V.int)) hm
  have nl : ∀ {b : Addr} {zs : List V}, b ≠ qm k → H b = some (.lst zs) → H' b = some (.lst zs) := fun {b zs} n e => by
    have e2 : upd H (qm k) (.lst (ys.map V.int)) b = some (.lst zs) := by rw [upd_ne n]; exact e
    exact s _ _ e2 (ne_of e2 c1.at_ (fun z => nomatch z))
  have hk' : H' (qm k) = some (.lst (ys.map V.int)) := s _ _ upd_same (ne_of upd_same c1.at_ (fun z => nomatch z))
  refine ⟨let ⟨z, hz⟩ := a.pl; ⟨z, nl (Ne.symm m1) hz⟩, nl (Ne.symm m2) a.qa, a.np, nl (Ne.symm m3) a.bo, nl (Ne.symm m4) a.mo, fun j hj => ?_, fun j hj => ?_, fun j hj => ?_, a.nb, a.nM, a.nm, a.nx, a.nq⟩
  · by_cases e : j = k
    · subst e; rw [if_pos rfl]; exact ⟨hk', rg⟩
    · rw [if_neg e]; exact ⟨nl (two q0 hj hk e) (a.md j hj).1, (a.md j hj).2⟩
  · by_cases e : j = k
    · rw [if_pos e]; exact ly
    · rw [if_neg e]; exact a.lm j hj
  · by_cases e : j = k
    · subst e; rw [if_pos rfl]; exact ⟨h, c⟩
    · rw [if_neg e]
      obtain ⟨hj', cj⟩ := a.ca j hj
      have cj := cj.putL (o := .lst (ys.map V.int)) hm
      have nn := two a.nx hj hk e
      obtain ⟨o1, d1, t1⟩ := cj.nm
      exact ⟨hj', ⟨s _ _ cj.at_ nn, ⟨o1, d1, s _ _ t1 (ne_of t1 c1.at_ (fun z => nomatch z))⟩, s _ _ cj.hd (ne_of cj.hd c1.at_ (fun z => nomatch z))⟩⟩
end
abbrev s_law : Stmt := top 32
abbrev sc_law_N : List Str := ["_law_script", "_law_pool_here", "_law_names_here", "_law_size", "_law_both", "_law_models", "_law_cells", "_law_state", "_law_k", "_law_changes_here", "_law_due_here", "_law_passed", "_law_told", "_law_j", "_law_at", ".0", "_law_name"]
theorem sc_law : FnScope sc_law_N ["_law_script"] (defScope s_law) := ⟨rfl, rfl, rfl, by decide +kernel, rfl, by decide +kernel, by decide +kernel⟩
-- 0 _law_script, 1 _law_pool_here, 2 _law_names_here, 3 _law_size, 4 _law_both, 5 _law_models, 6 _law_cells, 7 _law_state, 8 _law_k, 9 _law_changes_here, 10 _law_due_here, 11 _law_passed, 12 _law_told, 13 _law_j, 14 _law_at, 15 .0, 16 _law_name
def spLaw (K : PySem.W.Frag) : Sp := fun vs H Q _ => ∃ (a : Addr) (ns : List Int), vs = [.ref a] ∧ SqL K H a (ns.map V.int) ∧ ns.length ≤ 63 ∧ ∀ H', Q (.bl true) H'
theorem ok_law (T : LX4 K mg C Tr UC OR) {f0 : Addr} {fd0 : FuncData} (F0 : Fun K "law" "law" s_law f0 fd0) (d__law_pool : Dn P w K mg base CX0 2 "_law_pool" (sp_pool K)) (d__law_draw : Dn P w K mg base CX0 1 "_law_draw" sp_draw) (d__law_names : Dn P w K mg base CX0 2 "_law_names" sp_names)
    (k_Cells : Kn P w K mg base CX0 3 C "Cells" (sp_init K C)) (m_reset : Mn P w K mg base CX0 6 C "reset" (sp_putN K C)) (d__law_changes : Dn P w K mg base CX0 3 "_law_changes" sp_changes) (d__law_due : Dn P w K mg base CX0 1 "_law_due" sp_due4) (d__law_peeked : Dn P w K mg base CX0 9 "_law_peeked" (sp_peeked K C))
    (d__law_same : Dn P w K mg base CX0 2 "_law_same" sp_same) (m_trial : Mn P w K mg base CX0 3 C "trial" (sp_trial Tr)) (p_contents : Pn P w K mg base CX0 1 C "contents" (getSp C "_held")) (m_change : Mn P w K mg base (L2.CX P w) 5 C "change" (sp_set C UC OR)) :
    FnOk P w K mg base CX0 30 f0 fd0 ["_law_script"] (spLaw K) := by
  refine F0.ok sc_law (fun vs H Q E h => ?_) (fun cdv A outer s H vs Q E hr h => ?_)
  · obtain ⟨a, ns, rfl, _⟩ := h; rfl
  · obtain ⟨a, ns, rfl, ha, hn, q⟩ := h
    refine ⟨_, (pss_cons (ps_set (i := 1) sc_law.nd rfl (Or.inr rfl) (pe_d d__law_pool hr (by decide) pass0 (by rfl) (pa_cons (pv 0) pa_nil)))
      (pss_cons (ps_set (i := 2) sc_law.nd rfl (Or.inl rfl) (pe_d d__law_names hr (by decide) pass0 (by rfl) (pa_cons (pv 1) (pa_cons (pe_ix ix_seq (pe_lst (pa_cons pe_int (pa_cons pe_int (pa_cons pe_int pa_nil)))) (pe_d d__law_draw hr (by decide) pass0 (by rfl) (pa_cons (pv 1) (pa_cons pe_int pa_nil))) (fun _ _ => rfl)) pa_nil))))
      (pss_cons (ps_set (i := 3) sc_law.nd rfl (Or.inr rfl) (pe_ix ix_seq (pe_lst (pa_cons pe_int (pa_cons pe_int (pa_cons pe_int pa_nil)))) (pe_d d__law_draw hr (by decide) pass0 (by rfl) (pa_cons (pv 1) (pa_cons pe_int pa_nil))) (fun _ _ => rfl)))
      (pss_cons (ps_set (i := 4) sc_law.nd rfl (Or.inl rfl) (pe_lst (pa_cons (pe_k k_Cells hr (by decide) pass0 (by rfl) (pa_cons (pe_callTy call_listA (by rfl) T.n_list (by decide +kernel) (pa_cons (pv 2) pa_nil)) (pa_cons (pv 3) pa_nil))) (pa_cons (pe_k k_Cells hr (by decide) pass0 (by rfl) (pa_cons (pe_callTy call_listA (by rfl) T.n_list (by decide +kernel) (pa_cons (pv 2) pa_nil)) (pa_cons (pv 3) pa_nil))) pa_nil))))
      (pss_cons (ps_set (i := 5) sc_law.nd rfl (Or.inl rfl) (pe_lst pa_nil))
      (pss_cons (ps_for PassesOwn.never rfl (pi_list (pv 4)) (pg_name (i := 6) sc_law.nd rfl (Or.inl rfl)) (pss_cons (ps_setLc (i := 7) (own := [(".0", 15), ("_law_name", 16)]) (g := (gName 16)) (tt := tYes) rfl sc_law.nd rfl rfl (sw_true rfl rfl rfl (by decide +kernel)) (pi_list (pv 2)) (blkOk_by (N := sc_law_N) (sc := defScope s_law) (by decide +kernel)) (fun _ _ _ _ _ => pg_name (i := 16) sc_law.nd rfl (Or.inl rfl)) (fun _ _ _ _ _ => pts_nil) (fun _ _ _ _ _ => (pe_d d__law_draw hr (by decide) pass0 (by rfl) (pa_cons (pv 1) (pa_cons (pv 3) pa_nil)))))
      (pss_cons (ps_expr (pe_m m_reset T.cls hr (by decide) pass0 (pv 6) (pa_cons (pe_callTy call_tupA (by rfl) T.n_tuple (by decide +kernel) (pa_cons (pv 7) pa_nil)) pa_nil)))
      (pss_one (ps_expr (pe_bm PySem.F.plainAttrs_list PySem.F.slot_list_append PySem.F.type_list_append mt_append (pv 5) (pa_cons (pv 7) pa_nil)))))))
      (pss_cons (ps_for PassesOwn.never rfl (pi_range1 (by rfl) T.n_range (pa_cons pe_int pa_nil)) (pg_name (i := 8) sc_law.nd rfl (Or.inl rfl)) (pss_cons (ps_set (i := 9) sc_law.nd rfl (Or.inl rfl) (pe_d d__law_changes hr (by decide) pass0 (by rfl) (pa_cons (pv 1) (pa_cons (pv 2) (pa_cons (pv 3) pa_nil)))))
      (pss_cons (ps_set (i := 10) sc_law.nd rfl (Or.inl rfl) (pe_d d__law_due hr (by decide) pass0 (by rfl) (pa_cons (pv 2) (pa_cons (pv 3) (pa_cons (pe_ix ix_seq (pv 5) (pe_op op_modA (pv 8) pe_int) (fun _ _ => rfl)) (pa_cons (pv 9) pa_nil))))))
      (pss_cons (ps_set (i := 11) sc_law.nd rfl (Or.inl rfl) (pe_callTy call_listA (by rfl) T.n_list (by decide +kernel) (pa_cons (pv 9) pa_nil)))
      (pss_cons (ps_set (i := 12) sc_law.nd rfl (Or.inl rfl) (pe_d d__law_peeked hr (by decide) pass0 (by rfl) (pa_cons (pe_ix ix_seq (pv 4) (pe_op op_modA (pv 8) pe_int) (fun _ _ => rfl)) (pa_cons (pv 11) pa_nil))))
      (pss_cons (ps_if (pw_or (pt_cmpR (op_neA (hr.units)) (pv 11) (pv 9) (nomark _)) (pw_or (pt_cmpR (op_neA (hr.units)) (pe_callB call_lenA (by rfl) T.n_len (by decide +kernel) (pa_cons (pv 12) pa_nil)) (pe_callB call_lenA (by rfl) T.n_len (by decide +kernel) (pa_cons (pv 10) pa_nil)) (nomark _)) (pw_or1 (pt_cmpR (op_neA (hr.units)) (pe_ix ix_seq (pv 12) pe_int (fun _ _ => rfl)) (pe_ix ix_seq (pv 10) pe_int (fun _ _ => rfl)) (nomark _))))).pt (pss_one (ps_ret pe_bl)) pss_nil)
      (pss_cons (ps_if (pw_and (pt_cmpR (op_eqA (hr.units)) (pe_ix ix_seq (pv 10) pe_int (fun _ _ => rfl)) pe_str (nomark _)) (pw_and1 (pt_not (pt_val (pe_d d__law_same hr (by decide) pass0 (by rfl) (pa_cons (pe_ix ix_seq (pv 12) pe_int (fun _ _ => rfl)) (pa_cons (pe_ix ix_seq (pv 10) pe_int (fun _ _ => rfl)) pa_nil))))))).pt (pss_one (ps_ret pe_bl)) pss_nil)
      (pss_cons (ps_if (pt_cmpR (op_neA (hr.units)) (pv 12) (pv 10) (nomark _)) (pss_one (ps_ret pe_bl)) pss_nil)
      (pss_cons (ps_if (pt_cmpR op_isNone (pe_m' m_trial T.cls hr (by decide) pass0 (pe_ix ix_seq (pv 4) (pe_op op_modA (pv 8) pe_int) (fun _ _ => rfl))) pe_non (nomark _)) (pss_one (ps_ret pe_bl)) pss_nil)
      (pss_cons (ps_for PassesOwn.never rfl (pi_range1 (by rfl) T.n_range (pa_cons pe_int pa_nil)) (pg_name (i := 13) sc_law.nd rfl (Or.inl rfl)) (pss_one (ps_if (pt_not (pt_val (pe_d d__law_same hr (by decide) pass0 (by rfl) (pa_cons (pe_p p_contents T.cls hr (by decide) pass0 (pe_ix ix_seq (pv 4) (pv 13) (fun _ _ => rfl)) (by rfl)) (pa_cons (pe_callTy call_tupA (by rfl) T.n_tuple (by decide +kernel) (pa_cons (pe_ix ix_seq (pv 5) (pv 13) (fun _ _ => rfl)) pa_nil)) pa_nil))))) (pss_one (ps_ret pe_bl)) pss_nil)))
      (pss_cons (ps_set (i := 14) sc_law.nd rfl (Or.inl rfl) (pe_d d__law_draw hr (by decide) pass0 (by rfl) (pa_cons (pv 1) (pa_cons (pe_callB call_lenA (by rfl) T.n_len (by decide +kernel) (pa_cons (pv 2) pa_nil)) pa_nil))))
      (pss_cons (ps_asg (pe_d d__law_draw hr (by decide) pass0 (by rfl) (pa_cons (pv 1) (pa_cons (pv 3) pa_nil))) (pg_sub (pe_ix ix_seq (pv 5) (pe_op op_modA (pv 8) pe_int) (fun _ _ => rfl)) (pv 14) set_list))
      (pss_cons (ps_expr (pe_m m_change T.cls hr (by decide) passL (pe_ix ix_seq (pv 4) (pe_op op_modA (pv 8) pe_int) (fun _ _ => rfl)) (pa_cons (pe_ix ix_seq (pv 2) (pv 14) (fun _ _ => rfl)) (pa_cons (pe_ix ix_seq (pe_ix ix_seq (pv 5) (pe_op op_modA (pv 8) pe_int) (fun _ _ => rfl)) (pv 14) (fun _ _ => rfl)) pa_nil))))
      (pss_one (ps_if (pt_not (pt_val (pe_d d__law_same hr (by decide) pass0 (by rfl) (pa_cons (pe_p p_contents T.cls hr (by decide) pass0 (pe_ix ix_seq (pv 4) (pe_op op_modA (pv 8) pe_int) (fun _ _ => rfl)) (by rfl)) (pa_cons (pe_callTy call_tupA (by rfl) T.n_tuple (by decide +kernel) (pa_cons (pe_ix ix_seq (pv 5) (pe_op op_modA (pv 8) pe_int) (fun _ _ => rfl)) pa_nil)) pa_nil))))) (pss_one (ps_ret pe_bl)) pss_nil)))))))))))))))
      (pss_one (ps_ret pe_bl))))))))), ?_⟩
    walk_at "rd"
    refine ⟨a, ns, rfl, ha, hn, fun p H1 hp0 hp1 sm1 => ⟨by rw [sizeLine_eq]; decide, fun l1 hl1 => drawI (by decide) (hp1.put (hp1.ne hl1)) fun r1 H2 r10 r13 hp2 b2 => ?_⟩⟩
    obtain ⟨c, hc, c1, c3⟩ := pick r10 r13
    refine ixL (.inl (.inl (b2 _ _ upd_same (Ne.symm (hp1.ne hl1))))) hc ⟨p, c, rfl, hp2, c1, c3, fun qn H3 xs hxl hnm hmet hqn hq3 hp3 b3 => ⟨by rw [sizeLine_eq]; decide, fun l2 hl2 => drawI (by decide) (hp3.put (hp3.ne hl2)) fun r2 H4 r20 r23 hp4 b4 => ?_⟩⟩
    obtain ⟨n, hn2, n1, n3⟩ := pick r20 r23
    have npq : qn ≠ p := fun e => by rw [e] at hqn; obtain ⟨_, z⟩ := hp2; rw [hqn] at z; cases z
    have hq4 : H4 qn = some (.lst (xs.map V.str)) := b4 _ _ (by rw [upd_ne (ne_of_none hq3 hl2)]; exact hq3) npq
    refine ixL (.inl (.inl (b4 _ _ upd_same (Ne.symm (hp3.ne hl2))))) hn2 ?_
    have hnd := met_nodup (by omega) (by omega) hmet
    have hxl1 : 1 ≤ xs.length := by omega
    have hxl3 : xs.length ≤ 3 := by omega
    clear b2 b3 b4
    -- the first object
    refine ⟨qn, _, rfl, .inl (SqL.of hq4), fun ta hta x0 d0 hx0 hd0 hdd0 => ?_⟩
    have s4 : Same H4 (upd (upd (upd H4 ta (.lst (xs.map V.str))) d0 (.own x0)) x0 (.ins C d0 [])) := Same.tr (UL.Same.new hta) (UL.Same.put (UL.Same.new hd0) hx0)
    have hx04 : H4 x0 = none := Same.free (UL.Same.new hta) hx0
    refine ⟨x0, ta, d0, n, xs, rfl, upd_same, SqL.of ((UL.Same.put (UL.Same.new hd0) hx0 : Same (upd H4 ta (.lst (xs.map V.str))) _) _ _ upd_same), by omega, by omega, by omega, by omega, hnm, hmet, fun H5 t0 h0 ca0 b0 => ⟨rfl, ?_⟩⟩
    have k5 : ∀ b o, H4 b = some o → H5 b = some o := fun b o e => b0 _ _ (s4 _ _ e) (ne_of_none e hx04)
    have hq5 := k5 _ _ hq4
    have hp5 : Pl H5 p := let ⟨z, hz⟩ := hp4; ⟨z, k5 _ _ hz⟩
    -- the second one
    refine ⟨qn, _, rfl, .inl (SqL.of hq5), fun tb htb x1 d1 hx1 hd1 hdd1 => ?_⟩
    have s5 : Same H5 (upd (upd (upd H5 tb (.lst (xs.map V.str))) d1 (.own x1)) x1 (.ins C d1 [])) := Same.tr (UL.Same.new htb) (UL.Same.put (UL.Same.new hd1) hx1)
    have hx15 : H5 x1 = none := Same.free (UL.Same.new htb) hx1
    refine ⟨x1, tb, d1, n, xs, rfl, upd_same, SqL.of ((UL.Same.put (UL.Same.new hd1) hx1 : Same (upd H5 tb (.lst (xs.map V.str))) _) _ _ upd_same), by omega, by omega, by omega, by omega, hnm, hmet, fun H6 t1 h1 ca1 b1 => ⟨rfl, by rw [sizeLine_eq]; decide, fun qb hqb qM hqM => ?_⟩⟩
    have k6 : ∀ b o, H5 b = some o → H6 b = some o := fun b o e => b1 _ _ (s5 _ _ e) (ne_of_none e hx15)
    have hq6 := k6 _ _ hq5
    have hp6 : Pl H6 p := let ⟨z, hz⟩ := hp5; ⟨z, k6 _ _ hz⟩
    have ca06 : CA H6 C x0 d0 t0 h0 xs n (List.replicate xs.length (V.int 0)) := ⟨k6 _ _ ca0.at_, let ⟨o, d, z⟩ := ca0.nm; ⟨o, d, k6 _ _ z⟩, k6 _ _ ca0.hd⟩
    have s6 : Same H6 (upd (upd H6 qb (.lst [V.ref x0, V.ref x1])) qM (.lst [])) := Same.tr (UL.Same.new hqb) (UL.Same.new hqM)
    have em : (List.replicate xs.length (0 : Int)).map V.int = List.replicate xs.length (V.int 0) := by simp
    have hqM6 : H6 qM = none := Same.free (UL.Same.new hqb) hqM
    have nbM : qb ≠ qM := ne_of_none upd_same hqM
    have W0 : W5 0 (upd (upd H6 qb (.lst [V.ref x0, V.ref x1])) qM (.lst [])) C p qn qb qM (fun j => if j = 0 then x0 else x1) (fun j => if j = 0 then d0 else d1) (fun j => if j = 0 then t0 else t1) (fun _ => 0) xs n (fun _ => List.replicate xs.length 0) := by
      refine ⟨hp6.same s6, s6 _ _ hq6, npq, by rw [upd_ne nbM, upd_same]; rfl, by rw [upd_same]; rfl, fun j hj => absurd hj (Nat.not_lt_zero _), fun j _ => by simp, fun j hj => ?_, Ne.symm (hp6.ne hqb), ⟨Ne.symm (hp6.ne hqM6), ne_of_none hq6 hqM6, nbM⟩, fun j hj => absurd hj (Nat.not_lt_zero _), ?_, fun j k _ hk => absurd hk (Nat.not_lt_zero _)⟩
      · rw [em]
        have : j = 0 ∨ j = 1 := by omega
        rcases this with rfl | rfl
        · exact ⟨h0, ca06.same s6⟩
        · exact ⟨h1, ca1.same s6⟩
      · exact ne_of_none ca0.at_ hx15
    generalize (fun j : Nat => if j = 0 then x0 else x1) = xo at W0
    generalize (fun j : Nat => if j = 0 then d0 else d1) = dx at W0
    generalize (fun j : Nat => if j = 0 then t0 else t1) = tt at W0
    generalize (fun _ : Nat => (0 : Addr)) = qm0 at W0
    generalize (fun _ : Nat => List.replicate xs.length (0 : Int)) = ms0 at W0
    generalize upd (upd H6 qb (.lst [V.ref x0, V.ref x1])) qM (.lst []) = H7 at W0 ⊢
    clear ca06 s6 k6 k5 hp6 hp5 hq5 hq6 b0 b1 ca0 ca1
    refine ⟨⟨_, SqL.of W0.bo⟩, FJ.list (xs := (List.range 2).map fun j => V.ref (xo j)) (fun i σ' H' => ∃ y6 y7 y8 y9 y10 y11 y12 y13 y14 y15 y16 qm ms, σ' = [some (.ref a), some (.ref p), some (.ref qn), some (.int n), some (.ref qb), some (.ref qM), y6, y7, y8, y9, y10, y11, y12, y13, y14, y15, y16] ∧ W5 i H' C p qn qb qM xo dx tt qm xs n ms) ⟨_, _, _, _, _, _, _, _, _, _, _, qm0, ms0, rfl, W0⟩ (fun i σ' H' _ inv => ?_) (fun i x σ' H' hx inv => ?_) fun σ' H' inv => ?_⟩
    · obtain ⟨y6, y7, y8, y9, y10, y11, y12, y13, y14, y15, y16, qm, ms, rfl, W1⟩ := inv
      exact SqL.of W1.bo
    · obtain ⟨y6, y7, y8, y9, y10, y11, y12, y13, y14, y15, y16, qm, ms, rfl, W1⟩ := inv
      obtain ⟨hi, rfl⟩ := rng_at hx
      walk_at "rd"
      refine ⟨⟨_, SqL.of W1.qa⟩, fun D hD => LJ.it (walk_list (xs := xs.map V.str)) (fun i2 H2 => ∃ ys : List Int, ys.length = i2 ∧ (∀ v ∈ ys, 0 ≤ v ∧ v < n) ∧ H2 D = some (.lst (ys.map V.int)) ∧ W5 i H2 C p qn qb qM xo dx tt qm xs n ms) ⟨[], rfl, fun v hv => absurd hv (by simp), upd_same, W1.new hD⟩ (fun i2 H2 _ inv => let ⟨_, _, _, _, w⟩ := inv; SqL.of w.qa) (fun i2 zz H2 H3 hi2 inv yy => ?_) fun H2 inv => ?_⟩
      · obtain ⟨ys, ly, rg, hd, W2⟩ := inv
        obtain ⟨rfl, _⟩ := yy
        refine ⟨rfl, ?_⟩
        walk_at "rd"
        rw [List.length_map] at hi2
        refine drawI (by omega) W2.pl fun v H9 v0 v1 hp9 b9 => ?_
        have hd9 := b9 _ _ hd (Ne.symm (W1.pl.ne hD))
        refine ⟨_, hd9, by rw [List.length_map, sizeLine_eq]; omega, ys ++ [v], by simp [ly], fun v' hv' => ?_, by rw [upd_same, List.map_append]; rfl, (W2.but b9 hp9).put hd9 (ne_of_none W1.qa hD) (ne_of_none W1.bo hD) (ne_of_none W1.mo hD) (W1.pl.ne hD) fun j hj => ne_of_none (W1.md j hj).1 hD⟩
        rcases List.mem_append.mp hv' with y | y
        · exact rg v' y
        · rw [List.mem_singleton.mp y]; exact ⟨v0, v1⟩
      · obtain ⟨ys, ly, rg, hd, W2⟩ := inv
        rw [List.length_map] at ly
        obtain ⟨h2, c2⟩ := W2.ca i hi
        refine ⟨_, _, c2.at_, rfl, D, _, rfl, .inl ⟨SqL.of hd, fun t1 ht1 => ⟨xo i, t1, dx i, tt i, h2, n, xs, _, ys, rfl, c2.same (UL.Same.new ht1), upd_same, ly.symm, rg, fun H3 ca3 b3 => ?_⟩⟩⟩
        have W3 := (W2.new (o := .tup (ys.map V.int)) ht1)
        have hd1 := UL.Same.new (o := .tup (ys.map V.int)) ht1 _ _ hd
        obtain ⟨h3, c3'⟩ := W3.ca i hi
        have hd3 := b3 _ _ hd1 (ne_of hd1 c3'.at_ (fun z => nomatch z))
        have W4 : W5 i H3 C p qn qb qM xo dx tt qm xs n (fun j => if j = i then ys else ms j) := W3.obj hi (by rw [if_pos rfl]; exact ca3) (by rw [if_pos rfl]; exact ly) (fun j hj => if_neg hj) b3 fun j hj => by
          obtain ⟨y1, y2⟩ := W3.md j hj
          rw [if_neg (by omega)]
          exact ⟨b3 _ _ y1 (ne_of y1 c3'.at_ (fun z => nomatch z)), y2⟩
        refine ⟨.inl ⟨rfl, _, SqL.of W4.mo⟩, qM, _, .ref D, rfl, rfl, W4.mo, by rw [List.length_map, List.length_range, sizeLine_eq]; omega, ⟨_, rfl⟩, _, _, W4.push (by rw [if_pos rfl]; exact hd3) (by rw [if_pos rfl]; exact rg) ⟨Ne.symm (W1.pl.ne hD), Ne.symm (ne_of_none W1.qa hD), Ne.symm (ne_of_none W1.bo hD), Ne.symm (ne_of_none W1.mo hD)⟩ fun j hj => ne_of_none (W1.md j hj).1 hD⟩
    · obtain ⟨y6, y7, y8, y9, y10, y11, y12, y13, y14, y15, y16, qm, ms, rfl, W1⟩ := inv
      walk_at "rd"
      rw [List.length_map, List.length_range] at W1
      refine ⟨by decide, by decide, FJ.rangeI (fun k σ' H' => ∃ y6 y7 y8 y9 y10 y11 y12 y13 y14 y15 y16 ms, σ' = [some (.ref a), some (.ref p), some (.ref qn), some (.int n), some (.ref qb), some (.ref qM), y6, y7, y8, y9, y10, y11, y12, y13, y14, y15, y16] ∧ W5 2 H' C p qn qb qM xo dx tt qm xs n ms) (by decide) ⟨_, _, _, _, _, _, _, _, _, _, _, _, rfl, W1⟩ (fun k σ' H' hk inv => ?_) fun σ' H' inv => ?_⟩
      · obtain ⟨y6, y7, y8, y9, y10, y11, y12, y13, y14, y15, y16, ms, rfl, W1⟩ := inv
        walk_at "rd"
        refine ⟨p, qn, n, xs, rfl, W1.pl, W1.qa, npq, by omega, by omega, hxl1, hxl3, hnm, fun qc H3 cs chs hqc hqc3 hcs gc lcs hp3 b3 => ?_⟩
        have W3 := W1.but b3 hp3
        obtain ⟨i, ei⟩ : ∃ i, i = k % 2 := ⟨_, rfl⟩
        have hi : i < 2 := by omega
        have eki : (k : Int) % 2 = (i : Int) := by omega
        have gok : ∀ pr ∈ chs, PyData.strOk pr.1 = true := fun pr hp => (gc pr hp).2.1
        have sml : smallC chs := fun pr hp => by have := gc pr hp; exact ⟨by omega, by omega, by omega⟩
        simp only [eki]
        refine ⟨by decide, ixL (SqL.of W3.mo) (at_rng hi) ⟨qn, qm i, qc, n, xs, ms i, cs, chs, rfl, W3.qa, (W3.md i hi).1, W3.lm i hi, by omega, hqc3, hcs, fun rd H4 hdue s4 => ⟨qc, _, rfl, .inl (SqL.of (s4 _ _ hqc3)), fun lp hlp => ⟨by decide, ?_⟩⟩⟩⟩
        have s5 : Same H3 (upd H4 lp (.lst (cs.map V.ref))) := Same.tr s4 (UL.Same.new hlp)
        have W4 := W3.same s5
        have hcs5 : Chs (upd H4 lp (.lst (cs.map V.ref))) cs chs := L2.Paired.mapP hcs fun c pr z => s5 _ _ z
        have hdue5 := hdue.same (UL.Same.new (o := .lst (cs.map V.ref)) hlp)
        obtain ⟨h5, c5⟩ := W4.ca i hi
        refine ixL (SqL.of W4.bo) (at_rng hi) ⟨xo i, lp, dx i, tt i, h5, n, xs, ms i, cs, chs, rfl, c5, W4.lm i hi, upd_same, hcs5, sml, fun rt H6 hdue6 ca6 b6 => ?_⟩
        have nl6 : ∀ {b : Addr} {zs : List V}, upd H4 lp (.lst (cs.map V.ref)) b = some (.lst zs) → H6 b = some (.lst zs) := fun {b zs} e => b6 _ _ e (ne_of e c5.at_ (fun z => nomatch z))
        have hcs6 : Chs H6 cs chs := L2.Paired.mapP hcs5 fun c pr z => b6 _ _ z (ne_of z c5.at_ (fun z => nomatch z))
        have W6 := W4.objS hi ca6 b6
        refine neLC hcs6 gok (SqL.of (nl6 upd_same)) (SqL.of (nl6 (s5 _ _ hqc3))) ⟨_, rfl, ?_⟩
        rw [if_neg (by decide)]
        refine mid_ok (F := fun H' => Q (.bl false) H') hdue6 (hdue5.but b6 c5.at_) (peekR_ok gok) (fun ms' h => by rw [peekR_len h, W4.lm i hi]; omega) ?_
        obtain ⟨h6, c6⟩ := W6.ca i hi
        refine ⟨by decide, ixL (SqL.of W6.bo) (at_rng hi) ⟨xo i, rfl, _, _, c6.at_, rfl, xo i, rfl, ⟨_, c6.at_⟩, fun m mdx e0 H7 hm0 hm s7 => ⟨rfl, _, rfl, ?_⟩⟩⟩
        rw [if_neg (by simp)]
        have W7 := W6.same s7
        clear hdue hdue5 hdue6 ca6 b6 c5 c6
        refine ⟨by decide, by decide, FJ.rangeI (fun j σ' H' => ∃ y13, σ' = [some (.ref a), some (.ref p), some (.ref qn), some (.int n), some (.ref qb), some (.ref qM), y6, y7, some (.int k), some (.ref qc), some (.ref rd), some (.ref lp), some (.ref rt), y13, y14, y15, y16] ∧ W5 2 H' C p qn qb qM xo dx tt qm xs n ms) (by decide) ⟨_, rfl, W7⟩ (fun j σ' H' hj inv => ?_) fun σ' H' inv => ?_⟩
        · obtain ⟨y13', rfl, W8⟩ := inv
          walk_at "rd"
          have hj2 : j < 2 := by omega
          obtain ⟨h8, c8⟩ := W8.ca j hj2
          have l8 := W8.lm j hj2
          refine ixL (SqL.of W8.bo) (at_rng hj2) ⟨xo j, rfl, ⟨_, _, c8.at_⟩, xo j, dx j, _, .ref h8, rfl, c8.at_, rfl, ixL (SqL.of W8.mo) (at_rng hj2) ⟨qm j, _, rfl, .inl ⟨SqL.of (W8.md j hj2).1, fun t3 ht3 => ⟨h8, t3, ms j, rfl, UL.Same.new ht3 _ _ c8.hd, upd_same, by omega, true, rfl, ?_⟩⟩⟩⟩
          rw [if_neg (by decide)]
          exact W8.new ht3
        · obtain ⟨y13', rfl, W8⟩ := inv
          walk_at "rd"
          refine lenL (SqL.of W8.qa) (drawI (by rw [List.length_map]; omega) W8.pl fun at0 H9 at00 at01 hp9 b9 => drawI (by omega) hp9 fun v H10 v0 v1 hp10 b10 => ?_)
          rw [List.length_map] at at01
          have W10 := (W8.but b9 hp9).but b10 hp10
          obtain ⟨at1, eat⟩ : ∃ at1 : Nat, at0 = (at1 : Int) := ⟨at0.toNat, by omega⟩
          subst eat
          have hat1 : at1 < xs.length := by omega
          unfold gSub
          walk_at "rd"
          simp only [eki]
          obtain ⟨hmi, rgi⟩ := W10.md i hi
          have li := W10.lm i hi
          obtain ⟨m1, m2, m3, m4⟩ := W10.nm i hi
          obtain ⟨h10, c10⟩ := W10.ca i hi
          have ejx : ixN ((ms i).map V.int).length (at1 : Int) = some at1 := by unfold ixN; rw [if_pos (by omega), if_pos (by rw [List.length_map]; omega)]; rfl
          have em2 : ((ms i).map V.int).set at1 (.int v) = ((ms i).set at1 v).map V.int := by rw [List.map_set]
          refine ⟨by decide, ixL (SqL.of W10.mo) (at_rng hi) ⟨qm i, _, (at1 : Int), at1, rfl, rfl, hmi, ejx, by decide, ?_⟩⟩
          rw [em2]
          have c11 := c10.putL (o := .lst (((ms i).set at1 v).map V.int)) hmi
          have hz : xs[at1]? = some xs[at1] := by simp [hat1]
          have hzm := List.getElem_mem hat1
          have hzl := (hnm _ hzm).2.1
          have hat := atN (xs := xs.map V.str) (n := at1) (v := .str xs[at1]) (by rw [List.getElem?_map, hz]; rfl)
          have hatv := atN (xs := ((ms i).set at1 v).map V.int) (n := at1) (v := .int v) (by rw [List.getElem?_map, List.getElem?_set_self (by omega)]; rfl)
          have hnb : ¬ bad n v := fun x => x.elim (fun y => by omega) (fun y => by omega)
          refine ixL (SqL.of (by rw [upd_ne (Ne.symm m3)]; exact W10.bo)) (at_rng (f := fun j => V.ref (xo j)) hi) ⟨xo i, rfl, _, _, c11.at_, rfl, ixL (SqL.of (by rw [upd_ne (Ne.symm m2)]; exact W10.qa)) hat ⟨by decide, ixL (SqL.of (by rw [upd_ne (Ne.symm m4)]; exact W10.mo)) (at_rng (f := fun j => V.ref (qm j)) hi) (ixL (SqL.of upd_same) hatv ⟨xo i, dx i, tt i, h10, n, xs, _, xs[at1], v, rfl, c11, by rw [List.length_map]; exact li, by omega, by omega, by omega, fun hz2 => absurd hzm hz2, fun _ hb => absurd hb hnb, fun _ _ j h' H12 j1 j2 j3 ca12 b12 => ?_⟩)⟩⟩
          have ej : j = at1 := (List.getElem?_inj j1 hnd).mp (j2.trans hz.symm)
          subst ej
          rw [em2] at ca12
          have W12 := W10.step hi (ys := (ms i).set j v) (by rw [List.length_set]; exact li) (fun v' hv' => by
            rcases List.mem_or_eq_of_mem_set hv' with y | y
            · exact rgi v' y
            · rw [y]; exact ⟨v0, v1⟩) ca12 b12
          have hm12 : H12 (qm i) = some (.lst (((ms i).set j v).map V.int)) := by have := (W12.md i hi).1; simpa using this
          refine ⟨by decide, ixL (SqL.of W12.bo) (at_rng hi) ⟨xo i, rfl, ⟨_, _, ca12.at_⟩, xo i, dx i, _, .ref h', rfl, ca12.at_, rfl, by decide, ixL (SqL.of W12.mo) (at_rng hi) ⟨qm i, _, rfl, .inl ⟨SqL.of hm12, fun t3 ht3 => ⟨h', t3, (ms i).set j v, rfl, UL.Same.new ht3 _ _ ca12.hd, upd_same, by rw [List.length_set]; omega, true, rfl, ?_⟩⟩⟩⟩⟩
          rw [if_neg (by decide)]
          exact ⟨⟨_, rfl⟩, _, W12.new ht3⟩
      · obtain ⟨y6, y7, y8, y9, y10, y11, y12, y13, y14, y15, y16, ms, rfl, W1⟩ := inv
        walk_at "rd"
        exact q _
end
end
end U

set_option Elab.async false
set_option linter.all false
set_option maxRecDepth 100000
set_option maxHeartbeats 4000000
namespace U
open PySem PySem.Spec PyProof.Rows L2 UL
local macro_rules | `(tactic| walk_at "rd") => `(tactic| simp only [tSeq, tAsg, tOp, tCB, tCons, tNil, tVar, tC, tB, tTest, tNot, tIfS, tNext, tYes, tUn, rU, tM0, tGFrom, tGThen, tG0, tYfLst, gcxK, tSubO, tProp, tListG, tMethG, tBMF, tFld, sFld, tMeth, tMake, tSl, tNoPart, tPart, tM1, gTup, gCons, gNil, tDrop, tFor_eq, tLc_eq, tLc2_eq, iRng1_eq, StX.tStar, iList, iTup, iStr, iAny_var, iZipB, tLenSetS, wipe, tVar, tAndV, tOrV, tNotV, tOr, tAnd, tLst, tTup, tBM, tBM0, tChain, tCall, cxK, noxK, addII, addSS, mulII, eqII, neII, neSS, cIntI, cAbsI, rI, rI0, rLt, rLe, rGt_, rGe_, rSub_, rMod, rPow, rDivW, rNeg, gName, tRet, L2.start, List.length_cons, List.length_nil, List.map_cons, List.map_nil, List.replicate, List.cons_append, List.nil_append, List.getElem?_cons_zero, List.getElem?_cons_succ, List.set_cons_zero, List.set_cons_succ, Option.some.injEq, exists_eq_left', exists_eq_left, V.int.injEq, V.bl.injEq, V.str.injEq, V.ref.injEq, V.ty.injEq, List.cons.injEq, and_true, true_and, reduceCtorEq, false_and, exists_false, or_false, false_or, exists_and_left, exists_and_right, List.append_nil, forall_eq, decide_eq_true_eq, Bool.not_eq_true, Nat.reduceAdd, Nat.reduceSub, List.replicate_zero, List.replicate_succ, Nat.zero_le, ite_true, ite_false, if_true, if_false])
section
variable {P : Program} {w : World} {K : PySem.W.Frag} {mg : Str → Option Value} {base : Heap}

open UV UW
theorem td_mk {h : Heap} {x : Str} {st : Stmt} {f : Addr} {oc kV dc pm cd ct : Value} {od an : Option Addr} {sl : Array (Option Value)} (X : K.In h) (G : h.Ns mainGlobals mg) (a : PySem.W.nsIn K mainGlobals x = some (some (.ref f)))
    (l : K.lookup f = some ⟨oc, od, .func (PySem.W.fnOf x x (defArgs st) (defBody st) (defScope st) .none kV dc pm an cd ct), sl⟩) (c : PySem.W.codeIn K cd x = true) (k : PySem.W.keepIn K (.ref f) = true) : TD K mg x st := ⟨f, _, fun_mk l c k, PySem.W.mg_of X G a⟩
theorem md_mk {C : Addr} {m qual : Str} {st : Stmt} {f : Addr} {oc kV dc pm cd ct : Value} {od an : Option Addr} {sl : Array (Option Value)} (a : PySem.W.findIn K (.ref C) m = some (some (.ref f)))
    (l : K.lookup f = some ⟨oc, od, .func (PySem.W.fnOf m qual (defArgs st) (defBody st) (defScope st) .none kV dc pm an cd ct), sl⟩) (c : PySem.W.codeIn K cd qual = true) (i : PySem.W.isFn K (.ref f) = true) (k : PySem.W.keepIn K (.ref f) = true) : MD K C m qual st := ⟨f, _, fun_mk l c k, a, i, k⟩
theorem no_mk {h : Heap} {x : Str} (X : K.In h) (G : h.Ns mainGlobals mg) (a : PySem.W.nsIn K mainGlobals x = some none) : mg x = none := PySem.W.mg_none_of X G a
theorem gs_mk {h : Heap} {x z : Str} {t : Tok} (X : K.In h) (G : h.Ns mainGlobals mg) (a : PySem.W.nsIn K mainGlobals x = some (some (.str z t))) : ∃ u, mg x = some u ∧ RelV (.str z) u := ⟨_, PySem.W.mg_of X G a, _, rfl⟩
theorem gi_mk {h : Heap} {x : Str} {i : Int} {t : Tok} (X : K.In h) (G : h.Ns mainGlobals mg) (a : PySem.W.nsIn K mainGlobals x = some (some (.int i t))) : ∃ u, mg x = some u ∧ RelV (.int i) u := ⟨_, PySem.W.mg_of X G a, _, rfl⟩
theorem gr_mk {h : Heap} {x : Str} {a : Addr} (X : K.In h) (G : h.Ns mainGlobals mg) (e : PySem.W.nsIn K mainGlobals x = some (some (.ref a))) : ∃ u, mg x = some u ∧ RelV (.ref a) u := ⟨_, PySem.W.mg_of X G e, rfl⟩
theorem ga_mk {h : Heap} {x : Str} {a : Addr} (X : K.In h) (G : h.Ns mainGlobals mg) (e : PySem.W.nsIn K mainGlobals x = some (some (.ref a))) : mg x = some (.ref a) := PySem.W.mg_of X G e
theorem na_mk {C : Addr} {x : Str} (a : PySem.W.findIn K (.ref C) x = some none) : NoAttr K C x := a
theorem pr_mk {C p g : Addr} {rest : List Value} {oc kV dc pm cd ct : Value} {od an : Option Addr} {sl : Array (Option Value)} (a : PySem.W.findIn K (.ref C) "contents" = some (some (.ref p))) (b : PySem.W.specialIn K (.ref p) "__get__" = some (some (.builtin "property.__get__"))) (t : PySem.W.takesIn K (.ref p) = some true)
    (r : PySem.W.recIn K p "property" = some (.ref g :: rest)) (l : K.lookup g = some ⟨oc, od, .func (PySem.W.fnOf "contents" "Cells.contents" (defArgs s_Cells_contents) (defBody s_Cells_contents) (defScope s_Cells_contents) .none kV dc pm an cd ct), sl⟩)
    (c : PySem.W.codeIn K cd "Cells.contents" = true) (k : PySem.W.keepIn K (.ref g) = true) : ∃ p g fd, PropOf K C "contents" p g ∧ Fun K "contents" "Cells.contents" s_Cells_contents g fd := ⟨p, g, _, ⟨a, b, t, rest, r⟩, fun_mk l c k⟩
theorem ox_mk {C : Addr} {nm q : Str} {N : Addr} {bs bm : List Value} {sn : List Str} {sub : List Value} {ab : Bool} {col : Option Bool} {dd : Option Addr} {k0 k1 k2 k3 k5 : Option Value} (l : K.lookup C = some (excClassObj nm q C N bs bm true sn sub ab col dd k0 k1 k2 k3 k5 "ValueError.__new__")) (hb : PySem.HandSPX.refsVE bm = true)
    (sa : PySem.W.findIn K (.ref C) "__setattr__" = some (some (.builtin "object.__setattr__"))) (e : PySem.W.subIn K (.ref C) (.type "BaseException") = some true) (t : PySem.W.typeIn K (.ref C) = some (.type "type")) (k : PySem.W.keepIn K (.ref C) = true) : OexC K C := ⟨⟨nm, q, N, bs, bm, sn, sub, ab, col, dd, k0, k1, k2, k3, k5, l, hb⟩, sa, e, t, k⟩
theorem xd_mk {h : Heap} {C : Addr} {x qual : Str} {st : Stmt} {f c cc : Addr} {oc kV doc pm ct : Value} {od an : Option Addr} {osl : Array (Option Value)} {ccl : Value} {cdd : Option Addr} {vs : Array Value} {ccs : Array (Option Value)} {file : Str} {tf : Tok} {cl : Value} {cld : Option Addr} {csl : Array (Option Value)} (X : K.In h) (G : h.Ns mainGlobals mg) (ox : OexC K C)
    (gc : PySem.W.nsIn K mainGlobals x = some (some (.ref C))) (fi : PySem.W.findIn K (.ref C) "__init__" = some (some (.ref f))) (lk : K.lookup f = some ⟨oc, od, .func (PySem.W.fnX "__init__" qual (defArgs st) (defBody st) (defScope st) [("__class__", cc)] .none kV doc pm an (.ref c) ct), osl⟩) (hcd : PySem.W.codeIn K (.ref c) qual = true)
    (ty : PySem.W.typeIn K (.ref f) = some (.type "function")) (par : ∃ ar, ((defArgs st).posonlyargs ++ (defArgs st).args).head? = some ar ∧ ar.arg = "self") (lc : K.lookup c = some ⟨ccl, cdd, .fields vs, ccs⟩) (v2 : vs[2]? = some (.str file tf)) (fl : ((P.main.file : Str) == file) = true) (top : (P.main.scope.names.lookup ("super" : Str)).isSome = false)
    (lcc : K.lookup cc = some ⟨cl, cld, .cell (some (.ref C)), csl⟩) (nos : PySem.W.nsIn K mainGlobals "super" = some none) (sub : PySem.W.mroIn K C (.ref C) = some true) (op : PySem.W.nsIn K cStatics "thirdparty.any" = some none) (al : PySem.W.ks_superIn K C C "__init__" = some (some wr)) : XD P K mg C x qual st :=
  ⟨⟨f, c, cc, oc, kV, doc, pm, ct, od, an, osl, lk, hcd, ⟨⟨oc, od, osl, lk⟩, par, ⟨ccl, cdd, vs, ccs, file, tf, lc, v2, fl⟩, top, ⟨cl, cld, csl, lcc⟩, PySem.W.mg_none_of X G nos, sub, op, al⟩, fi, ty⟩, ox, PySem.W.mg_of X G gc⟩
theorem ps_mk {C p g : Addr} {gv : Value} {rest : List Value} {oc kV dc pm cd ct : Value} {od an : Option Addr} {sl : Array (Option Value)} (a : PySem.W.takerIn K C "contents" = some (some (.ref p))) (b : PySem.W.typeIn K (.ref p) = some (.type "property")) (r : PySem.W.recIn K p "property" = some (gv :: .ref g :: rest))
    (l : K.lookup g = some ⟨oc, od, .func (PySem.W.fnOf "contents" "Cells.contents" (defArgs s_Cells_contentsp) (defBody s_Cells_contentsp) (defScope s_Cells_contentsp) .none kV dc pm an cd ct), sl⟩) (c : PySem.W.codeIn K cd "Cells.contents" = true) (k : PySem.W.keepIn K (.ref g) = true) :
    ∃ p g fd, PutO K C "contents" p g ∧ Fun K "contents" "Cells.contents" s_Cells_contentsp g fd := ⟨p, g, _, ⟨a, b, gv, rest, r⟩, fun_mk l c k⟩
theorem MD.isfn {C : Addr} {m qual : Str} {st : Stmt} (D : MD K C m qual st) : ∀ f, PySem.W.findIn K (.ref C) m = some (some (.ref f)) → PySem.W.isFn K (.ref f) = true := fun f h => by
  obtain ⟨f0, fd, F, M⟩ := D.ex
  have z := h.symm.trans M.at_
  cases z
  exact M.fn
/-- everything that the law wants of the module -/
structure All (P : Program) (K : PySem.W.Frag) (mg : Str → Option Value) (C Tr UC OR : Addr) : Prop where
  lx : LX4 K mg C Tr UC OR
  xt : XT K UC OR
  ns : PySem.W.noSeq K C = true
  mks : PySem.W.makesIn K C = true
  kc : PySem.W.keepIn K (.ref C) = true
  gc : mg "Cells" = some (.ref C)
  mkt : PySem.W.makesIn K Tr = true
  kt : PySem.W.keepIn K (.ref Tr) = true
  gt : mg "Trial" = some (.ref Tr)
  d1 : TD K mg "is_name" s_is_name
  d2 : TD K mg "check_names" s_check_names
  d3 : TD K mg "check_size" s_check_size
  d4 : TD K mg "is_value" s_is_value
  d5 : TD K mg "check_state" s_check_state
  e1 : TD K mg "_law_is_number" s__law_is_number
  e2 : TD K mg "_law_mixed" s__law_mixed
  e3 : TD K mg "_law_pool" s__law_pool
  e4 : TD K mg "_law_draw" s__law_draw
  e5 : TD K mg "_law_names" s__law_names
  e6 : TD K mg "_law_value" s__law_value
  e7 : TD K mg "_law_same" s__law_same
  e8 : TD K mg "_law_strange" s__law_strange
  e9 : TD K mg "_law_peeked" s__law_peeked
  e10 : TD K mg "_law_due" s__law_due
  e11 : TD K mg "_law_changes" s__law_changes
  m1 : MD K C "__init__" "Cells.__init__" s_Cells___init__
  m2 : MD K C "__setitem__" "Cells.__setitem__" s_Cells___setitem__
  m3 : MD K C "_position" "Cells._position" s_Cells__position
  m4 : MD K C "reset" "Cells.reset" s_Cells_reset
  m5 : MD K C "change" "Cells.change" s_Cells_change
  m6 : MD K C "trial" "Cells.trial" s_Cells_trial
  m7 : MD K C "peek" "Cells.peek" s_Cells_peek
  m8 : MD K Tr "__init__" "Trial.__init__" s_Trial___init__
  m9 : MD K Tr "__enter__" "Trial.__enter__" s_Trial___enter__
  m10 : MD K Tr "__exit__" "Trial.__exit__" s_Trial___exit__
  xu : XD P K mg UC "UnknownCell" "UnknownCell.__init__" s_UC
  xo : XD P K mg OR "OutOfRange" "OutOfRange.__init__" s_OR
  pr : ∃ p g fd, PropOf K C "contents" p g ∧ Fun K "contents" "Cells.contents" s_Cells_contents g fd
  pw : ∃ p g fd, PutO K C "contents" p g ∧ Fun K "contents" "Cells.contents" s_Cells_contentsp g fd
theorem law_of {C Tr UC OR : Addr} (a : All P K mg C Tr UC OR) {f0 : Addr} {fd0 : FuncData} (F0 : Fun K "law" "law" s_law f0 fd0) : FnOk P w K mg base CX0 30 f0 fd0 ["_law_script"] (spLaw K) := by
  have T := a.lx.toCT
  have Tt := a.lx.toCTt
  have hnum : Dn P w K mg base CX0 1 "_law_is_number" sp_isnum := d_isnum T.toNm a.e1
  have hmix : Dn P w K mg base CX0 1 "_law_mixed" sp_mixed := d_mixed T.toNm a.e2
  have hpool : Dn P w K mg base CX0 2 "_law_pool" (sp_pool K) := d_pool T.toNm a.e3 hmix
  have hdraw : Dn P w K mg base CX0 1 "_law_draw" sp_draw := d_draw T.toNm a.e4
  have hnames : Dn P w K mg base CX0 2 "_law_names" sp_names := d_names T.toNm a.e5 hdraw
  have hsame : Dn P w K mg base CX0 2 "_law_same" sp_same := d_same T.toNm a.e7 hnum
  have hval : Dn P w K mg base CX0 2 "_law_value" sp_value := d_value T.toNm a.e6 hdraw
  have hstr : Dn P w K mg base CX0 2 "_law_strange" sp_strange := d_strange T.toNm a.e8 hdraw
  have hisn : Dn P w K mg base CX0 1 "is_name" sp_isname := d_isname T.toNm a.d1
  have hchn : Dn P w K mg base CX0 2 "check_names" (sp_chknames K) := d_chknames T.toNm a.d2 hisn
  have hchs : Dn P w K mg base CX0 1 "check_size" sp_chksize := d_chksize T.toNm a.d3
  have hisv : Dn P w K mg base CX0 1 "is_value" sp_isval := d_isval T.toNm a.d4
  have hcst : Dn P w K mg base CX0 2 "check_state" (sp_chkst K) := d_chkst T.toNm a.d5 hisv
  have xU : Xn P w K mg base 1 UC "UnknownCell" (sp_UC (K := K) UC) := x_UC a.xu
  have xO : Xn P w K mg base 1 OR "OutOfRange" (sp_OR (K := K) OR) := x_OR a.xo
  have hpos : Mn P w K mg base (L2.CX P w) 3 C "_position" (sp_posX C UC) := m_posX T a.xt a.m3 xU
  have hset : Mn P w K mg base (L2.CX P w) 4 C "__setitem__" (sp_set C UC OR) := m_setX T a.xt a.m2 xO hpos hisv
  have hSn : Sn P w K mg base (L2.CX P w) 4 C (sp_set C UC OR) := Mn.sn hset a.ns
  have hch : Mn P w K mg base (L2.CX P w) 5 C "change" (sp_set C UC OR) := m_changeX T a.m5 hSn
  have hini : Mn P w K mg base CX0 3 C "__init__" (sp_init K C) := m_init T a.m1 hchn hchs
  obtain ⟨p, g, fd, hp, F⟩ := a.pr
  obtain ⟨p2, g2, fd2, hp2, F2⟩ := a.pw
  have hcon : Pn P w K mg base CX0 1 C "contents" (getSp C "_held") := p_contents T F hp
  have hput : PutN P w K mg base CX0 3 C "contents" (sp_putN K C) := put_N T F2 hp2 hcst
  have hreset : Mn P w K mg base CX0 6 C "reset" (sp_putN K C) := m_resetN T a.m4 hput
  have htin : Mn P w K mg base CX0 1 Tr "__init__" (sp_tinit Tr) := m_tinit Tt a.m8
  have hkt : Kn P w K mg base CX0 1 Tr "Trial" (sp_tinit Tr) := by
    obtain ⟨f, fd, ps, FO, M, B⟩ := htin.ex
    exact ⟨f, fd, ps, FO, ⟨a.mkt, M.at_, M.fn, a.kt⟩, B, a.gt⟩
  have htr : Mn P w K mg base CX0 3 C "trial" (sp_trial Tr) := m_trial a.m6 hkt
  have hw : WithN P w K mg base 3 Tr (sp_enter Tr C) (sp_exit Tr C) := w_tr Tt a.m9 a.m10 hcon (MD.isfn a.m9) (MD.isfn a.m10)
  have hpk : Mn P w K mg base (L2.CX P w) 8 C "peek" (sp_peek K C UC OR) := m_peek Tt a.m7 htr hw hSn hcon
  have hpd : Dn P w K mg base CX0 9 "_law_peeked" (sp_peeked K C) := d_peeked a.lx a.xt a.e9 hpk
  have hdue : Dn P w K mg base CX0 1 "_law_due" sp_due4 := d_due4 T.toNm a.e10
  have hchg : Dn P w K mg base CX0 3 "_law_changes" sp_changes := d_changes T.toNm a.e11 hdraw hstr hval
  have hk : Kn P w K mg base CX0 3 C "Cells" (sp_init K C) := by
    obtain ⟨f, fd, ps, FO, M, B⟩ := hini.ex
    exact ⟨f, fd, ps, FO, ⟨a.mks, M.at_, M.fn, a.kc⟩, B, a.gc⟩
  exact ok_law a.lx F0 hpool hdraw hnames hk hreset hchg hdue hpd hsame htr hcon hch
theorem fin_of {l : PySem.W.OpenLaw} {w : World} {h : Heap} {fa C Tr UC OR : Addr} (X : K.In h) (G : h.Ns mainGlobals mg) (hfa : mg "law" = some (.ref fa)) (a : All l.prog K mg C Tr UC OR)
    {f1 : Addr} {od1 an1 : Option Addr} {sl1 : Array (Option Value)} {oc1 kV1 dc1 pm1 cd1 ct1 : Value}
    (a1 : PySem.W.nsIn K mainGlobals "law" = some (some (.ref f1))) (l1 : K.lookup f1 = some ⟨oc1, od1, .func (PySem.W.fnOf "law" "law" (defArgs s_law) (defBody s_law) (defScope s_law) .none kV1 dc1 pm1 an1 cd1 ct1), sl1⟩) (c1 : PySem.W.codeIn K cd1 "law" = true) (k1 : PySem.W.keepIn K (.ref f1) = true) :
    ∃ fd : FuncData, (∀ (s : Shared) (v : Value), BindsTo s fd ⟨[v], []⟩ [("_law_script", v)]) ∧ ∀ base : Heap, K.In base → base.Ns mainGlobals mg → FnOk l.prog w K mg base CX0 30 fa fd ["_law_script"] (spLaw K) := by
  have e := hfa.symm.trans (PySem.W.mg_of X G a1)
  cases e
  have F1 := fun_mk (st := s_law) l1 c1 k1
  exact ⟨PySem.W.fnOf "law" "law" (defArgs s_law) (defBody s_law) (defScope s_law) .none kV1 dc1 pm1 an1 cd1 ct1, fun s v => .of_eq rfl, fun base _ _ => law_of a F1⟩
theorem walk {l : PySem.W.OpenLaw} {q : Program} {loose : List Str} {XP : (Str → Option Value) → Heap → Prop} {YP : World → Heap → Prop} {d : DefRec} {K : Params → PySem.W.Frag} (hn : l.most = some 63) (hdf : d.params.defaults = [])
    (hY : ∀ (w : World) (h : Heap), YP w h → (K w.params).In h)
    (F : ∀ (w : World) (mg : Str → Option Value) (fa : Addr) (h : Heap), (K w.params).In h → h.Ns mainGlobals mg → mg d.name = some (.ref fa) →
      ∃ fd : FuncData, (∀ (s : Shared) (u : Value), BindsTo s fd ⟨[u], []⟩ [("_law_script", u)]) ∧ ∀ base : Heap, (K w.params).In base → base.Ns mainGlobals mg → FnOk l.prog w (K w.params) mg base CX0 30 fa fd ["_law_script"] (spLaw (K w.params))) :
    PySem.W.WalkO q loose XP YP l.row.toRowW d [] (fun f vs => PySem.call f vs) :=
  L2.walk_of (n := 63) (k := 30) (x := "_law_script") (CX := fun _ => CX0) (sp := fun w => spLaw (K w.params)) hn (by decide) hdf ⟨rfl, by decide, by decide⟩ hY F (fun _ _ a ns hl _ hS => ⟨a, ns, rfl, hS, hl, fun _ => rfl⟩) fun _ _ _ _ _ z => z
end
end U

set_option Elab.async false
open PySem PySem.W PyProof.Rows
set_option maxRecDepth 100000 in
set_option maxHeartbeats 0 in
theorem PySem.Challenge.cw_untoldrule_k04_whole_trials_holds : PySem.Challenge.rw_untoldrule_k04_whole_trials.Holds := by
  w_on; o_law; k_head; (case hw => w_witness2)
  k_fill
  refine U.walk (l := PySem.Challenge.rw_untoldrule_k04_whole_trials) rfl rfl (fun w h Y => PySem.W.kIn_of Y) ?F
  case F =>
    intro w mg fa h KX G hmg
    refine' U.fin_of KX G hmg (C := ?fC) (Tr := ?fT) (UC := ?fU) (OR := ?fO) { lx := { toCT := { toNm := { n_int := ?n_int, n_bool := ?n_bool, n_str := ?n_str, n_list := ?n_list, n_tuple := ?n_tuple, n_set := ?n_set, n_len := ?n_len, n_abs := ?n_abs, n_all := ?n_all, n_iter := ?n_iter, n_range := ?n_range, n_zip := ?n_zip, n_isinstance := ?n_isinstance, c_LETTERS := ?c_LETTERS, c_MOST_LETTERS := ?c_MOST_LETTERS, c_MOST_CELLS := ?c_MOST_CELLS, c_MOST_SIZE := ?c_MOST_SIZE }, cls := ⟨?c1, ?c2, ?c3, ?c4⟩, a_names := ?an, a_size := ?as, a_held := ?ah }, clt := ⟨?ct1, ?ct2, ?ct3, ?ct4⟩, a_cells := ?ac, a_before := ?ab, g_UC := ?g_UC, g_OR := ?g_OR, xfU := ⟨?xfu1, ?xfu2, ?xfu3, ?xfu4⟩, xfO := ⟨?xfo1, ?xfo2, ?xfo3, ?xfo4⟩, uu := ?uu, ou := ?ou, oo := ?oo }, xt := ⟨?t1, ?t2, ?t3⟩, ns := ?ns, mks := ?mks, kc := ?kc, gc := ?gc, mkt := ?mkt, kt := ?kt, gt := ?gt, d1 := ?d1, d2 := ?d2, d3 := ?d3, d4 := ?d4, d5 := ?d5, e1 := ?e1, e2 := ?e2, e3 := ?e3, e4 := ?e4, e5 := ?e5, e6 := ?e6, e7 := ?e7, e8 := ?e8, e9 := ?e9, e10 := ?e10, e11 := ?e11, m1 := ?m1, m2 := ?m2, m3 := ?m3, m4 := ?m4, m5 := ?m5, m6 := ?m6, m7 := ?m7, m8 := ?m8, m9 := ?m9, m10 := ?m10, xu := ?xu, xo := ?xo, pr := ?pr, pw := ?pw } ?a1 ?l1 ?k1 ?k2
    (case gc => refine' U.ga_mk KX G ?zz_gc; (case zz_gc => k_is))
    (case gt => refine' U.ga_mk KX G ?zz_gt; (case zz_gt => k_is))
    (case g_UC => refine' U.ga_mk KX G ?zz_g_UC; (case zz_g_UC => k_is))
    (case g_OR => refine' U.ga_mk KX G ?zz_g_OR; (case zz_g_OR => k_is))
    (case n_int => refine' U.no_mk KX G ?zz_n_int; (case zz_n_int => k_is))
    (case n_bool => refine' U.no_mk KX G ?zz_n_bool; (case zz_n_bool => k_is))
    (case n_str => refine' U.no_mk KX G ?zz_n_str; (case zz_n_str => k_is))
    (case n_list => refine' U.no_mk KX G ?zz_n_list; (case zz_n_list => k_is))
    (case n_tuple => refine' U.no_mk KX G ?zz_n_tuple; (case zz_n_tuple => k_is))
    (case n_set => refine' U.no_mk KX G ?zz_n_set; (case zz_n_set => k_is))
    (case n_len => refine' U.no_mk KX G ?zz_n_len; (case zz_n_len => k_is))
    (case n_abs => refine' U.no_mk KX G ?zz_n_abs; (case zz_n_abs => k_is))
    (case n_all => refine' U.no_mk KX G ?zz_n_all; (case zz_n_all => k_is))
    (case n_iter => refine' U.no_mk KX G ?zz_n_iter; (case zz_n_iter => k_is))
    (case n_range => refine' U.no_mk KX G ?zz_n_range; (case zz_n_range => k_is))
    (case n_zip => refine' U.no_mk KX G ?zz_n_zip; (case zz_n_zip => k_is))
    (case n_isinstance => refine' U.no_mk KX G ?zz_n_isinstance; (case zz_n_isinstance => k_is))
    (case c_LETTERS => refine' U.gs_mk KX G ?zz_c_LETTERS; (case zz_c_LETTERS => k_is))
    (case c_MOST_LETTERS => refine' U.gi_mk KX G ?zz_c_MOST_LETTERS; (case zz_c_MOST_LETTERS => k_is))
    (case c_MOST_CELLS => refine' U.gi_mk KX G ?zz_c_MOST_CELLS; (case zz_c_MOST_CELLS => k_is))
    (case c_MOST_SIZE => refine' U.gi_mk KX G ?zz_c_MOST_SIZE; (case zz_c_MOST_SIZE => k_is))
    (case c1 => k_is)
    (case c2 => k_is)
    (case c3 => k_is)
    (case c4 => k_is)
    (case ct1 => k_is)
    (case ct2 => k_is)
    (case ct3 => k_is)
    (case ct4 => k_is)
    (case an => refine' U.na_mk ?zz_an; (case zz_an => k_is))
    (case as => refine' U.na_mk ?zz_as; (case zz_as => k_is))
    (case ah => refine' U.na_mk ?zz_ah; (case zz_ah => k_is))
    (case ac => refine' U.na_mk ?zz_ac; (case zz_ac => k_is))
    (case ab => refine' U.na_mk ?zz_ab; (case zz_ab => k_is))
    (case xfu1 => k_is)
    (case xfu2 => k_is)
    (case xfu3 => k_is)
    (case xfu4 => k_is)
    (case xfo1 => k_is)
    (case xfo2 => k_is)
    (case xfo3 => k_is)
    (case xfo4 => k_is)
    (case uu => kernel_rfl)
    (case ou => kernel_rfl)
    (case oo => kernel_rfl)
    (case t1 => k_is)
    (case t2 => k_is)
    (case t3 => k_is)
    (case ns => k_is)
    (case mks => k_is)
    (case kc => k_is)
    (case mkt => k_is)
    (case kt => k_is)
    (case d1 => refine' U.td_mk KX G ?zz_d1_1 ?zz_d1_2 ?zz_d1_3 ?zz_d1_4; (case zz_d1_1 => k_is); (case zz_d1_2 => k_is); (case zz_d1_3 => k_is); (case zz_d1_4 => k_is))
    (case d2 => refine' U.td_mk KX G ?zz_d2_1 ?zz_d2_2 ?zz_d2_3 ?zz_d2_4; (case zz_d2_1 => k_is); (case zz_d2_2 => k_is); (case zz_d2_3 => k_is); (case zz_d2_4 => k_is))
    (case d3 => refine' U.td_mk KX G ?zz_d3_1 ?zz_d3_2 ?zz_d3_3 ?zz_d3_4; (case zz_d3_1 => k_is); (case zz_d3_2 => k_is); (case zz_d3_3 => k_is); (case zz_d3_4 => k_is))
    (case d4 => refine' U.td_mk KX G ?zz_d4_1 ?zz_d4_2 ?zz_d4_3 ?zz_d4_4; (case zz_d4_1 => k_is); (case zz_d4_2 => k_is); (case zz_d4_3 => k_is); (case zz_d4_4 => k_is))
    (case d5 => refine' U.td_mk KX G ?zz_d5_1 ?zz_d5_2 ?zz_d5_3 ?zz_d5_4; (case zz_d5_1 => k_is); (case zz_d5_2 => k_is); (case zz_d5_3 => k_is); (case zz_d5_4 => k_is))
    (case e1 => refine' U.td_mk KX G ?zz_e1_1 ?zz_e1_2 ?zz_e1_3 ?zz_e1_4; (case zz_e1_1 => k_is); (case zz_e1_2 => k_is); (case zz_e1_3 => k_is); (case zz_e1_4 => k_is))
    (case e2 => refine' U.td_mk KX G ?zz_e2_1 ?zz_e2_2 ?zz_e2_3 ?zz_e2_4; (case zz_e2_1 => k_is); (case zz_e2_2 => k_is); (case zz_e2_3 => k_is); (case zz_e2_4 => k_is))
    (case e3 => refine' U.td_mk KX G ?zz_e3_1 ?zz_e3_2 ?zz_e3_3 ?zz_e3_4; (case zz_e3_1 => k_is); (case zz_e3_2 => k_is); (case zz_e3_3 => k_is); (case zz_e3_4 => k_is))
    (case e4 => refine' U.td_mk KX G ?zz_e4_1 ?zz_e4_2 ?zz_e4_3 ?zz_e4_4; (case zz_e4_1 => k_is); (case zz_e4_2 => k_is); (case zz_e4_3 => k_is); (case zz_e4_4 => k_is))
    (case e5 => refine' U.td_mk KX G ?zz_e5_1 ?zz_e5_2 ?zz_e5_3 ?zz_e5_4; (case zz_e5_1 => k_is); (case zz_e5_2 => k_is); (case zz_e5_3 => k_is); (case zz_e5_4 => k_is))
    (case e6 => refine' U.td_mk KX G ?zz_e6_1 ?zz_e6_2 ?zz_e6_3 ?zz_e6_4; (case zz_e6_1 => k_is); (case zz_e6_2 => k_is); (case zz_e6_3 => k_is); (case zz_e6_4 => k_is))
    (case e7 => refine' U.td_mk KX G ?zz_e7_1 ?zz_e7_2 ?zz_e7_3 ?zz_e7_4; (case zz_e7_1 => k_is); (case zz_e7_2 => k_is); (case zz_e7_3 => k_is); (case zz_e7_4 => k_is))
    (case e8 => refine' U.td_mk KX G ?zz_e8_1 ?zz_e8_2 ?zz_e8_3 ?zz_e8_4; (case zz_e8_1 => k_is); (case zz_e8_2 => k_is); (case zz_e8_3 => k_is); (case zz_e8_4 => k_is))
    (case e9 => refine' U.td_mk KX G ?zz_e9_1 ?zz_e9_2 ?zz_e9_3 ?zz_e9_4; (case zz_e9_1 => k_is); (case zz_e9_2 => k_is); (case zz_e9_3 => k_is); (case zz_e9_4 => k_is))
    (case e10 => refine' U.td_mk KX G ?zz_e10_1 ?zz_e10_2 ?zz_e10_3 ?zz_e10_4; (case zz_e10_1 => k_is); (case zz_e10_2 => k_is); (case zz_e10_3 => k_is); (case zz_e10_4 => k_is))
    (case e11 => refine' U.td_mk KX G ?zz_e11_1 ?zz_e11_2 ?zz_e11_3 ?zz_e11_4; (case zz_e11_1 => k_is); (case zz_e11_2 => k_is); (case zz_e11_3 => k_is); (case zz_e11_4 => k_is))
    (case m1 => refine' U.md_mk ?zz_m1_1 ?zz_m1_2 ?zz_m1_3 ?zz_m1_4 ?zz_m1_5; (case zz_m1_1 => k_is); (case zz_m1_2 => k_is); (case zz_m1_3 => k_is); (case zz_m1_4 => k_is); (case zz_m1_5 => k_is))
    (case m2 => refine' U.md_mk ?zz_m2_1 ?zz_m2_2 ?zz_m2_3 ?zz_m2_4 ?zz_m2_5; (case zz_m2_1 => k_is); (case zz_m2_2 => k_is); (case zz_m2_3 => k_is); (case zz_m2_4 => k_is); (case zz_m2_5 => k_is))
    (case m3 => refine' U.md_mk ?zz_m3_1 ?zz_m3_2 ?zz_m3_3 ?zz_m3_4 ?zz_m3_5; (case zz_m3_1 => k_is); (case zz_m3_2 => k_is); (case zz_m3_3 => k_is); (case zz_m3_4 => k_is); (case zz_m3_5 => k_is))
    (case m4 => refine' U.md_mk ?zz_m4_1 ?zz_m4_2 ?zz_m4_3 ?zz_m4_4 ?zz_m4_5; (case zz_m4_1 => k_is); (case zz_m4_2 => k_is); (case zz_m4_3 => k_is); (case zz_m4_4 => k_is); (case zz_m4_5 => k_is))
    (case m5 => refine' U.md_mk ?zz_m5_1 ?zz_m5_2 ?zz_m5_3 ?zz_m5_4 ?zz_m5_5; (case zz_m5_1 => k_is); (case zz_m5_2 => k_is); (case zz_m5_3 => k_is); (case zz_m5_4 => k_is); (case zz_m5_5 => k_is))
    (case m6 => refine' U.md_mk ?zz_m6_1 ?zz_m6_2 ?zz_m6_3 ?zz_m6_4 ?zz_m6_5; (case zz_m6_1 => k_is); (case zz_m6_2 => k_is); (case zz_m6_3 => k_is); (case zz_m6_4 => k_is); (case zz_m6_5 => k_is))
    (case m7 => refine' U.md_mk ?zz_m7_1 ?zz_m7_2 ?zz_m7_3 ?zz_m7_4 ?zz_m7_5; (case zz_m7_1 => k_is); (case zz_m7_2 => k_is); (case zz_m7_3 => k_is); (case zz_m7_4 => k_is); (case zz_m7_5 => k_is))
    (case m8 => refine' U.md_mk ?zz_m8_1 ?zz_m8_2 ?zz_m8_3 ?zz_m8_4 ?zz_m8_5; (case zz_m8_1 => k_is); (case zz_m8_2 => k_is); (case zz_m8_3 => k_is); (case zz_m8_4 => k_is); (case zz_m8_5 => k_is))
    (case m9 => refine' U.md_mk ?zz_m9_1 ?zz_m9_2 ?zz_m9_3 ?zz_m9_4 ?zz_m9_5; (case zz_m9_1 => k_is); (case zz_m9_2 => k_is); (case zz_m9_3 => k_is); (case zz_m9_4 => k_is); (case zz_m9_5 => k_is))
    (case m10 => refine' U.md_mk ?zz_m10_1 ?zz_m10_2 ?zz_m10_3 ?zz_m10_4 ?zz_m10_5; (case zz_m10_1 => k_is); (case zz_m10_2 => k_is); (case zz_m10_3 => k_is); (case zz_m10_4 => k_is); (case zz_m10_5 => k_is))
    (case xu => refine' U.xd_mk KX G ?zz_xu_ox ?zz_xu_gc ?zz_xu_fi ?zz_xu_lk ?zz_xu_hcd ?zz_xu_ty ?zz_xu_par ?zz_xu_lc ?zz_xu_v2 ?zz_xu_fl ?zz_xu_top ?zz_xu_lcc ?zz_xu_nos ?zz_xu_sub ?zz_xu_op ?zz_xu_al; (case zz_xu_gc => k_is); (case zz_xu_ox => refine' U.ox_mk ?zz_xu_ox1 ?zz_xu_ox2 ?zz_xu_ox3 ?zz_xu_ox4 ?zz_xu_ox5 ?zz_xu_ox6; (case zz_xu_ox1 => k_is); (case zz_xu_ox2 => rfl); (case zz_xu_ox3 => k_is); (case zz_xu_ox4 => k_is); (case zz_xu_ox5 => k_is); (case zz_xu_ox6 => k_is)); (case zz_xu_fi => k_is); (case zz_xu_lk => k_is); (case zz_xu_hcd => k_is); (case zz_xu_ty => k_is); (case zz_xu_par => exact ⟨_, rfl, rfl⟩); (case zz_xu_lc => k_is); (case zz_xu_v2 => rfl); (case zz_xu_fl => first | rfl | decide +kernel); (case zz_xu_top => first | rfl | decide +kernel); (case zz_xu_lcc => k_is); (case zz_xu_nos => k_is); (case zz_xu_sub => k_is); (case zz_xu_op => k_is); (case zz_xu_al => ks_is))
    (case xo => refine' U.xd_mk KX G ?zz_xo_ox ?zz_xo_gc ?zz_xo_fi ?zz_xo_lk ?zz_xo_hcd ?zz_xo_ty ?zz_xo_par ?zz_xo_lc ?zz_xo_v2 ?zz_xo_fl ?zz_xo_top ?zz_xo_lcc ?zz_xo_nos ?zz_xo_sub ?zz_xo_op ?zz_xo_al; (case zz_xo_gc => k_is); (case zz_xo_ox => refine' U.ox_mk ?zz_xo_ox1 ?zz_xo_ox2 ?zz_xo_ox3 ?zz_xo_ox4 ?zz_xo_ox5 ?zz_xo_ox6; (case zz_xo_ox1 => k_is); (case zz_xo_ox2 => rfl); (case zz_xo_ox3 => k_is); (case zz_xo_ox4 => k_is); (case zz_xo_ox5 => k_is); (case zz_xo_ox6 => k_is)); (case zz_xo_fi => k_is); (case zz_xo_lk => k_is); (case zz_xo_hcd => k_is); (case zz_xo_ty => k_is); (case zz_xo_par => exact ⟨_, rfl, rfl⟩); (case zz_xo_lc => k_is); (case zz_xo_v2 => rfl); (case zz_xo_fl => first | rfl | decide +kernel); (case zz_xo_top => first | rfl | decide +kernel); (case zz_xo_lcc => k_is); (case zz_xo_nos => k_is); (case zz_xo_sub => k_is); (case zz_xo_op => k_is); (case zz_xo_al => ks_is))
    (case pr => refine' U.pr_mk ?zz_pr_1 ?zz_pr_2 ?zz_pr_3 ?zz_pr_4 ?zz_pr_5 ?zz_pr_6 ?zz_pr_7; (case zz_pr_1 => k_is); (case zz_pr_2 => k_is); (case zz_pr_3 => k_is); (case zz_pr_4 => k_is); (case zz_pr_5 => k_is); (case zz_pr_6 => k_is); (case zz_pr_7 => k_is))
    (case pw => refine' U.ps_mk ?zz_pw_1 ?zz_pw_2 ?zz_pw_3 ?zz_pw_4 ?zz_pw_5 ?zz_pw_6; (case zz_pw_1 => k_is); (case zz_pw_2 => k_is); (case zz_pw_3 => k_is); (case zz_pw_4 => k_is); (case zz_pw_5 => k_is); (case zz_pw_6 => k_is))
    (case a1 => k_is); (case l1 => k_is); (case k1 => k_is); (case k2 => k_is)


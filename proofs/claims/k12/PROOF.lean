import PyProof.Rows.All
import Wide.All
import OpenK.AllK
import Wide.FinOn
import HandS.ForMost
import HandS.ForExc
import HandS.Wide
import HandS.IsInst
import HandS.Property
import HandS.GenList
import HandS.GenYield
import HandS.Star
import HandS.StrMore
import HandS.Conv
import HandS.Flow
import HandS.TupAny
import HandS.TupMul
import HandS.Deep
import HandS.Evl
import HandS.RaiseMore
import HandS.Zip
import HandS.Walk
import HandS.TryMany
import HandS.ExcInit
import HandS.ExcSuper
import HandS.Strs
import HandS.OwnIter
import HandS.IterNext
import KE.GoesMore
import KE.GoesZip
import HandS.Codes
import HandS.WordsExc
import KE.KSuper
import HandS.Nested
import HandS.ExcIs
import HandS.ExcOwn
import HandS.RaiseFrom
import HandS.HotCalls
import HandS.FStr
import PyProof.FString2
import KE.KWithOwn
import HandS.Finally
import KE.KUnpackStar
import HandS.ClsMeth
import HandS.CallLocal
import KE.GoesEnumKw
import PySem.Challenge.RW_untoldrule_k12_plans_are_joined
import HandS.ExcField
import HandS.DictComp
import HandS.ListItems
import HandS.SlotsOwn

set_option Elab.async false
set_option linter.all false
set_option maxRecDepth 100000
set_option maxHeartbeats 2000000
/-! rules of our own: text * int, tuple * int, len(set(texts)) -/
namespace UL
open PySem PySem.Spec PyProof.Rows L2

/-! ### text * 0, text * 1 -/
def rMulS : R2 := fun x y H Q => ∃ z n, x = .str z ∧ y = .int n ∧ ((n = 0 ∧ Q (.str Str.empty) H) ∨ (n = 1 ∧ Q (.str z) H))
theorem op_mulS {X : Cx} : OpR X (binaryOp .Mult) rMulS := by
  intro pins s σ H x y v u Q I rx ry h
  obtain ⟨z, n, rfl, rfl, h⟩ := h
  obtain ⟨t, rfl⟩ := rx
  obtain ⟨t', rfl⟩ := ry
  rcases h with ⟨rfl, q⟩ | ⟨rfl, q⟩
  · exact P.mul_str_none (by decide) (by decide) ⟨.str Str.empty, H, I.tok _, ⟨_, rfl⟩, q⟩
  · refine P.mul_str (by decide) (fun _ e => ?_) (fun _ e => ?_) ?_
    · simp at e
    · simp at e
    · rw [if_neg (by decide), if_pos (by simp)]
      exact ⟨.str z, H, I, ⟨_, rfl⟩, q⟩

/-! ### tuple * int -/
theorem tuple_mul1 (l : Addr) (items : Array Value) (n : Nat) (dd : Option Addr) (sl : Array (Option Value)) (x : Int) (u : Tok) (c0 : (decide (x < -(2 ^ 63)) || decide (x ≥ 2 ^ 63)) = false) (c1 : (items.isEmpty || x == 1) = true) :
    Meets (Builtin.«tuple.__mul__» ⟨[.ref l, .int x u], []⟩) (fun _ R s => s.heap.get? l = some { cls := .type "tuple", dict := dd, data := .seq items n, slots := sl } ∧
      R (.ok (.ret (Value.ref l))) s) :=
  .of_wp fun prog w A R s h => by
    obtain ⟨hp, g, d, tk, os⟩ := s
    obtain ⟨hl, h⟩ := h
    have f1 := AutoSeq1.idx_int
    wp_walk using wpAny_loadPart' hl
    repeat (first
      | (refine wpAny_ite_false (decide_eq_false (by rw [c0]; exact Bool.false_ne_true)) ?_; wp_walk using wpAny_loadPart' hl)
      | (refine wpAny_ite_true (decide_eq_true c1) ?_; wp_walk using wpAny_loadPart' hl))
    exact ⟨_, rfl, h⟩
/-- the answer is a tuple of the items so often: a new one, or the same -/
def rRepU (K : PySem.W.Frag) : R2 := fun x y H Q => ∃ l k xs, x = .ref l ∧ y = .int k ∧ SqT K H l xs ∧ xs ≠ [] ∧ 1 ≤ k ∧ k ≤ 1000 ∧ xs.length ≤ 1000 ∧ (k = 1 → Q (.ref l) H) ∧ (2 ≤ k → ∀ p, H p = none → Q (.ref p) (upd H p (.tup (List.replicate k.toNat xs).flatten)))
theorem op_repU {X : Cx} : OpR X (binaryOp .Mult) (rRepU X.K) := by
  intro pins s σ H x y v u Q I rx ry h
  obtain ⟨l, k, xs, rfl, rfl, hT, hne, h1, h2, hz, q1, q2⟩ := h
  by_cases hk : k = 1
  · subst hk
    cases rx
    obtain ⟨t, rfl⟩ := ry
    obtain ⟨its, r, ⟨⟨cls, dd, data, sl⟩, ho, hc, n, hd⟩, hs⟩ := I.tuple hT
    simp only at hc hd
    subst hc hd
    have c0 : (decide ((1 : Int) < -(2 ^ 63)) || decide ((1 : Int) ≥ 2 ^ 63)) = false := by decide
    have c1 : (its.toArray.isEmpty || (1 : Int) == 1) = true := by simp
    refine wpAny_binaryOp_repeat_ref (T := "tuple") (U := "int") (by decide) ⟨_, ho, rfl⟩ (fun s' => typeIs_int s' 1 t) noFill_tuple_mul F.fills_int_mul F.slot_int_rmul repeat_tuple F.slot_int_index.lookup
      (call_meets F.slot_int_rmul (typeIs_int s 1 t) F.entry_int_rmul (F.args_int_rmul_2 _ _) (int_rmul_tuple 1 t l its.toArray n dd sl)
        ⟨ho, rfl, ⟨_, ho, rfl⟩, call_meets F.slot_tuple_mul ⟨_, ho, rfl⟩ F.entry_tuple_mul (F.args_tuple_mul_2 _ _) (tuple_mul1 l its.toArray n dd sl 1 t c0 c1) ⟨ho, ?_⟩⟩)
    exact ⟨.ref l, H, I, rfl, q1 rfl⟩
  · exact op_repT pins s σ H _ _ v u Q I rx ry ⟨l, k, xs, rfl, rfl, hT, hne, by omega, h2, hz, fun p hp => q2 (by omega) p hp⟩
end UL

/-! ### len(set(texts)) -/
namespace UL
open PySem PySem.Spec PyProof.Rows
/-- the texts met so far, each once -/
def met (xs : List Str) : List Str := xs.foldl (fun acc x => if acc.any (· == x) then acc else acc ++ [x]) []
theorem met_snoc (xs : List Str) (x : Str) : met (xs ++ [x]) = if (met xs).any (· == x) then met xs else met xs ++ [x] := by
  unfold met
  rw [List.foldl_append]
  rfl
theorem met_len (xs : List Str) : (met xs).length ≤ xs.length := by
  have h : ∀ (ys acc : List Str), (ys.foldl (fun acc x => if acc.any (· == x) then acc else acc ++ [x]) acc).length ≤ acc.length + ys.length := by
    intro ys
    induction ys with
    | nil => intro acc; simp
    | cons y r ih =>
      intro acc
      rw [List.foldl_cons]
      refine Nat.le_trans (ih _) ?_
      split <;> simp only [List.length_append, List.length_cons, List.length_nil] <;> omega
  simpa [met] using h xs []
theorem met_take (xs : List Str) {i : Nat} (h : i < xs.length) (k : Str) :
    (((met (xs.take i)).any (· == k) || decide (k = xs.getD i Str.empty)) = (met (xs.take (i + 1))).any (· == k)) ∧
      (if (met (xs.take i)).any (· == xs.getD i Str.empty) = true then (met (xs.take i)).length else (met (xs.take i)).length + 1) = (met (xs.take (i + 1))).length := by
  have hx : xs[i]? = some (xs.getD i Str.empty) := by
    rw [List.getD_eq_getElem?_getD]; simp [h]
  have ht : xs.take (i + 1) = xs.take i ++ [xs.getD i Str.empty] := by
    rw [List.take_add_one, hx]; rfl
  rw [ht, met_snoc]; generalize xs.getD i Str.empty = x
  by_cases e : (met (xs.take i)).any (· == x) = true
  · rw [if_pos e, if_pos e]
    refine ⟨?_, rfl⟩
    by_cases e2 : k = x
    · subst e2; simp [e]
    · simp [e2]
  · rw [if_neg e, if_neg e, List.any_append]
    refine ⟨?_, by simp⟩
    by_cases e2 : k = x
    · subst e2; simp
    · have hb : (x == k) = false := beq_eq_false_iff_ne.mpr fun z => e2 z.symm
      simp [e2, hb]
section
variable {prog : Program} {w : World} {A : Around} {E : Value → Shared → Prop} {s : Shared} {I : Addr} {fp wr : List Addr} {G : Array GenState → Array GenState → Prop} {n : Nat} {P : Nat → Value → Prop} {St : Nat → Shared → Prop}
/-- the set at S holds the first i texts -/
def Holds (prog : Program) (w : World) (S : Addr) (xs : List Str) (i : Nat) (h : Heap) : Prop := h.SetOf (PySem.strKind prog w) S (fun k => (met (xs.take i)).any (· == k)) (met (xs.take i)).length
theorem Holds.at {S : Addr} {xs : List Str} {i : Nat} {h h' : Heap} (x : Holds prog w S xs i h) (k : ∀ o, h.get? S = some o → h'.get? S = some o) : Holds prog w S xs i h' := by
  obtain ⟨o, es, ep, t, ho, r⟩ := x; exact ⟨o, es, ep, t, k o ho, r⟩
/-- the walk that fills a set with texts, from turn i on -/
theorem fills (W : WalksS prog w A.in1 I fp wr G n P St) {S : Addr} (hS : S ∉ fp) {xs : List Str} (hl : xs.length = n) (hb : n + 1 < scanBound) (hv : ∀ i v, P i v → ∃ t, v = .str (xs.getD i Str.empty) t) {R : Result → Shared → Prop} :
    ∀ (d i : Nat) (s : Shared), i + d = n → St i s → Holds prog w S xs i s.heap → (∀ s', Moved (S :: wr) G s s' → Holds prog w S xs n s'.heap → R (.ok (.ret .none)) s') →
      codeAny (model prog w) A (.builtin "set.update.loop" ⟨[.ref S, .ref I], []⟩) R s := by
  have nw : S ∉ wr := fun z => hS (W.sub _ z)
  have up : ∀ b ∈ wr, b ∈ S :: wr := fun b z => List.mem_cons_of_mem _ z
  intro d
  induction d with
  | zero =>
    intro i s e st hd hR
    cases (show i = n from e)
    refine codeAny_builtin PyProof.Rows.F.entry_set_update_loop ?_; rw [Around.under_plainId PyProof.Rows.F.plain_set_update_loop _]
    refine wpAny_bind (m := pyNext (.ref I)) (W.done s _ _ st fun s' m => wpAny_pure (hR s' (m.mono up) (hd.at fun o q => m.heap S o nw q)))
  | succ d ih =>
    intro i s e st hd hR
    have lt : i < n := by omega
    refine codeAny_builtin PyProof.Rows.F.entry_set_update_loop ?_; rw [Around.under_plainId PyProof.Rows.F.plain_set_update_loop _]
    refine wpAny_bind (m := pyNext (.ref I)) (W.item i s _ _ lt st fun v s' p st' m => ?_)
    obtain ⟨t, rfl⟩ := hv i v p
    have ml : (met (xs.take i)).length ≤ i := Nat.le_trans (met_len _) (by rw [List.length_take]; omega)
    refine wpAny_bind (m := holding [Value.str (xs.getD i Str.empty) t] (setAdd S (.str (xs.getD i Str.empty) t))) (wpAny_holding ?_)
    unfold setAdd
    refine wpAny_holding (wpAny_bind ((PySem.strKind prog w).pyHash (k := xs.getD i Str.empty) (strKind_is _ _ _ _) ?_))
    have hd' : Holds prog w S xs i s'.heap := hd.at fun o q => m.heap S o nw q
    refine wpAny_setAddHashed_of (knd := PySem.strKind prog w) (s := { s' with toks := s'.toks + 1 }) (strKind_is _ _ _ _) rfl hd' (by omega) fun h' sb new => ?_
    have hd2 : Holds prog w S xs (i + 1) h' := by
      obtain ⟨o, es, ep, tb, ho, r⟩ := new
      have e1 := fun k => (met_take xs (show i < xs.length by omega) k).1
      have e2 := (met_take xs (show i < xs.length by omega) Str.empty).2
      exact SetOf_congr ⟨o, es, ep, tb, ho, r⟩ e1 e2
    have off : ∀ b, b ∈ fp → b ≠ S := fun b z q => hS (q ▸ z)
    refine wpAny_pure ⟨plainId_quiet PyProof.Rows.F.plain_set_update_loop _, ih (i + 1) _ (by omega) (W.frame _ s' _ _ st' (Nat.le_succ _) fun b z o q => (sb.2 b (off b z)).trans q) hd2 fun s2 m2 q2 => hR s2 ?_ q2⟩
    exact Moved.trans W.gtrans ((m.mono up).then_heap (Nat.le_succ _) fun b o z q => (sb.2 b fun y => z (y ▸ List.mem_cons_self)).trans q) m2
/-- set(x): a new set, then its __init__ -/
theorem call_set1 {x : Value} {Q : Value → Shared → Prop} (h : ∀ led : Bool, wpAny (model prog w) A.in1.in1 (Builtin.«set.__init__» ⟨[.ref s.heap.objs.size, x], []⟩)
      (fun fin s' => match fin with | .done f => wants (fun r s₂ => r = .none ∧ Q (.ref s.heap.objs.size) s₂) E (.ok f) s' | .again c' => c'.quiet = true ∧ codeAny (model prog w) A.in1 c' (wants (fun r s₂ => r = .none ∧ Q (.ref s.heap.objs.size) s₂) E) s')
      (fun e s' => wants (fun r s₂ => r = .none ∧ Q (.ref s.heap.objs.size) s₂) E (.error e) s') { s with heap := s.heap.push { cls := .type "set", dict := none, data := .set #[] 0 (.fresh 0 0 led) } }) :
    wpAny (model prog w) A (call (.type "set") [x]) Q E s := by
  have ⟨c, tl, hmro⟩ := PySem.F.called_set.mro; have hmade := PySem.F.called_set.made; have hsub := PySem.F.called_set.sub
  refine wpAny_call (codeAny_of_tree (wpAny_pure ⟨Code.quiet_builtin _ (by decide +kernel), codeAny_builtin PySem.F.entry_type_call ?_⟩))
  rw [Around.under_plain (weight_type_call_type "set" [x] []) rfl]
  have h1 := PySem.F.called_set.notType; have h2 := PySem.F.called_set.canCreate; have hct := PySem.F.typeCall_set_1 x
  repeat (any_goals (first | assumption | wp_step))
  refine codeAny_mono (code_set_new_1 x (E := E) (Q₁ := fun obj s₁ => ∃ led : Bool, obj = .ref s.heap.objs.size ∧ s₁ = { s with heap := s.heap.push { cls := .type "set", dict := none, data := .set #[] 0 (.fresh 0 0 led) } }) fun led => ⟨led, rfl, rfl⟩) fun r s₁ hr => ?_
  match r, hr with
  | .error e, hr => exact hr
  | .ok .next, hr | .ok .brk, hr | .ok .cont, hr => exact hr.elim
  | .ok (.ret obj), ⟨led, e1, e2⟩ =>
    subst e1 e2
    have hT : Shared.TypeIs { s with heap := s.heap.push { cls := .type "set", dict := none, data := .set #[] 0 (.fresh 0 0 led) } } (.ref s.heap.objs.size) "set" := ⟨_, Heap.get?_push_size _ rfl, rfl⟩
    have hli := PySem.F.called_set.init.lookup; have hbi := PySem.F.called_set.init.bind (.ref s.heap.objs.size)
    repeat (any_goals (first | assumption | wp_step))
    refine codeAny_mono (codeAny_call_builtin PySem.F.called_set.init.plain PySem.F.entry_set_init (check_set_init_1 hT (h led))) fun r₂ s₂ hr₂ => ?_
    match r₂, hr₂ with
    | .error e, hr₂ => exact hr₂
    | .ok .next, hr₂ | .ok .brk, hr₂ | .ok .cont, hr₂ => exact hr₂.elim
    | .ok (.ret r), ⟨e1, hq⟩ =>
      subst e1
      repeat (any_goals (first | assumption | wp_step))

abbrev freshSet (led : Bool) : Obj := { cls := .type "set", dict := none, data := .set #[] 0 (.fresh 0 0 led) }
/-- the same of a list, of a tuple -/
theorem call_set_strs {l : Addr} {items : Array Value} {xs : List Str} {Q : Value → Shared → Prop} (hh : A.handled = none) (hl : s.heap.IsList l items ∨ s.heap.IsTuple l items) (hi : StrsAre items.toList xs) (hb : items.size + 1 < scanBound)
    (h : ∀ (h' : Heap) (tk : Nat), Holds prog w s.heap.objs.size xs items.size h' → (∀ b o, b < s.heap.objs.size → s.heap.get? b = some o → h'.get? b = some o) → Q (.ref s.heap.objs.size) { s with heap := h', toks := tk }) :
    wpAny (model prog w) A (call (.type "set") [.ref l]) Q E s := by
  have hsz : xs.length = items.size := by rw [← StrsAre.len_eq hi, Array.length_toList]
  have hval : ∀ (i : Nat) (v : Value), items[i]? = some v → ∃ t, v = .str (xs.getD i Str.empty) t := fun i v hv => SS.strs_at hi i v (by rw [Array.getElem?_toList]; exact hv)
  have h3 : A.in1.in1.in1.handled = none := by simp [hh]
  refine call_set1 fun led => ?_
  have gS : (s.heap.push (freshSet led)).get? s.heap.objs.size = some (freshSet led) := Heap.get?_push_size _ rfl
  -- once an iterator stands behind the set
  have fin : ∀ (cl : String) (vs : Array Value) (l0 : Addr) (P : Nat → Value → Prop) (St : Nat → Heap → Prop), (∀ i v, P i v → ∃ t, v = .str (xs.getD i Str.empty) t) →
      Walks prog w A.in1.in1.in1 (s.heap.objs.size + 1) [s.heap.objs.size + 1, l0] [s.heap.objs.size + 1] items.size P St → l0 < s.heap.objs.size → St 0 ((s.heap.push (freshSet led)).push { cls := .type cl, data := .fields vs }) →
      codeAny (model prog w) A.in1.in1 (.builtin "set.update.loop" ⟨[.ref s.heap.objs.size, .ref (s.heap.objs.size + 1)], []⟩) (fun r s' => r = .ok (.ret .none) ∧ ∃ h' tk, s' = { s with heap := h', toks := tk } ∧ Holds prog w s.heap.objs.size xs items.size h' ∧
        (∀ b o, b < s.heap.objs.size → s.heap.get? b = some o → h'.get? b = some o)) { s with heap := (s.heap.push (freshSet led)).push { cls := .type cl, data := .fields vs } } := by
    intro cl vs l0 P St hP W hl0 st
    refine fills W.toS (by simp only [List.mem_cons, List.not_mem_nil, or_false, not_or]; exact ⟨Nat.ne_of_lt (Nat.lt_succ_self _), Nat.ne_of_gt hl0⟩) hsz hb hP items.size 0 _ (by omega) st ?_ fun s' m q => ?_
    · exact SetOf_congr ((setObjOf_fresh (knd := PySem.strKind prog w) led).setOf (Heap.get?_push_of_some _ gS) (by unfold scanBound; omega)) (fun _ => rfl) rfl
    · obtain ⟨h', g', d', tk', os'⟩ := s'
      cases (show g' = s.gens from m.gens); cases (show d' = s.drawn from m.drawn); cases (show os' = s.os from m.os)
      refine ⟨rfl, h', tk', rfl, q, fun b o lt e => m.heap b o ?_ (Heap.get?_push_of_some _ (Heap.get?_push_of_some _ e))⟩
      simp only [List.mem_cons, List.not_mem_nil, or_false, not_or]; exact ⟨Nat.ne_of_lt lt, Nat.ne_of_lt (Nat.lt_succ_of_lt lt)⟩
  have push1 : (s.heap.push (freshSet led)).objs.size = s.heap.objs.size + 1 := Heap.size_push _ _
  have gI : ∀ (cl : String) (vs : Array Value), ((s.heap.push (freshSet led)).push { cls := .type cl, data := .fields vs }).get? (s.heap.objs.size + 1) = some { cls := .type cl, data := .fields vs } := fun cl vs => by
    have g := Heap.get?_push_size (s.heap.push (freshSet led)) (o := { cls := .type cl, data := .fields vs }) rfl
    rwa [push1] at g
  rcases hl with ⟨⟨ocls, odict, odata, oslots⟩, ho, hc, nl, hd⟩ | ⟨⟨ocls, odict, odata, oslots⟩, ho, hc, nl, hd⟩
  all_goals (simp only at hc hd; subst hc hd)
  · have ho' := Heap.get?_push_of_some (freshSet led) ho
    have hl1 : (s.heap.push (freshSet led)).IsList l items := ⟨_, ho', rfl, nl, rfl⟩
    have f1 := PySem.F.sub_list_set; have f2 := PySem.F.sub_list_frozenset; have f3 : (Value.type "list" == Value.type "dict") = false := by decide
    unfold Builtin.«set.__init__» noKeywords Builtin.Frozenset.updateFrom; generalize hPI : pyIter = PI; wp_walk; subst hPI
    refine wpAny_pyIter_list hl1 (wpAny_bind (wpAny_runValue ?_))
    rw [push1]
    have lt := Heap.lt_size ho
    refine codeAny_mono (fin _ _ l _ _ hval (Walks.list h3 _ l (Nat.ne_of_lt (Nat.lt_succ_of_lt lt)) items) lt ⟨⟨_, gI _ _, rfl, rfl⟩, hl1.push _⟩) fun r s' q => ?_
    obtain ⟨e1, h', tk, e2, q1, q2⟩ := q
    subst e1 e2
    exact wpAny_pure (wpAny_pure ⟨rfl, h h' tk q1 q2⟩)
  · have ho' := Heap.get?_push_of_some (freshSet led) ho
    have hl1 : (s.heap.push (freshSet led)).IsTuple l items := ⟨_, ho', rfl, nl, rfl⟩
    have f1 : isSubtype (.type "tuple") (.type "set") = pure false := by rw [isSubtype_type]; kernel_rfl
    have f2 : isSubtype (.type "tuple") (.type "frozenset") = pure false := by rw [isSubtype_type]; kernel_rfl
    have f3 : (Value.type "tuple" == Value.type "dict") = false := by decide
    unfold Builtin.«set.__init__» noKeywords Builtin.Frozenset.updateFrom; generalize hPI : pyIter = PI; wp_walk; subst hPI
    refine wpAny_pyIter_tuple hl1 (wpAny_bind (wpAny_runValue ?_))
    rw [push1]
    have lt := Heap.lt_size ho
    refine codeAny_mono (fin _ _ l _ _ hval (Walks.tuple h3 _ l (Nat.ne_of_lt (Nat.lt_succ_of_lt lt)) items) lt ⟨⟨_, gI _ _, rfl, rfl⟩, hl1.push _⟩) fun r s' q => ?_
    obtain ⟨e1, h', tk, e2, q1, q2⟩ := q
    subst e1 e2
    exact wpAny_pure (wpAny_pure ⟨rfl, h h' tk q1 q2⟩)
end
section
open L2
variable {X : Cx}
theorem strs_of_vals : ∀ {zs : List Str} {us : List Value}, Vals (zs.map V.str) us → StrsAre us zs
  | [], _, .nil => .nil
  | z :: zs, _, .cons r t => by obtain ⟨tk, rfl⟩ := r; exact .cons _ _ (strs_of_vals t)
def tLenSetS (K : PySem.W.Frag) (ta : TE) : TE := fun σ H Q => ta σ H fun x H1 => ∃ (l : Addr) (zs : List Str), x = V.ref l ∧ (SqL K H1 l (zs.map V.str) ∨ SqT K H1 l (zs.map V.str)) ∧ zs.length < 64 ∧ Q (.int (met zs).length) H1
theorem pe_lenSetS {a : Expr} {ta : TE} {p p2 q pos : Pos} (hc : X.calm = true) (hg : Gl X "len") (hm : X.mg "len" = none) (hg2 : Gl X "set") (hm2 : X.mg "set" = none) (ha : PE X a ta)
    (na : starEach [a] X.env = (false, eval a X.env) :: starEach [] X.env := by rfl) : PE X (.Call (.Name "len" p) [.Call (.Name "set" p2) [a] [] q] [] pos) (tLenSetS X.K ta) := by
  refine ⟨fun pins s σ H Q I h => Call_ (ld_blt I hg hm PySem.boot_len (callWith_builtin1 (args_cons (Call_ (ld_blt I hg2 hm2 boot_set ?_)) rfl) rfl rfl))⟩
  refine callWith_type1 (args_cons (thn (ha.run pins s σ H _ I h) fun v s1 ⟨x, H1, I1, r1, q1⟩ => args_nil ?_) na) na rfl
  obtain ⟨l, zs, rfl, hq, hn, q1⟩ := q1
  cases r1
  have go : ∀ its : List Value, Vals (zs.map V.str) its → (s1.heap.IsList l its.toArray ∨ s1.heap.IsTuple l its.toArray) → its.length = zs.length := fun its r _ => by rw [← r.length, List.length_map]
  obtain ⟨its, r, pl⟩ : ∃ its : List Value, Vals (zs.map V.str) its ∧ (s1.heap.IsList l its.toArray ∨ s1.heap.IsTuple l its.toArray) := by
    rcases hq with hq | hq
    · obtain ⟨its, r, pl, _⟩ := I1.list hq; exact ⟨its, r, .inl pl.isList⟩
    · obtain ⟨its, r, pl, _⟩ := I1.tuple hq; exact ⟨its, r, .inr pl⟩
  have hl : its.toArray.size = zs.length := by rw [List.size_toArray, ← r.length, List.length_map]
  refine call_set_strs (I1.ok.hd hc) pl (xs := zs) (by simpa using strs_of_vals r) (by unfold scanBound; omega) fun h' tk hS hk => args_nil ?_
  rw [hl] at hS
  unfold Holds at hS
  rw [List.take_length] at hS
  obtain ⟨o, es, ep, t, ho, hex, hd, _, _, _, hf, hn2⟩ := hS
  have I2 : Inv X pins σ H1 { s1 with heap := h', toks := tk } := I1.kept fun b o e => hk b o (Heap.lt_size e) e
  have := met_len zs
  exact call_len_set ho hex hd hf (by rw [hn2] <;> omega) ⟨.int (met zs).length, H1, I2.tok _, ⟨_, by rw [hn2]⟩, q1⟩
end
end UL

set_option Elab.async false
set_option linter.all false
set_option maxRecDepth 100000
set_option maxHeartbeats 2000000
/-! own __getitem__, __setitem__, __iter__ -/
namespace UL
open PySem PySem.Spec PyProof.Rows L2
section
variable {X : Cx} {CX : CXT} {k : Nat} {C f a dx : Addr} {fs : List (Str × V)} {fd : FuncData} {ps : List Str} {sp : Sp} {E : XK} {pins : List (Addr × Obj)} {σ : L2.St} {H : Hp} {s : Shared}

/-- a def called one level down (in1), on values -/
theorem run_in1 {Q : VK} {us : List Value} {vs : List V} (F : FnOk X.prog X.w X.K X.mg X.base CX k f fd ps sp) (hr : Room (k + 1) X.A) (hb : Binds X.K fd ps []) (hx : Passes CX X E)
    (I : Inv X pins σ H s) (r : Vals vs us) (h : sp vs H Q E) : wpAny (model X.prog X.w) X.A.in1 (call (.ref f) us) (EP X pins σ Q) X.xe s := by
  have hl : (us ++ []).length = ps.length := by rw [List.append_nil, ← r.length]; exact F.len _ _ _ _ h
  have hb' := hb s us I.kIn hl
  rw [List.append_nil] at hb'
  refine wpAny_call (codeAny_mono (F.run X.A.in1 X.stack s H ⟨us, []⟩ us vs Q E hr.in1 I.env0.in1 hb' r h) fun r s' hq => ?_)
  match r, hq with
  | .error e, hq => exact hx pins σ H s e s' I hq
  | .ok (.ret u), hq => exact I.after hq
  | .ok .next, hq | .ok .brk, hq | .ok .cont, hq => exact hq.elim
theorem inst_of (I : Inv X pins σ H s) (e : H a = some (.ins C dx fs)) : ∃ od, PySem.W.InstAt s.heap a (PySem.W.instObj C dx) C (some od) := by
  obtain ⟨mA, O, _⟩ := ins_get I.hok e
  obtain ⟨od, J, _⟩ := O.look
  exact ⟨od, J⟩

/-! ### o[i] by an own __getitem__ -/
structure GetO (K : PySem.W.Frag) (C f : Addr) : Prop where
  at_ : PySem.W.findIn K (.ref C) "__getitem__" = some (some (.ref f))
  fn : PySem.W.fnIn K f = true
  is : PySem.W.isFn K (.ref f) = true
def tSubO (C : Addr) (sp : Sp) (E : XK) (ta tb : TE) : TE := fun σ H Q => ta σ H fun x H1 => tb σ H1 fun y H2 => ∃ a dx fs, x = .ref a ∧ H2 a = some (.ins C dx fs) ∧ sp [.ref a, y] H2 Q E
theorem pe_subO {ea eb : Expr} {ta tb : TE} {pos : Pos} (ha : PE X ea ta) (hb : PE X eb tb) (c : GetO X.K C f) (F : FnOk X.prog X.w X.K X.mg X.base CX k f fd ps sp) (hr : Room (k + 1) X.A) (bn : Binds X.K fd ps []) (hx : Passes CX X E)
    (hs : ∀ o i, subscripted eb true o i = runValue (.builtin "lifetime.subscript" ⟨[o, i], []⟩)) : PE X (.Subscript ea eb pos) (tSubO C sp E ta tb) := by
  refine ⟨fun pins s σ H Q I h => Subscript_ (binT ha hb I h fun v u s2 x y H2 I2 rx ry q => ?_)⟩
  obtain ⟨a, dx, fs, e, ho, q⟩ := q
  subst e
  cases rx
  obtain ⟨od, J⟩ := inst_of I2 ho
  obtain ⟨m, hF⟩ := I2.fr
  exact PySem.W.sub_K hF I2.ok.mod.kin J c.at_ c.fn c.is (run_in1 (us := [.ref a, u]) (vs := [.ref a, y]) F hr bn hx I2 (.cons rfl (.cons ry .nil)) q) (hs _ _)

/-! ### o[i] = v by an own __setitem__ -/
structure SetO_ (K : PySem.W.Frag) (C f : Addr) : Prop where
  sq : PySem.W.noSeq K C = true
  at_ : PySem.W.findIn K (.ref C) "__setitem__" = some (some (.ref f))
  is : PySem.W.isFn K (.ref f) = true
def rSetO (C : Addr) (sp : Sp) (E : XK) : TSet := fun o i v H Q => ∃ a dx fs, o = .ref a ∧ H a = some (.ins C dx fs) ∧ sp [.ref a, i, v] H (fun _ H' => Q H') E
theorem set_own (c : SetO_ X.K C f) (F : FnOk X.prog X.w X.K X.mg X.base CX k f fd ps sp) (hr : Room k X.A) (bn : Binds X.K fd ps []) (hx : Passes CX X E) : PSet X (rSetO C sp E) := by
  intro pins s σ H o i v ov iv u Q I ro ri rv h
  obtain ⟨a, dx, fs, e, ho, q⟩ := h
  subst e
  cases ro
  obtain ⟨od, J⟩ := inst_of I ho
  obtain ⟨m, hF⟩ := I.fr
  refine PySem.W.ksp_setItem hF I.ok.mod.kin J c.sq c.at_ c.is (thn (run_fn (us := [.ref a, iv, u]) (vs := [.ref a, i, v]) F hr bn .nil hx I (.cons rfl (.cons ri (.cons rv .nil))) q) fun z s' hz => ?_)
  obtain ⟨_, H', I', _, q'⟩ := hz
  exact ⟨H', I', q'⟩

/-! ### iter(a tuple) -/
def ItT (t it : Addr) (i : Nat) : HO := .ext fun h => h.IsTupleIter it t i
/-- something that nobody asks for any more -/
def Gone : HO := .ext fun _ => True
theorem itT_ok {P : Program} {w : World} {H : Hp} {h : Heap} {t it : Addr} {i : Nat} (e : h.IsTupleIter it t i) : ObjOk P w H h it (ItT t it i) := ⟨e, let ⟨o, z, _⟩ := e; ⟨o, z⟩, fun _ _ q k => q.at k⟩
def rIterT (K : PySem.W.Frag) : List V → Hp → VK → Prop := fun xs H Q => ∃ (t : Addr) (zs : List V), xs = [.ref t] ∧ SqT K H t zs ∧ ∀ it, H it = none → Q (.ref it) (upd H it (ItT t it 0))
theorem call_iterT : CallR X (.builtin "iter") (rIterT X.K) := by
  intro pins s σ H xs us Q I r h
  obtain ⟨t, zs, e, hq, q⟩ := h
  subst e
  obtain rfl := Vals.ref1 r
  obtain ⟨its, rv, pl, hz⟩ := I.tuple hq
  refine Calls.call_function_entry (by decide +kernel) (by decide +kernel) PySem.W.kdk_entry_iter (PySem.W.kdk_args_iter _) ?_
  unfold Builtin.«iter»
  refine wpAny_bind (m := someArgs "iter" 1 2 _) (wpAny_of_eq (a := [Value.ref t]) (by first | rfl | kernel_rfl!) (wpAny_bind (m := pyIter (.ref t)) (wpAny_pyIter_tuple (show s.heap.IsTuple t its.toArray from pl) (wpAny_pure ⟨_, rfl, ?_⟩))))
  exact ⟨.ref s.heap.objs.size, _, I.laid (t' := s.toks) (fun b u e => Heap.get?_push_of_some _ e) (Nat.le_refl _) (itT_ok ⟨_, Heap.get?_push_size _ rfl, rfl, rfl⟩), rfl, q _ (I.hok.fresh (Nat.le_refl _))⟩

/-! ### list(o), where o's own __iter__ hands back an iterator over a tuple -/
structure IterO (K : PySem.W.Frag) (C f : Addr) : Prop where
  it : PySem.W.findIn K (.ref C) "__iter__" = some (some (.ref f))
  is : PySem.W.isFn K (.ref f) = true
  nolen : PySem.W.findIn K (.ref C) "__len__" = some none
  nohint : PySem.W.findIn K (.ref C) "__length_hint__" = some none
def rListO (K : PySem.W.Frag) (C : Addr) (sp : Sp) (E : XK) : List V → Hp → VK → Prop := fun xs H Q => ∃ a dx fs, xs = [.ref a] ∧ H a = some (.ins C dx fs) ∧ ∀ q, H q = none →
  sp [.ref a] (upd H q (.lst [])) (fun v H1 => ∃ it t zs, v = .ref it ∧ H1 a = some (.ins C dx fs) ∧ H1 q = some (.lst []) ∧ H1 it = some (ItT t it 0) ∧ SqT K H1 t zs ∧ it ≠ t ∧ zs.length ≤ sizeLine ∧ Q (.ref q) (upd (upd H1 it Gone) q (.lst zs))) E
theorem next_tup : typeLookup (.type "tuple_iterator") "__next__" = pure (some (.builtin "tuple_iterator.__next__")) := by rw [typeLookup_type, builtinLookup_eq_fast]; kernel_rfl
theorem upd_self {H : Hp} {a : Addr} {o : HO} (h : H a = some o) : upd H a o = H := by
  funext b
  by_cases e : b = a
  · rw [e, upd_same, h]
  · rw [upd_ne e]
/-- a tuple's iterator at its end: it stays an object -/
theorem tup_end {A : Around} {E' : Value → Shared → Prop} {it t : Addr} {i : Nat} {items : Array Value} {Q : Option Value → Shared → Prop} (hh : A.handled = none) (hit : s.heap.IsTupleIter it t i) (ht : s.heap.IsTuple t items) (hx : items[i]? = none)
    (hQ : ∀ h', Heap.ExtBut it s.heap h' → (∃ o, h'.get? it = some o) → Q none { s with heap := h' }) : wpAny (model X.prog X.w) A (pyNext (.ref it)) Q E' s := by
  have ⟨o, ho, hc, hd⟩ := hit; have ⟨ol, hol, _, nl, hdl⟩ := ht
  have e0 : ¬ ((Value.ref t == Value.none) = true) := Bool.false_ne_true
  unfold pyNext
  refine wpAny_bind (wpAny_attempt (wpAny_callSpecial?_slot (name := Str.ofString "__next__") hit.typeIs PySem.F.slot_tuple_iterator_next (wpAny_call_entry PySem.F.slot_tuple_iterator_next hit.typeIs PySem.F.entry_tuple_iterator_next ?_ (PySem.F.args_tuple_iterator_next_1 _))))
  refine wpAny_bind (m := field (.ref it) 0) (wpAny_field ho hd (x := .ref t) rfl ?_)
  show wpAny _ _ (if (Value.ref t == Value.none) = true then _ else _) _ _ s; rw [if_neg e0]
  refine wpAny_bind (m := field (.ref it) 1) (wpAny_field ho hd (x := .int i 0) rfl (wpAny_bind (m := seqItems? (.ref t)) (wpAny_seqItems hol hdl ?_)))
  simp only [Int.toNat_natCast, hx]
  refine wpAny_bind (wpAny_rule (wpAny_bind (wpAny_setField ho hd (by simp) (wpAny_bind (m := newExc (.type "StopIteration") []) ?_))))
  simp only [newExc, newTuple]
  refine wpAny_bind (wpAny_newObj_type (wpAny_bind (m := firstArgMember _ _) (wpAny_of_eq (a := Value.none) (by first | rfl | (simp only [firstArgMember]; rfl)) (wpAny_newObj_type ?_ (by size_fits)))) (by size_fits))
  simp only [raiseNew]; refine wpAny_bind (wpAny_handled ?_); rw [show A.in1.handled = none from hh]
  refine wpAny_bind (wpAny_pure (wpAny_throw ?_)); refine wpAny_bind (wpAny_isInstance (T := "StopIteration") (b := true) ⟨_, Heap.get?_push_size _ rfl, rfl⟩ isSubtype_stop (wpAny_pure (hQ _ (((Heap.SameBut.update ..).extBut.push _).push _) ?_)))
  exact ⟨_, Heap.get?_push_of_some _ (Heap.get?_push_of_some _ (Heap.get?_update_self _ ho (by obtain ⟨c, d, dt, sl⟩ := o; simp only at hd; subst hd; rfl)))⟩
section
variable {A1 : Around} {q it t : Addr} {zs : List V} {Rs : Result → Shared → Prop} {Q : VK}
/-- the tracked iterator has turned -/
theorem Inv.turnT {h' : Heap} {o : HO} {t' : Nat} (I : Inv X pins σ H s) (hi : ∃ j, H it = some (ItT t it j)) (k : ∀ b u, b ≠ it → s.heap.get? b = some u → h'.get? b = some u) (hs : ∃ u, h'.get? it = some u) (new : ObjOk X.prog X.w (upd H it o) h' it o) :
    Inv X pins σ (upd H it o) { s with heap := h', toks := t' } := by
  obtain ⟨j, hi⟩ := hi
  exact I.write (by rw [hi]; exact trivial) (.inl rfl) k hs new
/-- the rest of the tuple's items is pushed onto the list at q -/
theorem push_tup (hA : A1.in1.handled = none) (hq0 : q ≠ it) (hne : t ≠ it) (hz : zs.length ≤ sizeLine) (h : ∀ s' H', Inv X pins σ (upd (upd H' it Gone) q (.lst zs)) s' → (∀ b, b ≠ it → b ≠ q → H' b = H b) → Rs (.ok (.ret .none)) s') (ht : ∀ H', (∀ b, b ≠ it → b ≠ q → H' b = H b) → SqT X.K H' t zs) :
    ∀ (d i : Nat) (s : Shared) (H' : Hp), i + d = zs.length → (∀ b, b ≠ it → b ≠ q → H' b = H b) → Inv X pins σ H' s → H' q = some (.lst (zs.take i)) → H' it = some (ItT t it i) → codeAny (model X.prog X.w) A1 (.builtin "list.extend.loop" ⟨[.ref q, .ref it, .none], []⟩) Rs s := by
  intro d
  induction d with
  | zero =>
    intro i s H' e same I hq hi
    obtain ⟨its, rv, pl, _⟩ := I.tuple (ht H' same)
    have hlen := rv.length
    refine codeAny_builtin PySem.F.entry_extend_loop ?_; rw [Around.under_plainId PySem.F.plain_extend_loop _]
    refine wpAny_bind (m := pyNext (.ref it)) (tup_end hA ((I.hok it _ hi).1) (show s.heap.IsTuple t its.toArray from pl) (by simp; omega) fun h' eb ex => wpAny_pure ?_)
    have I2 := Inv.turnT (h' := h') (o := Gone) (t' := s.toks) I ⟨i, hi⟩ (fun b u n z => eb b u n z) ex ⟨trivial, ex, fun _ _ _ _ => trivial⟩
    have hq2 : upd H' it Gone q = some (.lst zs) := by rw [upd_ne hq0, hq, show i = zs.length by omega, List.take_length]
    exact h _ H' (by rw [upd_self hq2]; exact I2) same
  | succ d ih =>
    intro i s H' e same I hq hi
    obtain ⟨its, rv, pl, _⟩ := I.tuple (ht H' same)
    have hlen := rv.length
    have lt : i < zs.length := by omega
    obtain ⟨u, hu, ru⟩ := rv.get (i := i) (x := zs[i]) (by simp [lt])
    refine codeAny_builtin PySem.F.entry_extend_loop ?_; rw [Around.under_plainId PySem.F.plain_extend_loop _]
    refine wpAny_bind (m := pyNext (.ref it)) (wpAny_pyNext_tuple_item ((I.hok it _ hi).1) (show s.heap.IsTuple t its.toArray from pl) (x := u) (by simpa using hu) fun h' st' sb => ?_)
    have I2 := Inv.turnT (h' := h') (o := ItT t it (i + 1)) (t' := s.toks) I ⟨i, hi⟩ (fun b u n z => (sb.2 b n).trans z) (let ⟨o, z, _⟩ := st'; ⟨o, z⟩) (itT_ok st')
    have hq2 : upd H' it (ItT t it (i + 1)) q = some (.lst (zs.take i)) := by rw [upd_ne hq0, hq]
    obtain ⟨z, its2, k2, r2, hl2, e2⟩ := I2.lstM hq2
    have hl3 : its2.length = i := by rw [← hl2, List.length_take]; omega
    have ht2 : zs.take (i + 1) = zs.take i ++ [zs[i]] := by simp
    refine wpAny_bind (m := updateSeq q (·.push u)) (wpAny_updateSeq e2 rfl (wpAny_pure ⟨plainId_quiet PySem.F.plain_extend_loop _, ?_⟩) (by rw [List.size_toArray]; omega) (by show (its2.toArray.push u).size ≤ sizeLine + 1; rw [Array.size_push, List.size_toArray]; omega))
    have I3 := I2.lset (f := (·.push u)) (its' := its2 ++ [u]) (ys := zs.take i ++ [zs[i]]) (t' := s.toks) hq2 e2 (by simp) (r2.append (.cons ru .nil)) (by rw [← ht2, List.length_take]; omega)
    refine ih (i + 1) _ _ (by omega) (fun b n1 n2 => by rw [upd_ne n2, upd_ne n1]; exact same b n1 n2) I3 (by rw [upd_same, ht2]) (by rw [upd_ne (Ne.symm hq0), upd_same])
end
/-- nothing is said of the length -/
theorem no_hint {M : Model} {A : Around} {E' : Value → Shared → Prop} {Q : Bool → Shared → Prop} {g : Addr} {ox : Obj} {od : Option Obj} (c : IterO X.K C g) (hK : X.K.In s.heap) (J : PySem.W.InstAt s.heap a ox C od) (h : Q true s) :
    wpAny M A (Builtin.List.listLengthHint (.ref a)) Q E' s := by
  unfold Builtin.List.listLengthHint
  refine wpAny_bind (wpAny_bind (J.type.here ((PySem.W.looks_findIn hK c.nolen).here (PySem.W.KFB.if_not rfl (PySem.W.KFB.if_not rfl ?_)))))
  exact wpAny_bind (wpAny_bind (J.type.here ((PySem.W.looks_findIn hK c.nohint).here (wpAny_pure h))))
theorem call_listO (c : IterO X.K C f) (F : FnOk X.prog X.w X.K X.mg X.base CX k f fd ps sp) (bn : Binds X.K fd ps []) (hx : Passes CX X E) (hr : Room (k + 2) X.A) : CallR X (.type "list") (rListO X.K C sp E) := by
  intro pins s σ H xs us Q I rv h
  obtain ⟨a, dx, fs, e, ha, hq⟩ := h
  subst e
  obtain ⟨u, rfl, ru⟩ := rv.one
  cases ru
  refine callType_codes (Q₁ := fun obj s₁ => obj = .ref s.heap.objs.size ∧ s₁ = { s with heap := s.heap.push { cls := .type "list", data := .seq #[] } }) PySem.F.called_list (PySem.F.typeCall_list_1 _) PySem.F.entry_list_init (code_list_new _ ⟨rfl, rfl⟩) fun obj s₁ h₁ => ?_
  obtain ⟨e1, e2⟩ := h₁
  subst e1 e2
  have fr : H s.heap.objs.size = none := I.fresh
  have hS : (s.heap.push { cls := .type "list", data := .seq #[] }).get? s.heap.objs.size = some { cls := .type "list", data := .seq #[] } := Heap.get?_push_size _ rfl
  refine ⟨⟨_, hS, rfl⟩, PySem.F.args_list_init_2 _ _, ?_⟩
  have I1 := Inv.lnew (its := []) (ys := []) (t' := s.toks) I .nil (Nat.zero_le _)
  show wpAny _ _ (Builtin.List.listItems (.ref s.heap.objs.size) >>= fun old => Builtin.List.listUpdate (.ref s.heap.objs.size) (fun _ => #[]) >>= fun _ => letGo old.toList.reverse >>= fun _ => Builtin.List.listExtendWith (.ref s.heap.objs.size) (.ref a) .none) _ _ _
  refine wpAny_bind (m := Builtin.List.listItems _) ?_; unfold Builtin.List.listItems; refine wpAny_bind (wpAny_seqItems hS rfl (wpAny_pure ?_))
  refine wpAny_bind (m := updateSeq s.heap.objs.size (fun _ => #[])) (wpAny_updateSeq hS rfl (wpAny_bind (wpAny_letGo ?_)))
  have I2 := I1.lset (f := fun _ => #[]) (its := []) (its' := []) (ys := []) (t' := s.toks) upd_same hS rfl .nil (Nat.zero_le _)
  rw [upd_upd] at I2
  have nq : a ≠ s.heap.objs.size := ne_of_none ha fr
  have ha2 : upd H s.heap.objs.size (.lst []) a = some (.ins C dx fs) := by rw [upd_ne nq]; exact ha
  obtain ⟨od, J⟩ := inst_of I2 ha2
  obtain ⟨m0, hF⟩ := I2.fr
  unfold Builtin.List.listExtendWith
  refine wpAny_bind (J.type.here ?_)
  have h1 : Builtin.List.listSameRef (.ref s.heap.objs.size) (.ref a) = false := by simp [Builtin.List.listSameRef, Ne.symm nq]
  have h2 : (Value.ref C == Value.type "list") = false := rfl
  have h3 : (Value.ref C == Value.type "tuple") = false := rfl
  simp only [h1, h2, h3, Bool.or_false, Bool.false_eq_true, if_false]
  have hsp := hq _ fr
  have hl : ([Value.ref a] ++ []).length = ps.length := by rw [← F.len _ _ _ _ hsp]; rfl
  have hr2 : Room k X.A.in1.in1 := (Room.in1 (k := k) (Room.in1 (k := k + 1) hr))
  refine wpAny_bind (PySem.W.owit_iter hF I2.ok.mod.kin J c.it c.is (wpAny_call (codeAny_mono (F.run X.A.in1.in1 X.stack _ _ ⟨[.ref a], []⟩ [.ref a] [.ref a] _ E hr2 I2.env0.in1.in1 (by have z := bn _ [.ref a] I2.kIn hl; simpa using z) (.cons rfl .nil) hsp) fun r s' hr' => ?_)))
  match r, hr' with
  | .error e, hr' => exact hx pins σ _ _ e s' I2 hr'
  | .ok .next, hr' | .ok .brk, hr' | .ok .cont, hr' => exact hr'.elim
  | .ok (.ret u), hr' =>
    obtain ⟨v, H', I', rv2, it, t, zs, ev, ha', hq', hi', ht', hne, hz, q⟩ := I2.after hr'
    subst ev
    cases rv2
    have hit : s'.heap.IsTupleIter it t 0 := (I'.hok it _ hi').1
    have nqi : s.heap.objs.size ≠ it := ne_of hq' hi' (fun z => nomatch z)
    unfold PySem.W.OwitIt
    refine wpAny_specialOf hit.typeIs next_tup ?_
    obtain ⟨od', J'⟩ := inst_of I' ha'
    refine wpAny_bind (wpAny_holding (no_hint c I'.kIn J' ?_))
    have nqt : s.heap.objs.size ≠ t := by
      rintro e
      obtain ⟨its, _, ⟨o, z, cl, _⟩, _⟩ := I'.tuple ht'
      obtain ⟨_, _, _, _, _, e0⟩ := I'.lstM hq'
      rw [← e, e0] at z
      cases z
      exact absurd cl (by show Value.type "list" ≠ .type "tuple"; decide +kernel)
    have go : ∀ s2, Inv X pins σ H' s2 → codeAny (model X.prog X.w) X.A.in1 (.builtin "list.extend.loop" ⟨[.ref s.heap.objs.size, .ref it, .none], []⟩) (wants (fun r s₂ => r = .none ∧ EP X pins σ Q (.ref s.heap.objs.size) s₂) X.xe) s2 := fun s2 J2 => by
      refine push_tup (A1 := X.A.in1) (zs := zs) (t := t) (H := H') hr.hd nqi (Ne.symm hne) hz (fun s3 H3 I3 sm => ⟨rfl, .ref s.heap.objs.size, _, I3, rfl, ?_⟩) (fun H3 sm => ?_) zs.length 0 s2 H' (by omega) (fun _ _ _ => rfl) J2 hq' hi'
      · rcases ht' with (z | ⟨o, z⟩) | z
        · exact .inl (.inl ((sm t (Ne.symm hne) (Ne.symm nqt)).trans z))
        · exact .inl (.inr ⟨o, (sm t (Ne.symm hne) (Ne.symm nqt)).trans z⟩)
        · exact .inr z
      · have e : upd (upd H3 it Gone) s.heap.objs.size (.lst zs) = upd (upd H' it Gone) s.heap.objs.size (.lst zs) := by
          funext b
          by_cases e1 : b = s.heap.objs.size
          · rw [e1, upd_same, upd_same]
          · rw [upd_ne e1, upd_ne e1]
            by_cases e2 : b = it
            · rw [e2, upd_same, upd_same]
            · rw [upd_ne e2, upd_ne e2, sm b e2 e1]
        rw [e]
        exact q
    refine wpAny_ite_split (fun _ => ?_) (fun _ => wpAny_pure ⟨plainId_quiet PySem.F.plain_extend_loop _, go _ I'⟩)
    -- a place is made and given back
    obtain ⟨z, its, k3, r3, hl3, e3⟩ := I'.lstM hq'
    cases r3
    refine wpAny_bind (wpAny_rule (wpAny_bind (m := updateSeq _ (·.push .none) >>= fun _ => updateSeq _ (·.pop)) (wpAny_bind (wpAny_updateSeq e3 rfl ?_))))
    have I3 := I'.lset (f := (·.push Value.none)) (its' := [Value.none]) (ys := [.non]) (t' := s'.toks) hq' e3 (by simp) (.cons rfl .nil) (by rw [List.length_singleton, sizeLine_eq]; decide)
    obtain ⟨z4, its4, k4, r4, hl4, e4⟩ := I3.lstM upd_same
    obtain ⟨u4, rfl, ru4⟩ := r4.one
    refine wpAny_updateSeq e4 rfl ?_ (by show 1 ≤ sizeLine; rw [sizeLine_eq]; decide) (by show 0 ≤ sizeLine + 1; exact Nat.zero_le _)
    have I4 := I3.lset (f := (·.pop)) (its := [u4]) (its' := []) (ys := []) (t' := s'.toks) upd_same e4 (by rfl) .nil (Nat.zero_le _)
    rw [upd_upd, upd_self hq'] at I4
    exact wpAny_pure ⟨plainId_quiet PySem.F.plain_extend_loop _, go _ I4⟩
end
end UL

set_option Elab.async false
set_option linter.all false
set_option maxRecDepth 100000
set_option maxHeartbeats 2000000
/-! zip of two sequences of any two kinds; yield from a list -/
namespace UL
open PySem PySem.Spec PyProof.Rows L2
inductive Kd where | l | t
def Kd.Iter : Kd → Heap → Addr → Addr → Nat → Prop
  | .l, h, it, a, i => h.IsListIter it a i
  | .t, h, it, a, i => h.IsTupleIter it a i
def Kd.Is : Kd → Heap → Addr → Array Value → Prop
  | .l, h, a, xs => h.IsList a xs
  | .t, h, a, xs => h.IsTuple a xs
def Kd.Sq : Kd → PySem.W.Frag → Hp → Addr → List V → Prop
  | .l, K, H, a, xs => SqL K H a xs
  | .t, K, H, a, xs => SqT K H a xs
def Kd.obj : Kd → Addr → Obj
  | .l, a => { cls := .type "list_iterator", data := .fields #[.ref a, .int 0 0] }
  | .t, a => { cls := .type "tuple_iterator", data := .fields #[.ref a, .int 0 0] }
theorem Kd.begins (k : Kd) (a : Addr) (xs : Array Value) : Begins (.ref a) (k.obj a) fun h => k.Is h a xs := match k with
  | .l => begins_list a xs
  | .t => begins_tuple a xs
theorem Kd.start (k : Kd) {h : Heap} {it a : Addr} (e : h.get? it = some (k.obj a)) : k.Iter h it a 0 := match k, e with
  | .l, e => ⟨_, e, rfl, rfl⟩
  | .t, e => ⟨_, e, rfl, rfl⟩
theorem Kd.iterAt (k : Kd) {h h' : Heap} {it a : Addr} {i : Nat} (x : k.Iter h it a i) (f : ∀ o, h.get? it = some o → h'.get? it = some o) : k.Iter h' it a i := match k, x with
  | .l, x => Heap.IsListIter.at x f
  | .t, x => Heap.IsTupleIter.at x f
theorem Kd.isAt (k : Kd) {h h' : Heap} {a : Addr} {xs : Array Value} (x : k.Is h a xs) (f : ∀ o, h.get? a = some o → h'.get? a = some o) : k.Is h' a xs := match k, x with
  | .l, x => Heap.IsList.at x f
  | .t, x => Heap.IsTuple.at x f
theorem Kd.iterObj (k : Kd) {h : Heap} {it a : Addr} {i : Nat} (x : k.Iter h it a i) : ∃ o, h.get? it = some o ∧ ∀ v, o.data ≠ .cell v := match k, x with
  | .l, ⟨o, e, _, d⟩ => ⟨o, e, fun v q => by rw [d] at q; cases q⟩
  | .t, ⟨o, e, _, d⟩ => ⟨o, e, fun v q => by rw [d] at q; cases q⟩
theorem Kd.draws (k : Kd) {prog : Program} {w : World} {A : Around} (hh : A.handled = none) (it a : Addr) (ne : a ≠ it) (xs : Array Value) : Draws prog w A it [it, a] xs.size (fun i v => xs[i]? = some v) (fun i h => k.Iter h it a i ∧ k.Is h a xs) := match k with
  | .l => Draws.list hh it a ne xs
  | .t => Draws.tuple hh it a ne xs
section
variable {X : Cx} {pins : List (Addr × Obj)} {σ : L2.St} {H : Hp} {s : Shared} {a : Addr} {xs ys : List V}
theorem Kd.read (k : Kd) (I : Inv X pins σ H s) (h : k.Sq X.K H a xs) : ∃ its : List Value, Vals xs its ∧ k.Is s.heap a its.toArray := match k, h with
  | .l, h => let ⟨its, r, p, _⟩ := I.list h; ⟨its, r, p.isList⟩
  | .t, h => let ⟨its, r, p, _⟩ := I.tuple h; ⟨its, r, p⟩
theorem Kd.inj (k : Kd) (I : Inv X pins σ H s) (h : k.Sq X.K H a xs) (h' : k.Sq X.K H a ys) : xs = ys := match k, h, h' with
  | .l, h, h' => I.list_inj h h'
  | .t, h, h' => I.tuple_inj h h'
theorem Kd.lt (k : Kd) {h : Heap} {xs : Array Value} (x : k.Is h a xs) : a < h.objs.size := match k, x with
  | .l, ⟨_, e, _⟩ => Heap.lt_size e
  | .t, ⟨_, e, _⟩ => Heap.lt_size e
end
/-- the items of the two at each turn, in new pairs -/
def ItzK (k1 k2 : Kd) (K : PySem.W.Frag) (a b : Addr) : It :=
  ⟨fun i H => ∃ (xs ys : List V) (x y : V), k1.Sq K H a xs ∧ k2.Sq K H b ys ∧ xs[i]? = some x ∧ ys[i]? = some y,
    fun i H v H' => ∃ T x y, v = .ref T ∧ H T = none ∧ H' = upd H T (.tup [x, y]) ∧ (∀ xs, k1.Sq K H a xs → xs[i]? = some x) ∧ ∀ ys, k2.Sq K H b ys → ys[i]? = some y,
    fun i H => ∃ xs ys : List V, k1.Sq K H a xs ∧ k2.Sq K H b ys ∧ i ≤ xs.length ∧ i ≤ ys.length ∧ (xs.length = i ∨ ys.length = i)⟩
theorem turn_zipK {P : Program} {w : World} {K : PySem.W.Frag} {elts : List Expr} {kk : Nat} {tpos : Pos} {k1 k2 : Kd} {a b z TI TO i1 i2 : Addr} (S : ZipSep2 z TI TO i1 i2 [i1, a] [i2, b]) (na : a ≠ i1) (nb : b ≠ i2) :
    Turn P w K (.Tuple elts kk tpos) (ItzK k1 k2 K a b) [z, TI, TO, i1, i2] z (fun i h => IsZip h z TI TO .none ∧ IsTupOf2 h TI (.ref i1) (.ref i2) ∧ (∃ x y, IsTupOf2 h TO x y) ∧ k1.Iter h i1 a i ∧ k2.Iter h i2 b i) where
  mem := by simp
  obj := fun i h st c hc => by
    obtain ⟨hz, hTI, ⟨x, y, hTO⟩, h1, h2⟩ := st
    simp only [List.mem_cons, List.not_mem_nil, or_false] at hc
    rcases hc with q | q | q | q | q <;> subst q
    · exact ⟨_, hz, fun v q => nomatch q⟩
    · exact ⟨_, hTI, fun v q => nomatch q⟩
    · exact ⟨_, hTO, fun v q => nomatch q⟩
    · exact k1.iterObj h1
    · exact k2.iterObj h2
  keep := fun i h h' st k => by
    obtain ⟨hz, hTI, ⟨x, y, hTO⟩, h1, h2⟩ := st
    exact ⟨k z (by simp) _ hz, k TI (by simp) _ hTI, ⟨x, y, k TO (by simp) _ hTO⟩, k1.iterAt h1 fun o q => k i1 (by simp) o q, k2.iterAt h2 fun o q => k i2 (by simp) o q⟩
  item := by
    intro X hP hw hK hc i pins s σ H E I hf st hg
    subst hP hw hK
    obtain ⟨hz, hTI, ⟨x0, y0, hTO⟩, h1, h2⟩ := st
    obtain ⟨xs, ys, x, y, hqx, hqy, hx, hy⟩ := hg
    obtain ⟨its, rv, p⟩ := k1.read I hqx
    obtain ⟨its2, rv2, p2⟩ := k2.read I hqy
    obtain ⟨u, hu, ru⟩ := rv.get hx
    obtain ⟨u2, hu2, ru2⟩ := rv2.get hy
    have hzl : z < s.heap.objs.size := Heap.lt_size hz
    have l1 : i < its.toArray.size := by rw [List.size_toArray]; exact (List.getElem?_eq_some_iff.mp hu).1
    have l2 : i < its2.toArray.size := by rw [List.size_toArray]; exact (List.getElem?_eq_some_iff.mp hu2).1
    have hh : X.A.in1.handled = none := I.ok.hd hc
    refine wpAny_pyNext_zipD2_item S (k1.draws hh i1 a na its.toArray) (k2.draws hh i2 b nb its2.toArray) hz hTI hTO ⟨h1, p⟩ ⟨h2, p2⟩ l1 l2 fun x1 x2 h' tk q1 q2 z' TO' st1 st2 hT hsz hk => ?_
    have e1 : x1 = u := by rw [List.getElem?_toArray, hu] at q1; exact (Option.some.inj q1).symm
    have e2 : x2 = u2 := by rw [List.getElem?_toArray, hu2] at q2; exact (Option.some.inj q2).symm
    subst e1 e2
    refine ⟨_, rfl, wpAny_letOwnedTupleGo_zip (s := { s with heap := h', toks := tk }) z' fun h'' z'' sb => ?_⟩
    have hT2 := (sb.2 _ (Nat.ne_of_gt hzl)).trans hT
    have all : ∀ c o, c ∉ [z, TI, TO, i1, i2] → s.heap.get? c = some o → h''.get? c = some o := fun c o hb q => by
      simp only [List.mem_cons, List.not_mem_nil, or_false, not_or] at hb
      exact (sb.2 c hb.1).trans (hk c o hb.1 hb.2.2.1 hb.2.2.2.1 hb.2.2.2.2 q)
    have I1 := I.turnedNew (ob := .tup [x, y]) (h' := h'') (t' := tk) all hf (Nat.le_refl _) ⟨by show 2 ≤ sizeLine; decide, [x1, x2], .cons ru (.cons ru2 .nil), ⟨_, hT2, rfl, _, rfl⟩⟩
    refine ⟨.ref s.heap.objs.size, _, I1, rfl, ⟨_, x, y, rfl, I.hok.fresh (Nat.le_refl _), rfl, fun l hl => by rw [k1.inj I hl hqx]; exact hx, fun l hl => by rw [k2.inj I hl hqy]; exact hy⟩, ⟨z'', ?_, ⟨x1, x2, ?_⟩, ?_, ?_⟩, fun c hcm => ?_⟩
    · exact (sb.2 _ S.TIz).trans (hk _ _ S.TIz S.TITO S.TIi1 S.TIi2 hTI)
    · exact (sb.2 _ S.TOz).trans TO'
    · exact k1.iterAt st1.1 fun o q => (sb.2 _ S.zi1.symm).trans q
    · exact k2.iterAt st2.1 fun o q => (sb.2 _ S.zi2.symm).trans q
    · rw [upd_ne (fun e => ?_)]
      · exact (hf c hcm).1
      · subst e
        simp only [List.mem_cons, List.not_mem_nil, or_false] at hcm
        obtain ⟨_, e1, _⟩ := k1.iterObj h1; obtain ⟨_, e2, _⟩ := k2.iterObj h2
        have g1 := Heap.lt_size e1; have g2 := Heap.lt_size e2; have g3 := Heap.lt_size hTI; have g4 := Heap.lt_size hTO
        rcases hcm with q | q | q | q | q
        · exact absurd q (Nat.ne_of_gt hzl)
        · exact absurd q (Nat.ne_of_gt g3)
        · exact absurd q (Nat.ne_of_gt g4)
        · exact absurd q (Nat.ne_of_gt g1)
        · exact absurd q (Nat.ne_of_gt g2)
  done := by
    intro X hP hw hK hc i pins s σ H E I hf st hg
    subst hP hw hK
    obtain ⟨hz, hTI, ⟨x0, y0, hTO⟩, h1, h2⟩ := st
    obtain ⟨xs, ys, hqx, hqy, le1, le2, hend⟩ := hg
    obtain ⟨its, rv, p⟩ := k1.read I hqx
    obtain ⟨its2, rv2, p2⟩ := k2.read I hqy
    have l1 : xs.length = its.toArray.size := by rw [List.size_toArray]; exact rv.length
    have l2 : ys.length = its2.toArray.size := by rw [List.size_toArray]; exact rv2.length
    have hh : X.A.in1.handled = none := I.ok.hd hc
    refine wpAny_pyNext_zipD2_end S (k1.draws hh i1 a na its.toArray) (k2.draws hh i2 b nb its2.toArray) hz hTI hTO ⟨h1, p⟩ ⟨h2, p2⟩ (by omega) (by omega) (by omega) fun h' tk hk => ⟨rfl, I.turnedL (t' := tk) (ch := [z, TI, TO, i1, i2]) (fun c o hb q => ?_) hf⟩
    simp only [List.mem_cons, List.not_mem_nil, or_false, not_or] at hb
    exact hk c o hb.1 hb.2.2.1 hb.2.2.2.1 hb.2.2.2.2 q
  self := fun A i s Q E st h => wpAny_pyIter_zip st.1 h
def iZipK (k1 k2 : Kd) (K : PySem.W.Frag) (ta : TA) : TI := fun σ H R => ta σ H fun vs H1 => ∃ a b xs ys, vs = [.ref a, .ref b] ∧ k1.Sq K H1 a xs ∧ k2.Sq K H1 b ys ∧ R (ItzK k1 k2 K a b) H1
theorem zip_it {X : Cx} {pins : List (Addr × Obj)} {σ : L2.St} {H : Hp} {s : Shared} {R : It → Hp → Prop} {elts : List Expr} {kk : Nat} {tpos : Pos} (k1 k2 : Kd) {a b : Addr} {xs ys : List V} (I : Inv X pins σ H s) (hx : k1.Sq X.K H a xs) (hy : k2.Sq X.K H b ys) (q : R (ItzK k1 k2 X.K a b) H) :
    wpAny (model X.prog X.w) X.A (call (.type "zip") [.ref a, .ref b]) (fun v s1 => wpAny (model X.prog X.w) X.A (pyIter v) (PIE X pins σ (.Tuple elts kk tpos) R) X.xe s1) X.xe s := by
  obtain ⟨its, rv, p⟩ := k1.read I hx
  obtain ⟨its2, rv2, p2⟩ := k2.read I hy
  have la := k1.lt p; have lb := k2.lt p2
  refine zip_begins2 (k1.begins a its.toArray) (k2.begins b its2.toArray) p p2 fun h' hz hTI hTO g1 g2 hsz hk => wpAny_pyIter_zip hz ?_
  have ns : ∀ j c : Nat, c < s.heap.objs.size → c ≠ s.heap.objs.size + j := fun j c h => by omega
  have S : ZipSep2 (s.heap.objs.size + 4) (s.heap.objs.size + 2) (s.heap.objs.size + 3) s.heap.objs.size (s.heap.objs.size + 1) [s.heap.objs.size, a] [s.heap.objs.size + 1, b] := by
    have a0 := ns 0 a la; have a1 := ns 1 a la; have a3 := ns 3 a la; have a4 := ns 4 a la
    have b0 := ns 0 b lb; have b3 := ns 3 b lb; have b4 := ns 4 b lb
    generalize s.heap.objs.size = n at *
    refine ⟨?_, ?_, ?_, ?_, ?_, ?_, ?_, ?_, ?_, ?_, ?_, ?_, ?_⟩ <;> (try simp only [List.mem_cons, List.not_mem_nil, or_false, not_or, true_or]) <;> (try trivial) <;> (first | (show ¬ (_ : Nat) = _; omega) | (refine ⟨?_, ?_⟩ <;> (show ¬ (_ : Nat) = _; omega)) | trivial)
  refine ⟨s.heap.objs.size + 4, [s.heap.objs.size + 4, s.heap.objs.size + 2, s.heap.objs.size + 3, s.heap.objs.size, s.heap.objs.size + 1], _, _, H, rfl, I.kept (t' := s.toks) hk, turn_zipK S (by have := ns 0 a la; simpa using this) (ns 1 b lb), ⟨hz, hTI, ⟨_, _, hTO⟩, k1.start g1, k2.start g2⟩, fun c hc => ?_, q⟩
  have hle : s.heap.objs.size ≤ c := by
    simp only [List.mem_cons, List.not_mem_nil, or_false] at hc
    rcases hc with z | z | z | z | z <;> subst z <;> first | exact Nat.le_add_right _ _ | exact Nat.le_refl _
  exact I.fpOk hle (I.hok.fresh hle)
/-- zip(a, b): whatever of lists and tuples they are -/
theorem pi_zipK {X : Cx} {e e2 : Expr} {ta : TA} {p pos tpos : Pos} {elts : List Expr} {kk : Nat} (k1 k2 : Kd) (hg : Gl X "zip") (hm : X.mg "zip" = none) (ha : PA X [e, e2] ta)
    (hs : starEach [e, e2] X.env = (false, eval e X.env) :: starEach [e2] X.env := by rfl) (hpl : (backTo pos (starEach [e2] X.env)).any (·.1) = false := by rfl) :
    PI X (.Tuple elts kk tpos) (.Call (.Name "zip" p) [e, e2] [] pos) (iZipK k1 k2 X.K ta) := by
  refine ⟨fun pins s σ H R I h => Call_ (ld_blt I hg hm boot_zip (callWith_type1 (thn (ha.run pos pins s σ H _ I h) fun us s1 ⟨vs, H1, I1, r1, q1⟩ => ?_) hs hpl))⟩
  obtain ⟨a, b, xs, ys, e, hx, hy, q⟩ := q1
  subst e
  obtain ⟨u, w', rfl, ru, rw'⟩ := vals2 r1
  cases ru; cases rw'
  exact zip_it k1 k2 I1 hx hy q
/-- the same where either kind may come -/
def iZipB (K : PySem.W.Frag) (ta : TA) : TI := fun σ H R => ta σ H fun vs H1 => ∃ a b xs ys k1 k2, vs = [.ref a, .ref b] ∧ Kd.Sq k1 K H1 a xs ∧ Kd.Sq k2 K H1 b ys ∧ R (ItzK k1 k2 K a b) H1
theorem pi_zipB {X : Cx} {e e2 : Expr} {ta : TA} {p pos tpos : Pos} {elts : List Expr} {kk : Nat} (hg : Gl X "zip") (hm : X.mg "zip" = none) (ha : PA X [e, e2] ta)
    (hs : starEach [e, e2] X.env = (false, eval e X.env) :: starEach [e2] X.env := by rfl) (hpl : (backTo pos (starEach [e2] X.env)).any (·.1) = false := by rfl) :
    PI X (.Tuple elts kk tpos) (.Call (.Name "zip" p) [e, e2] [] pos) (iZipB X.K ta) := by
  refine ⟨fun pins s σ H R I h => Call_ (ld_blt I hg hm boot_zip (callWith_type1 (thn (ha.run pos pins s σ H _ I h) fun us s1 ⟨vs, H1, I1, r1, q1⟩ => ?_) hs hpl))⟩
  obtain ⟨a, b, xs, ys, k1, k2, e, hx, hy, q⟩ := q1
  subst e
  obtain ⟨u, w', rfl, ru, rw'⟩ := vals2 r1
  cases ru; cases rw'
  exact zip_it k1 k2 I1 hx hy q
/-- a loop over two sequences of one length that stay as they are -/
theorem for_zipK {K : PySem.W.Frag} {k1 k2 : Kd} {a b : Addr} {xs ys : List V} {g : TG} {tb : TS} {D : Ends} {σ : L2.St} {H : Hp} (hl : xs.length = ys.length) (Pv : Nat → L2.St → Hp → Prop) (h0 : Pv 0 σ H) (hq : ∀ i σ H, Pv i σ H → k1.Sq K H a xs ∧ k2.Sq K H b ys)
    (hs : ∀ (i : Nat) (x y : V) (T : Addr) (σ : L2.St) (H : Hp), xs[i]? = some x → ys[i]? = some y → Pv i σ H → H T = none → g (.ref T) σ (upd H T (.tup [x, y])) fun σ2 H2 => tb { D with nx := Pv (i + 1), ct := Pv (i + 1), bk := D.nx } σ2 H2) (hd : ∀ σ H, Pv xs.length σ H → D.nx σ H) :
    ∃ W : Nat → Nat → L2.St → Hp → Prop, (∃ m, W 0 m σ H) ∧ ∀ i m σ H, W i m σ H →
      ((ItzK k1 k2 K a b).stop i H ∧ D.nx σ H) ∨ ((ItzK k1 k2 K a b).go i H ∧ ∃ N : L2.St → Hp → Prop, (∀ σ' H', N σ' H' → ∃ m', m' < m ∧ W (i + 1) m' σ' H') ∧ ∀ x H', (ItzK k1 k2 K a b).yld i H x H' → g x σ H' fun σ2 H2 => tb { D with nx := N, ct := N, bk := D.nx } σ2 H2) := by
  refine ⟨fun i m σ H => m = xs.length - i ∧ i ≤ xs.length ∧ Pv i σ H, ⟨xs.length, by simp, Nat.zero_le _, h0⟩, ?_⟩
  rintro i m σ H ⟨rfl, hi, p⟩
  obtain ⟨q1, q2⟩ := hq i σ H p
  by_cases lt : i < xs.length
  · have lt2 : i < ys.length := by omega
    refine .inr ⟨⟨xs, ys, xs[i], ys[i], q1, q2, by simp [lt], by simp [lt2]⟩, Pv (i + 1), fun σ' H' p' => ⟨xs.length - (i + 1), by omega, rfl, lt, p'⟩, fun x H' y => ?_⟩
    obtain ⟨T, x1, y1, e, hT, e2, z1, z2⟩ := y
    subst e e2
    exact hs i x1 y1 T σ H (z1 xs q1) (z2 ys q2) p hT
  · have e : i = xs.length := by omega
    subst e
    exact .inl ⟨⟨xs, ys, q1, q2, Nat.le_refl _, by omega, .inl rfl⟩, hd σ H p⟩
end UL

set_option Elab.async false
set_option linter.all false
set_option maxRecDepth 100000
set_option maxHeartbeats 2000000
/-! yield from a list -/
namespace UL
open PySem PySem.Spec PyProof.Rows L2
section
variable {prog : Program} {w : World} {A : Around} {E : Value → Shared → Prop} {s : Shared}
theorem list_next {it l : Addr} {i : Nat} {items : Array Value} {x : Value} {Q : Option Value → Shared → Prop} (hit : s.heap.IsListIter it l i) (hl : s.heap.IsList l items) (hx : items[i]? = some x)
    (hQ : ∀ h', h'.IsListIter it l (i + 1) → Heap.SameBut it s.heap h' → Q (some x) { s with heap := h' }) : wpAny (model prog w) A (callSpecial? (.ref it) "__next__") Q E s := by
  have ⟨o, ho, hc, hd⟩ := hit; have ⟨ol, hol, _, nl, hdl⟩ := hl
  refine wpAny_callSpecial?_slot (name := Str.ofString "__next__") hit.typeIs slot_listiter_next (wpAny_call_entry slot_listiter_next hit.typeIs entry_listiter_next ?_ (args_listiter_next _))
  refine wpAny_bind (m := field (.ref it) 0) (wpAny_field ho hd (x := .ref l) rfl ?_)
  show wpAny _ _ (if (Value.ref l == Value.none) = true then _ else _) _ _ s; rw [if_neg (show ¬ ((Value.ref l == Value.none) = true) from Bool.false_ne_true)]
  refine wpAny_bind (m := field (.ref it) 1) (wpAny_field ho hd (x := .int i 0) rfl (wpAny_bind (m := seqItems? (.ref l)) (wpAny_seqItems hol hdl ?_)))
  simp only [Int.toNat_natCast, hx]
  refine wpAny_bind (wpAny_setField ho hd (by simp) (wpAny_pure ⟨x, rfl, hQ _ ⟨_, Heap.get?_update_self _ ho (Obj.isFreed_of_fields (Obj.data_mapFields hd _)), (Obj.cls_mapFields ..).trans hc, ?_⟩ (Heap.SameBut.update ..)⟩))
  rw [Obj.data_mapFields hd]; simp [rawInt]
theorem list_stop {it l : Addr} {i : Nat} {items : Array Value} {Q : Option Value → Shared → Prop} (hh : A.handled = none) (hit : s.heap.IsListIter it l i) (hl : s.heap.IsList l items) (hx : items[i]? = none)
    (hE : ∀ e h', StopX e h' → Heap.ExtBut it s.heap h' → E e { s with heap := h' }) : wpAny (model prog w) A (callSpecial? (.ref it) "__next__") Q E s := by
  have ⟨o, ho, hc, hd⟩ := hit; have ⟨ol, hol, _, nl, hdl⟩ := hl
  refine wpAny_callSpecial?_slot (name := Str.ofString "__next__") hit.typeIs slot_listiter_next (wpAny_call_entry slot_listiter_next hit.typeIs entry_listiter_next ?_ (args_listiter_next _))
  refine wpAny_bind (m := field (.ref it) 0) (wpAny_field ho hd (x := .ref l) rfl ?_)
  show wpAny _ _ (if (Value.ref l == Value.none) = true then _ else _) _ _ s; rw [if_neg (show ¬ ((Value.ref l == Value.none) = true) from Bool.false_ne_true)]
  refine wpAny_bind (m := field (.ref it) 1) (wpAny_field ho hd (x := .int i 0) rfl (wpAny_bind (m := seqItems? (.ref l)) (wpAny_seqItems hol hdl ?_)))
  simp only [Int.toNat_natCast, hx]
  refine wpAny_bind (wpAny_rule (wpAny_bind (wpAny_setField ho hd (by simp) (wpAny_bind (m := newExc (.type "StopIteration") []) ?_))))
  simp only [newExc, newTuple]
  refine wpAny_bind (wpAny_newObj_type (wpAny_bind (m := firstArgMember _ _) (wpAny_of_eq (a := Value.none) (by first | rfl | (simp only [firstArgMember]; rfl)) (wpAny_newObj_type ?_ (by size_fits)))) (by size_fits))
  simp only [raiseNew]; refine wpAny_bind (wpAny_handled ?_); rw [show A.in1.handled = none from hh]
  refine wpAny_bind (wpAny_pure (wpAny_throw (hE _ _ ⟨_, _, _, rfl, Heap.get?_push_size _ rfl, rfl, rfl, ?_⟩ (((Heap.SameBut.update ..).extBut.push _).push _))))
  first | rfl | (rw [Array.getElem?_append_left (by decide)]; rfl) | kernel_rfl
end
theorem close_list : typeLookup (.type "list_iterator") "close" = pure none := by rw [typeLookup_type, builtinLookup_eq_fast]; kernel_rfl
def tYfLst (te : TE) : TYf := fun σ H Q => te σ H fun x H1 => ∃ a xs, x = .ref a ∧ H1 a = some (.lst xs) ∧ Q xs H1
theorem yf_lst {X : Cx} {e : Expr} {te : TE} (he : PE X e te) : YfE X e (tYfLst te) := by
  refine ⟨fun pins s σ H Q I h => thn (he.run pins s σ H _ I h) fun v s1 ⟨x, H1, I1, r1, a, xs, ex, ha, hq⟩ => ?_⟩
  subst ex
  obtain rfl : v = Value.ref a := r1
  obtain ⟨its, rits, pl, hz⟩ := I1.list (SqL.of ha)
  obtain ⟨ol, hol, hcl, nl, hdl⟩ := id pl.isList
  refine ⟨"list", ⟨ol, hol, hcl⟩, by decide, wpAny_pyIter_list pl.isList ?_⟩
  have lt := Heap.lt_size hol
  have old : ∀ b o, s1.heap.get? b = some o → b ≠ s1.heap.objs.size := fun b o e => Nat.ne_of_lt (Heap.lt_size e)
  refine ⟨s1.heap.objs.size, H1, xs, fun j h => h.IsListIter s1.heap.objs.size a j ∧ h.IsList a its.toArray, rfl, I1.kept (t' := s1.toks) fun b o e => Heap.get?_push_of_some _ e, .inr I1.sz, Nat.ne_of_gt I1.lt, fun y c hy => ?_, I1.fresh, fun p hp => old p.1 _ (I1.pin p hp).1,
    ⟨⟨_, Heap.get?_push_size _ rfl, rfl, rfl⟩, pl.isList.push _⟩, ⟨⟨"list_iterator", fun j h q => ?_, close_list, by decide⟩, fun j h h' q hk => ?_, fun A' j x s2 Q' E' hA hx q hQ => ?_, fun A' s2 Q' E' hA q hE => ?_⟩, hq⟩
  · obtain ⟨v, o, ho, _⟩ := I1.cell y c hy; exact old c o ho
  · obtain ⟨⟨o, ho, hc, _⟩, _⟩ := q; exact ⟨o, ho, hc⟩
  · exact ⟨Heap.IsListIter.at q.1 fun o e => hk _ o (.inl rfl) e, Heap.IsList.at q.2 fun o e => hk _ o (.inr (by rw [ha]; exact fun z => by cases z)) e⟩
  · obtain ⟨u, hu, ru⟩ := rits.get hx
    exact list_next q.1 q.2 (x := u) (by simpa using hu) fun h' q1 hs => hQ u h' s2.toks ru ⟨q1, q.2.extBut hs.extBut (Nat.ne_of_lt lt)⟩ fun b o hb e => hs.extBut b o hb e
  · have e := rits.length
    exact list_stop hA q.1 q.2 (by simp; omega) fun e h' hS hk => hE e h' s2.toks hS fun b o hb eb => hk b o hb eb
end UL

set_option Elab.async false
set_option linter.all false
set_option maxRecDepth 100000
set_option maxHeartbeats 2000000
/-! bundles: a def, a method as they stand; rules for what may be of several kinds -/
namespace UL
open PySem PySem.Spec PyProof.Rows L2

/-! ### operators on values of several kinds -/
section
variable {X : Cx}
abbrev rAddS' : R2 := fun x y H Q => ∃ i j, x = .str i ∧ y = .str j ∧ i.length + j.length ≤ sizeLine ∧ Q (.str (i ++ j)) H
def rAddA (K : PySem.W.Frag) : R2 := fun x y H Q => rI0 (fun i j => .int (i + j)) x y H Q ∨ rAddS' x y H Q ∨ rCatA K x y H Q ∨ rCat x y H Q
theorem op_addA : OpR X (binaryOp .Add) (rAddA X.K) := OpR.or op_add (OpR.or op_add_str (OpR.or op_catA op_cat))
def rMulA (K : PySem.W.Frag) : R2 := fun x y H Q => rI CMul (fun i j => .int (i * j)) x y H Q ∨ rMulS x y H Q ∨ rRepU K x y H Q
theorem op_mulA : OpR X (binaryOp .Mult) (rMulA X.K) := OpR.or op_mul (OpR.or op_mulS op_repU)
def rEqA (K : PySem.W.Frag) : R2 := fun x y H Q => rEq x y H Q ∨ rEqD K x y H Q
def rNeA (K : PySem.W.Frag) : R2 := fun x y H Q => rNe x y H Q ∨ rNeD K x y H Q
theorem op_eqA (hu : X.A.units + 64 < cLine) : OpR X (compareOp .Eq) (rEqA X.K) := OpR.or op_eq (op_eqD hu)
theorem op_neA (hu : X.A.units + 64 < cLine) : OpR X (compareOp .NotEq) (rNeA X.K) := OpR.or op_ne (op_neD hu)
abbrev rInC : R2 := fun x y H Q => ∃ (c : Nat) (z : Str), x = .str ⟨#[c]⟩ ∧ y = .str z ∧ Q (.bl (decide (c ∈ z.cps.toList))) H
abbrev rNInC : R2 := fun x y H Q => ∃ (c : Nat) (z : Str), x = .str ⟨#[c]⟩ ∧ y = .str z ∧ Q (.bl (!decide (c ∈ z.cps.toList))) H
def rInA (K : PySem.W.Frag) : R2 := fun x y H Q => rInC x y H Q ∨ rIn K false x y H Q
def rNInA (K : PySem.W.Frag) : R2 := fun x y H Q => rNInC x y H Q ∨ rIn K true x y H Q
theorem op_inA : OpR X (compareOp .In) (rInA X.K) := OpR.or op_in_sign op_in_seq
theorem op_ninA : OpR X (compareOp .NotIn) (rNInA X.K) := OpR.or op_notIn_sign op_notIn_seq
def rIsNone : R2 := fun x y H Q => y = .non ∧ Q (.bl (decide (x = .non))) H
def rNotNone : R2 := fun x y H Q => y = .non ∧ Q (.bl (!decide (x = .non))) H
theorem op_isNone : OpR X (compareOp .Is) rIsNone := op_isN
theorem op_notNone : OpR X (compareOp .IsNot) rNotNone := op_notN
def rMod : R2 := rI (fun _ j => 0 < j) fun i j => .int (i % j)
def rDivW : R2 := rI CDivW fun i j => .int (i / j)
def rSub_ : R2 := rI0 fun i j => .int (i - j)
def rLt : R2 := rI0 fun i j => .bl (decide (i < j))
def rLe : R2 := rI0 fun i j => .bl (decide (i ≤ j))
def rGt_ : R2 := rI0 fun i j => .bl (decide (j < i))
def rGe_ : R2 := rI0 fun i j => .bl (decide (j ≤ i))
def rPow : R2 := rI CPow fun i j => .int (i ^ j.toNat)
theorem op_modA : OpR X (binaryOp .Mod) rMod := op_mod
theorem op_divA : OpR X (binaryOp .FloorDiv) rDivW := op_fdivW
theorem op_subA : OpR X (binaryOp .Sub) rSub_ := op_sub
theorem op_powA : OpR X (binaryOp .Pow) rPow := op_pow
theorem op_ltA : OpR X (compareOp .Lt) rLt := op_lt
theorem op_leA : OpR X (compareOp .LtE) rLe := op_le
theorem op_gtA : OpR X (compareOp .Gt) rGt_ := op_gt
theorem op_geA : OpR X (compareOp .GtE) rGe_ := op_ge
def rNeg : V → Hp → VK → Prop := rU fun i => .int (-i)
theorem un_negA : UnR X (unaryOp .USub) rNeg := un_neg
/-! ### built-in calls -/
def cLen (K : PySem.W.Frag) : List V → Hp → VK → Prop := fun xs H Q => ∃ x n, xs = [x] ∧ LenV K x H n ∧ Q (.int n) H
theorem call_lenA : CallR X (.builtin "len") (cLen X.K) := call_len
def cAbs : List V → Hp → VK → Prop := fun xs H Q => ∃ i, xs = [.int i] ∧ Q (.int (if i < 0 then -i else i)) H
theorem call_absA : CallR X (.builtin "abs") cAbs := call_abs
def cInt : List V → Hp → VK → Prop := fun xs H Q => ∃ i, xs = [.int i] ∧ Q (.int i) H
theorem call_intA : CallR X (.type "int") cInt := fun pins s σ H xs us Q I r h => call_int1 pins s σ H xs us Q I r (.inl h)
def cStr : List V → Hp → VK → Prop := fun xs H Q => (∃ i, xs = [.int i] ∧ i.natAbs.log2 < 1920 ∧ Q (.str (toString i)) H) ∨ ∃ a, xs = [.str a] ∧ Q (.str a) H
theorem call_strA : CallR X (.type "str") cStr := CallR.or call_str_int SkE.call_str_str
def cList (K : PySem.W.Frag) : List V → Hp → VK → Prop := fun xs H Q => ∃ p ys, xs = [.ref p] ∧ (SqL K H p ys ∨ SqT K H p ys) ∧ ∀ l, H l = none → Q (.ref l) (upd H l (.lst ys))
theorem call_listA : CallR X (.type "list") (cList X.K) := call_list_of
def cTup (K : PySem.W.Frag) : List V → Hp → VK → Prop := fun xs H Q => ∃ p ys, xs = [.ref p] ∧ ((SqL K H p ys ∧ ∀ l, H l = none → Q (.ref l) (upd H l (.tup ys))) ∨ (SqT K H p ys ∧ Q (.ref p) H))
theorem call_tupA : CallR X (.type "tuple") (cTup X.K) := call_tuple_of
end

/-! ### a def of the top, a method, as they stand -/
structure TD (K : PySem.W.Frag) (mg : Str → Option Value) (x : Str) (st : Stmt) : Prop where
  ex : ∃ f fd, Fun K x x st f fd ∧ mg x = some (.ref f)
/-- .. and what it promises -/
structure Dn (P : Program) (w : World) (K : PySem.W.Frag) (mg : Str → Option Value) (base : Heap) (CX : CXT) (k : Nat) (x : Str) (sp : Sp) : Prop where
  ex : ∃ (f : Addr) (fd : FuncData) (ps : List Str), FnOk P w K mg base CX k f fd ps sp ∧ mg x = some (.ref f) ∧ PySem.W.keepIn K (.ref f) = true ∧ Binds K fd ps []
structure MD (K : PySem.W.Frag) (C : Addr) (m qual : Str) (st : Stmt) : Prop where
  ex : ∃ f fd, Fun K m qual st f fd ∧ Meth K C m f
structure Mn (P : Program) (w : World) (K : PySem.W.Frag) (mg : Str → Option Value) (base : Heap) (CX : CXT) (k : Nat) (C : Addr) (m : Str) (sp : Sp) : Prop where
  ex : ∃ (f : Addr) (fd : FuncData) (ps : List Str), FnOk P w K mg base CX k f fd ps sp ∧ Meth K C m f ∧ Binds K fd ps []
section
variable {P : Program} {w : World} {K : PySem.W.Frag} {mg : Str → Option Value} {base : Heap} {C : Addr} {x m qual : Str} {st : Stmt} {N ps : List Str} {k : Nat} {sp : Sp}
abbrev BindOk (x qual : Str) (st : Stmt) (ps : List Str) : Prop := ∀ (kV doc pm : Value) (an : Option Addr) (cdv ct : Value) (us : List Value), us.length = ps.length → bindArgs (PySem.W.fnOf x qual (defArgs st) (defBody st) (defScope st) .none kV doc pm an cdv ct) ⟨us, []⟩ = pure (ps.zip us)
abbrev Body0 (P : Program) (w : World) (K : PySem.W.Frag) (mg : Str → Option Value) (base : Heap) (qual : Str) (st : Stmt) (N : List Str) (k : Nat) (sp : Sp) : Prop :=
  ∀ (f : Addr) (cdv : Value) (A : Around) (outer : List Env) (s : Shared) (H : Hp) (vs : List V) (Q : VK) (E : XK), Room k (A.deeper (envOfC qual (defScope st) s.heap.objs.size f cdv)) → sp vs H Q E →
      ∃ t, PSs (cxOf CX0 P w K mg base N qual (defScope st) f cdv A outer s H E).nox (defBody st) t ∧ t { nx := fun _ H' => Q .non H', rt := Q } (L2.start N vs) H
abbrev BodyX (P : Program) (w : World) (K : PySem.W.Frag) (mg : Str → Option Value) (base : Heap) (qual : Str) (st : Stmt) (N : List Str) (k : Nat) (sp : Sp) : Prop :=
  ∀ (f : Addr) (cdv : Value) (A : Around) (outer : List Env) (s : Shared) (H : Hp) (vs : List V) (Q : VK) (E : XK), Room k (A.deeper (envOfC qual (defScope st) s.heap.objs.size f cdv)) → sp vs H Q E →
      ∃ t, PSs (cxOf (L2.CX P w) P w K mg base N qual (defScope st) f cdv A outer s H E) (defBody st) t ∧ t { nx := fun _ H' => Q .non H', rt := Q } (L2.start N vs) H
theorem TD.dn (D : TD K mg x st) (S : FnScope N ps (defScope st)) (b : BindOk x x st ps) (len : ∀ vs H Q E, sp vs H Q E → vs.length = ps.length) (body : Body0 P w K mg base x st N k sp) : Dn P w K mg base CX0 (k + 1) x sp :=
  let ⟨f, fd, F, hm⟩ := D.ex
  ⟨f, fd, ps, F.ok S len (body f), hm, F.kp, F.binds b⟩
theorem TD.dx (D : TD K mg x st) (S : FnScope N ps (defScope st)) (b : BindOk x x st ps) (len : ∀ vs H Q E, sp vs H Q E → vs.length = ps.length) (body : BodyX P w K mg base x st N k sp) : Dn P w K mg base (L2.CX P w) (k + 1) x sp :=
  let ⟨f, fd, F, hm⟩ := D.ex
  ⟨f, fd, ps, F.okX S len (body f), hm, F.kp, F.binds b⟩
theorem MD.mn (D : MD K C m qual st) (S : FnScope N ps (defScope st)) (b : BindOk m qual st ps) (len : ∀ vs H Q E, sp vs H Q E → vs.length = ps.length) (body : Body0 P w K mg base qual st N k sp) : Mn P w K mg base CX0 (k + 1) C m sp :=
  let ⟨f, fd, F, hm⟩ := D.ex
  ⟨f, fd, ps, F.ok S len (body f), hm, F.binds b⟩
theorem MD.mx (D : MD K C m qual st) (S : FnScope N ps (defScope st)) (b : BindOk m qual st ps) (len : ∀ vs H Q E, sp vs H Q E → vs.length = ps.length) (body : BodyX P w K mg base qual st N k sp) : Mn P w K mg base (L2.CX P w) (k + 1) C m sp :=
  let ⟨f, fd, F, hm⟩ := D.ex
  ⟨f, fd, ps, F.okX S len (body f), hm, F.binds b⟩
end
section
variable {X : Cx} {CX : CXT} {k j : Nat} {C : Addr} {sp : Sp} {E : XK} {x m : Str} {p pos apos : Pos} {e o : Expr} {es : List Expr} {ta : TE} {t : TA}
/-- f(e, ..) -/
theorem pe_d (d : Dn X.prog X.w X.K X.mg X.base CX k x sp) (hr : Room j X.A) (hk : k ≤ j) (hx : Passes CX X E) (hg : Gl X x) (ha : PA X (e :: es) t) (hdb : (x == ("__debug__" : Str)) = false := by decide)
    (he : starEach (e :: es) X.env = (false, eval e X.env) :: starEach es X.env := by rfl) (hpl : (backTo pos (starEach es X.env)).any (·.1) = false := by rfl) : PE X (.Call (.Name x p) (e :: es) [] pos) (tCall sp [] E t) := by
  obtain ⟨f, fd, ps, F, hm, hkp, hb⟩ := d.ex
  exact pe_call F (hr.mono hk) hg hm hkp hb .nil hx ha hdb he hpl
/-- o.m(e, ..), o.m() -/
theorem pe_m {pl : Sem Bool} (d : Mn X.prog X.w X.K X.mg X.base CX k C m sp) (c : Cls X.K C) (hr : Room j X.A) (hk : k ≤ j) (hx : Passes CX X E) (he : PE X o ta) (ha : PA X (e :: es) t)
    (hst : starEach (e :: es) X.env = (false, eval e X.env) :: starEach es X.env := by rfl) (hpl : (backTo pos (starEach es X.env)).any (·.1) = false := by rfl)
    (ht : eval (.Call (.Attribute o m apos) (e :: es) [] pos) X.env = (do
      let ov ← eval o X.env
      standAt apos.atName
      let (f, first) ← holding [ov] (getMethod ov m pl)
      callWith pos f first (backTo pos (starEach (e :: es) X.env)) (backToKw pos (keywordEach [] X.env))) := by rfl) : PE X (.Call (.Attribute o m apos) (e :: es) [] pos) (tMeth C m sp [] E ta t) := by
  obtain ⟨f, fd, ps, F, hm, hb⟩ := d.ex
  exact pe_meth he c hm F (hr.mono hk) hb .nil hx ha hst hpl ht
theorem pe_m' {pl : Sem Bool} (d : Mn X.prog X.w X.K X.mg X.base CX k C m sp) (c : Cls X.K C) (hr : Room j X.A) (hk : k ≤ j) (hx : Passes CX X E) (he : PE X o ta)
    (ht : eval (.Call (.Attribute o m apos) [] [] pos) X.env = (do
      let ov ← eval o X.env
      standAt apos.atName
      let (f, first) ← holding [ov] (getMethod ov m pl)
      callWith pos f first (backTo pos (starEach [] X.env)) (backToKw pos (keywordEach [] X.env))) := by rfl) : PE X (.Call (.Attribute o m apos) [] [] pos) (tMeth C m sp [] E ta tNil) := by
  obtain ⟨f, fd, ps, F, hm, hb⟩ := d.ex
  exact pe_meth0 he c hm F (hr.mono hk) hb .nil hx ht
/-- C(e, ..) -/
structure Kn (P : Program) (w : World) (K : PySem.W.Frag) (mg : Str → Option Value) (base : Heap) (CX : CXT) (k : Nat) (C : Addr) (x : Str) (sp : Sp) : Prop where
  ex : ∃ (f : Addr) (fd : FuncData) (ps : List Str), FnOk P w K mg base CX k f fd ps sp ∧ Mk K C f ∧ Binds K fd ps [] ∧ mg x = some (.ref C)
theorem pe_k (d : Kn X.prog X.w X.K X.mg X.base CX k C x sp) (hr : Room j X.A) (hk : k + 1 ≤ j) (hx : Passes CX X E) (hg : Gl X x) (ha : PA X (e :: es) t) (hdb : (x == ("__debug__" : Str)) = false := by decide)
    (he : starEach (e :: es) X.env = (false, eval e X.env) :: starEach es X.env := by rfl) (hpl : (backTo pos (starEach es X.env)).any (·.1) = false := by rfl) : PE X (.Call (.Name x p) (e :: es) [] pos) (tMake C sp [] E t) := by
  obtain ⟨f, fd, ps, F, M, hb, hm⟩ := d.ex
  exact pe_make M F (hr.mono hk) hg hm hb .nil hx ha hdb he hpl
end

/-! ### what of the heap is kept -/
/-- all but p is as it was -/
def But (p : Addr) (H H' : Hp) : Prop := ∀ b o, H b = some o → b ≠ p → H' b = some o
theorem Same.but {p : Addr} {H H' : Hp} (s : Same H H') : But p H H' := fun b o e _ => s b o e
theorem But.trans {p : Addr} {H H1 H2 : Hp} (a : But p H H1) (b : But p H1 H2) : But p H H2 := fun c o e n => b c o (a c o e n) n
theorem But.refl {p : Addr} (H : Hp) : But p H H := fun _ _ e _ => e
theorem Same.new {H : Hp} {p : Addr} {o : HO} (h : H p = none) : Same H (upd H p o) := fun b u e => by rw [upd_ne (ne_of_none e h)]; exact e
theorem But.at_ {p : Addr} {H : Hp} {o : HO} : But p H (upd H p o) := fun b u e n => by rw [upd_ne n]; exact e
/-- changed at a place that H does not know -/
theorem Same.put {H H' : Hp} {p : Addr} {o : HO} (s : Same H H') (h : H p = none) : Same H (upd H' p o) := fun b u e => by rw [upd_ne (ne_of_none e h)]; exact s b u e
theorem But.put {q : Addr} {H H' : Hp} {p : Addr} {o : HO} (s : But q H H') (h : H p = none) : But q H (upd H' p o) := fun b u e n => by rw [upd_ne (ne_of_none e h)]; exact s b u e n
theorem But.sqL {K : PySem.W.Frag} {p a : Addr} {H H' : Hp} {xs : List V} (s : But p H H') (n : a ≠ p) (h : SqL K H a xs) : SqL K H' a xs := by
  rcases h with (h | ⟨o, h⟩) | h
  · exact .inl (.inl (s _ _ h n))
  · exact .inl (.inr ⟨o, s _ _ h n⟩)
  · exact .inr h
theorem But.sqT {K : PySem.W.Frag} {p a : Addr} {H H' : Hp} {xs : List V} (s : But p H H') (n : a ≠ p) (h : SqT K H a xs) : SqT K H' a xs := by
  rcases h with (h | ⟨o, h⟩) | h
  · exact .inl (.inl (s _ _ h n))
  · exact .inl (.inr ⟨o, s _ _ h n⟩)
  · exact .inr h
theorem Same.sqT {K : PySem.W.Frag} {a : Addr} {H H' : Hp} {xs : List V} (s : Same H H') (h : SqT K H a xs) : SqT K H' a xs := by
  rcases h with (h | ⟨o, h⟩) | h
  · exact .inl (.inl (s _ _ h))
  · exact .inl (.inr ⟨o, s _ _ h⟩)
  · exact .inr h
theorem Same.sqL {K : PySem.W.Frag} {a : Addr} {H H' : Hp} {xs : List V} (s : Same H H') (h : SqL K H a xs) : SqL K H' a xs := Same.seq s h
/-- the pool of drawn ints -/
def Pl (H : Hp) (p : Addr) : Prop := ∃ ns : List Int, H p = some (.lst (ns.map V.int))
theorem Pl.same {H H' : Hp} {p : Addr} (x : Pl H p) (s : Same H H') : Pl H' p := let ⟨ns, e⟩ := x; ⟨ns, s _ _ e⟩
theorem Pl.put {H : Hp} {p q : Addr} {o : HO} (x : Pl H p) (n : p ≠ q) : Pl (upd H q o) p := let ⟨ns, e⟩ := x; ⟨ns, by rw [upd_ne n]; exact e⟩
theorem Pl.ne {H : Hp} {p q : Addr} (x : Pl H p) (h : H q = none) : p ≠ q := let ⟨_, e⟩ := x; ne_of_none e h
theorem But.free {H H' : Hp} {p q : Addr} (s : But p H H') (x : Pl H' p) (h : H' q = none) : H q = none := by
  cases e : H q with
  | none => rfl
  | some o => rw [s q o e (Ne.symm (x.ne h))] at h; cases h
end UL

set_option Elab.async false
set_option linter.all false
set_option maxRecDepth 100000
set_option maxHeartbeats 2000000
/-! readings of the unions at values of known kind -/
namespace UL
open PySem PySem.Spec PyProof.Rows L2
section
variable {X : Cx} {K : PySem.W.Frag} {H : Hp} {Q : VK} {i j : Int} {x y : Str} {a b : Addr}
theorem op_inK (K : PySem.W.Frag) (h : X.K = K) : OpR X (compareOp .In) (rInA K) := h ▸ op_inA
theorem pa_starK (K : PySem.W.Frag) (hK : X.K = K) {e : Expr} {es : List Expr} {p : Pos} {te : TE} {t : TA} (he : PE X e te) (hr : PA X es t) (hs : starEach (.Starred e p :: es) X.env = (true, eval e X.env) :: starEach es X.env := by rfl) : PA X (.Starred e p :: es) (StX.tStar K te t) := hK ▸ StX.pa_star he hr hs
theorem cxK {CX : CXT} {P : Program} {w : World} {mg : Str → Option Value} {base : Heap} {N : List Str} {qual : Str} {scope : Scope} {f : Addr} {cd : Value} {A : Around} {outer : List Env} {s : Shared} {H : Hp} {E : XK} : (cxOf CX P w K mg base N qual scope f cd A outer s H E).K = K := rfl
theorem noxK : (X.nox).K = X.K := rfl
theorem addII : rAddA K (.int i) (.int j) H Q ↔ Q (.int (i + j)) H := by
  simp [rAddA, rI0, rCatA, rCat]
theorem addSS : rAddA K (.str x) (.str y) H Q ↔ (x.length + y.length ≤ sizeLine ∧ Q (.str (x ++ y)) H) := by
  simp [rAddA, rAddS', rI0, rCatA, rCat]
theorem mulII : rMulA K (.int i) (.int j) H Q ↔ (CMul i j ∧ Q (.int (i * j)) H) := by
  simp [rMulA, rI, rMulS, rRepU]
theorem cIntI : cInt [.int i] H Q ↔ Q (.int i) H := by simp [cInt]
theorem cAbsI : cAbs [.int i] H Q ↔ Q (.int (if i < 0 then -i else i)) H := by simp [cAbs]
theorem dpI {d : PyData} : Dp K H (.int i) d ↔ d = .int i := ⟨fun h => by cases h; rfl, fun h => h ▸ .int i⟩
theorem dpS {d : PyData} : Dp K H (.str x) d ↔ d = .str x := ⟨fun h => by cases h; rfl, fun h => h ▸ .str x⟩
theorem eqII : rEqA K (.int i) (.int j) H Q ↔ Q (.bl (decide (i = j))) H := by
  have e : (i == j) = decide (i = j) := rfl
  constructor
  · rintro (⟨_, q⟩ | ⟨d, e', h1, h2, _, _, q⟩)
    · simpa using q
    · rw [dpI] at h1 h2; subst h1 h2; exact q
  · intro q; exact .inl ⟨rfl, by simpa using q⟩
theorem neII : rNeA K (.int i) (.int j) H Q ↔ Q (.bl (!decide (i = j))) H := by
  constructor
  · rintro (⟨_, q⟩ | ⟨d, e', h1, h2, _, _, q⟩)
    · simpa using q
    · rw [dpI] at h1 h2; subst h1 h2; exact q
  · intro q; exact .inl ⟨rfl, by simpa using q⟩
theorem neSS : rNeA K (.str x) (.str y) H Q ↔ Q (.bl (!decide (x = y))) H := by
  have e : (x == y) = decide (x = y) := by rw [Bool.eq_iff_iff]; simp
  constructor
  · rintro (⟨_, q⟩ | ⟨d, e', h1, h2, _, _, q⟩)
    · simpa using q
    · rw [dpS] at h1 h2; subst h1 h2; rw [← e]; exact q
  · intro q; exact .inl ⟨rfl, by simpa using q⟩
/-- an int or a text -/
def fl2 : V → Bool
  | .int _ => true
  | .str x => PyData.strOk x
  | _ => false
def dV : V → PyData
  | .int i => .int i
  | .str x => .str x
  | _ => .none
theorem dV_dp {v : V} (h : fl2 v = true) : Dp K H v (dV v) := by
  cases v <;> first | exact .int _ | exact .str _ | exact nomatch h
theorem dV_all : ∀ {xs : List V}, xs.all fl2 = true → DpAll K H xs (xs.map dV)
  | [], _ => .nil
  | x :: r, h => by
    rw [List.all_cons, Bool.and_eq_true] at h
    exact .cons (dV_dp h.1) (dV_all h.2)
theorem dV_shape : ∀ {xs : List V}, xs.all fl2 = true → PyData.canLayAll0 (xs.map dV) = true ∧ PyData.depthAll (xs.map dV) ≤ 1
  | [], _ => by simp [PyData.canLayAll0, PyData.depthAll]
  | x :: r, h => by
    rw [List.all_cons, Bool.and_eq_true] at h
    have ih := dV_shape (xs := r) h.2
    have h0 : PyData.canLay0 (dV x) = true ∧ PyData.depth (dV x) ≤ 1 := by cases x <;> simp_all [dV, fl2, PyData.canLay0, PyData.depth]
    simp only [List.map_cons, PyData.canLayAll0, PyData.depthAll, h0.1, ih.1, Bool.and_self, true_and]
    omega
theorem dV_eqv : ∀ {xs : List V}, PyData.eqvAll (xs.map dV) (xs.map dV) = true
  | [] => by simp [PyData.eqvAll]
  | x :: r => by
    have ih := dV_eqv (xs := r)
    have h0 : PyData.eqv (dV x) (dV x) = true := by cases x <;> simp [dV, PyData.eqv]
    simp only [List.map_cons, PyData.eqvAll, h0, ih, Bool.and_self]
theorem lst_shape {xs : List V} (hf : xs.all fl2 = true) : SeqAt.shaped (.list (xs.map dV)) = true := by
  have h := dV_shape hf
  have h2 := h.2
  have h1 : PyData.canLay0 (.list (xs.map dV)) = true := by rw [PyData.canLay0]; exact h.1
  have h3 : PyData.depth (.list (xs.map dV)) ≤ 64 := by rw [PyData.depth]; omega
  show (_ && _) = true
  rw [h1, decide_eq_true h3]; rfl
/-- two lists of the same ints and texts -/
theorem eqLL {xs : List V} (hf : xs.all fl2 = true) (ha : SqL K H a xs) (hb : SqL K H b xs) (q : Q (.bl true) H) : rEqA K (.ref a) (.ref b) H Q :=
  .inr ⟨.list (xs.map dV), .list (xs.map dV), .lst ha (dV_all hf), .lst hb (dV_all hf), lst_shape hf, lst_shape hf, by rw [PyData.eqv, dV_eqv]; exact q⟩
theorem neLL {xs : List V} (hf : xs.all fl2 = true) (ha : SqL K H a xs) (hb : SqL K H b xs) (q : Q (.bl false) H) : rNeA K (.ref a) (.ref b) H Q :=
  .inr ⟨.list (xs.map dV), .list (xs.map dV), .lst ha (dV_all hf), .lst hb (dV_all hf), lst_shape hf, lst_shape hf, by rw [PyData.eqv, dV_eqv]; exact q⟩
/-- xs == [] -/
theorem eqL0 {xs : List V} (hf : xs.all fl2 = true) (ha : SqL K H a xs) (hb : SqL K H b []) (q : Q (.bl (decide (xs = []))) H) : rEqA K (.ref a) (.ref b) H Q :=
  .inr ⟨.list (xs.map dV), .list [], .lst ha (dV_all hf), .lst hb .nil, lst_shape hf, lst_shape (xs := []) rfl, by
    have e : PyData.eqv (.list (xs.map dV)) (.list []) = decide (xs = []) := by cases xs <;> simp [PyData.eqv, PyData.eqvAll]
    rw [e]; exact q⟩
theorem fl2_ints {ns : List Int} : (ns.map V.int).all fl2 = true := by simp [fl2]
theorem fl2_strs {ns : List Str} (h : ∀ z ∈ ns, PyData.strOk z = true) : (ns.map V.str).all fl2 = true := by simpa [fl2] using h
/-- isinstance of what is known -/
theorem isiI {t : String} {r : Bool} (hk : PySem.W.kitOne K (.type "int") (.type t) = some r) (q : Q (.bl r) H) : rIsi K [.int i, .ty t] H Q := ⟨_, _, _, _, _, rfl, .ty t, .base (.int i), hk, q⟩
theorem isiS {t : String} {r : Bool} (hk : PySem.W.kitOne K (.type "str") (.type t) = some r) (q : Q (.bl r) H) : rIsi K [.str x, .ty t] H Q := ⟨_, _, _, _, _, rfl, .ty t, .base (.str x), hk, q⟩
theorem lenL {xs : List V} (h : SqL K H a xs) (q : Q (.int xs.length) H) : cLen K [.ref a] H Q := ⟨_, _, rfl, .inl ⟨xs, h, rfl⟩, q⟩
theorem lenT {xs : List V} (h : SqT K H a xs) (q : Q (.int xs.length) H) : cLen K [.ref a] H Q := ⟨_, _, rfl, .inr ⟨xs, h, rfl⟩, q⟩
theorem lenS (h : x.length ≤ sizeLine) (q : Q (.int x.length) H) : cLen K [.str x] H Q := ⟨_, _, rfl, ⟨h, rfl⟩, q⟩
theorem ixL {xs : List V} {v : V} (h : SqL K H a xs) (e : atI xs i = some v) (q : Q v H) : rIx K (.ref a) (.int i) H Q := .inl ⟨a, xs, i, v, rfl, rfl, h, e, q⟩
theorem ixT {xs : List V} {v : V} (h : SqT K H a xs) (e : atI xs i = some v) (q : Q v H) : rIx K (.ref a) (.int i) H Q := .inr (.inl ⟨a, xs, i, v, rfl, rfl, h, e, q⟩)
theorem ixS {c : Nat} (h : x.length ≤ sizeLine) (e : atI x.cps.toList i = some c) (q : Q (.str ⟨#[c]⟩) H) : rIx K (.str x) (.int i) H Q := .inr (.inr ⟨x, i, c, rfl, rfl, h, e, q⟩)
theorem atN {α : Type} {xs : List α} {n : Nat} {v : α} (h : xs[n]? = some v) : atI xs (n : Int) = some v := by
  obtain ⟨l, _⟩ := List.getElem?_eq_some_iff.mp h
  unfold atI ixN
  rw [if_pos (Int.natCast_nonneg n), if_pos (by omega)]
  exact h
theorem chain2 {ta tb tc : TE} {f g : Int → Int → Bool} {σ : L2.St} {i j k : Int} (h1 : ∀ R : VK, R (.int i) H → ta σ H R) (h2 : ∀ R : VK, R (.int j) H → tb σ H R) (h3 : ∀ R : VK, R (.int k) H → tc σ H R) (q : Q (.bl (f i j && g j k)) H) :
    tChain (rI0 fun i j => .bl (f i j)) (rI0 fun i j => .bl (g i j)) ta tb tc σ H Q := by
  refine h1 _ (h2 _ ⟨i, j, rfl, rfl, f i j, rfl, ?_⟩)
  cases e : f i j
  · rw [e] at q; exact q
  · rw [e, Bool.true_and] at q; rw [if_pos rfl]; exact h3 _ ⟨j, k, rfl, rfl, q⟩
end
end UL

set_option Elab.async false
set_option linter.all false
set_option maxRecDepth 100000
set_option maxHeartbeats 2000000
/-! loops as words that a reading stops at -/
namespace UL
open PySem PySem.Spec PyProof.Rows L2
/-- what a for over J wants -/
def FJ (J : It) (g : TG) (tb : TS) (D : Ends) (σ : L2.St) (H : Hp) : Prop := ∃ W : Nat → Nat → L2.St → Hp → Prop, (∃ m, W 0 m σ H) ∧ ∀ i m σ H, W i m σ H →
  (J.stop i H ∧ D.nx σ H) ∨ (J.go i H ∧ ∃ N : L2.St → Hp → Prop, (∀ σ' H', N σ' H' → ∃ m', m' < m ∧ W (i + 1) m' σ' H') ∧ ∀ x H', J.yld i H x H' → g x σ H' fun σ2 H2 => tb { D with nx := N, ct := N, bk := D.nx } σ2 H2)
theorem tFor_eq {wi : TI} {g : TG} {tb : TS} {D : Ends} {σ : L2.St} {H : Hp} : tFor wi g tb D σ H = wi σ H fun J H1 => FJ J g tb D σ H1 := rfl
/-- what a comprehension over J wants of its list at D -/
def LJ (J : It) (g : TG) (tt : TT) (te : TE) (vs : List Nat) (σ : L2.St) (D : Addr) (Qd : Hp → Prop) (H1 : Hp) : Prop := ∃ W : Nat → Nat → Hp → Prop, (∃ m, W 0 m (upd H1 D (.lst []))) ∧ ∀ i m H, W i m H →
  (J.stop i H ∧ Qd H) ∨ (J.go i H ∧ ∃ Nx : Hp → Prop, (∀ H', Nx H' → ∃ m', m' < m ∧ W (i + 1) m' H') ∧ ∀ x H', J.yld i H x H' → g x (wipe σ vs) H' fun σ2 H2 => wipe σ2 vs = wipe σ vs ∧ tt σ2 H2 fun b H3 =>
    if b = true then te σ2 H3 fun y H4 => ∃ acc, H4 D = some (.lst acc) ∧ acc.length < sizeLine ∧ Nx (upd H4 D (.lst (acc ++ [y]))) else Nx H3)
theorem tLc_eq {wi : TI} {g : TG} {tt : TT} {te : TE} {vs : List Nat} {σ : L2.St} {H : Hp} {Q : VK} : tLc wi g tt te vs σ H Q = wi σ H fun J H1 => ∀ D, H1 D = none → LJ J g tt te vs σ D (fun H2 => Q (.ref D) H2) H1 := rfl
theorem iRng1_eq {ta : TA} {σ : L2.St} {H : Hp} {R : It → Hp → Prop} : iRng1 ta σ H R = ta σ H fun vs H1 => ∃ j : Int, vs = [.int j] ∧ -(2 ^ 62) ≤ j ∧ j < 2 ^ 62 ∧ R (Itr 0 j.toNat) H1 := rfl
section
variable {K : PySem.W.Frag} {J : It} {n : Nat} {G : Hp → Prop} {Y : Nat → Hp → V → Hp → Prop} {g : TG} {tb : TS} {D : Ends} {σ : L2.St} {H : Hp} {a b : Addr} {xs ys : List V} {lo : Int}
theorem FJ.range (Pv : Nat → L2.St → Hp → Prop) (h0 : Pv 0 σ H) (hs : ∀ i σ H, i < n → Pv i σ H → g (.int (lo + i)) σ H fun σ2 H2 => tb { D with nx := Pv (i + 1), ct := Pv (i + 1), bk := D.nx } σ2 H2) (hd : ∀ σ H, Pv n σ H → D.nx σ H) : FJ (Itr lo n) g tb D σ H := for_range Pv h0 hs hd
/-- range(j) -/
theorem FJ.rangeI {j : Int} (Pv : Nat → L2.St → Hp → Prop) (hj : 0 ≤ j) (h0 : Pv 0 σ H) (hs : ∀ (i : Nat) σ H, (i : Int) < j → Pv i σ H → g (.int i) σ H fun σ2 H2 => tb { D with nx := Pv (i + 1), ct := Pv (i + 1), bk := D.nx } σ2 H2) (hd : ∀ σ H, Pv j.toNat σ H → D.nx σ H) : FJ (Itr 0 j.toNat) g tb D σ H :=
  for_range Pv h0 (fun i σ H hi p => by have := hs i σ H (by omega) p; simpa using this) hd
theorem FJ.list (Pv : Nat → L2.St → Hp → Prop) (h0 : Pv 0 σ H) (hl : ∀ i σ H, i ≤ xs.length → Pv i σ H → SqL K H a xs)
    (hs : ∀ i x σ H, xs[i]? = some x → Pv i σ H → g x σ H fun σ2 H2 => tb { D with nx := Pv (i + 1), ct := Pv (i + 1), bk := D.nx } σ2 H2) (hd : ∀ σ H, Pv xs.length σ H → D.nx σ H) : FJ (Itl K a) g tb D σ H := for_list Pv h0 hl hs hd
theorem FJ.tup (Pv : Nat → L2.St → Hp → Prop) (h0 : Pv 0 σ H) (hl : ∀ i σ H, i ≤ xs.length → Pv i σ H → SqT K H a xs)
    (hs : ∀ i x σ H, xs[i]? = some x → Pv i σ H → g x σ H fun σ2 H2 => tb { D with nx := Pv (i + 1), ct := Pv (i + 1), bk := D.nx } σ2 H2) (hd : ∀ σ H, Pv xs.length σ H → D.nx σ H) : FJ (Itt K a) g tb D σ H := for_tup Pv h0 hl hs hd
theorem FJ.zip {k1 k2 : Kd} (hl : xs.length = ys.length) (Pv : Nat → L2.St → Hp → Prop) (h0 : Pv 0 σ H) (hq : ∀ i σ H, Pv i σ H → k1.Sq K H a xs ∧ k2.Sq K H b ys)
    (hs : ∀ (i : Nat) (x y : V) (T : Addr) (σ : L2.St) (H : Hp), xs[i]? = some x → ys[i]? = some y → Pv i σ H → H T = none → g (.ref T) σ (upd H T (.tup [x, y])) fun σ2 H2 => tb { D with nx := Pv (i + 1), ct := Pv (i + 1), bk := D.nx } σ2 H2) (hd : ∀ σ H, Pv xs.length σ H → D.nx σ H) :
    FJ (ItzK k1 k2 K a b) g tb D σ H := for_zipK hl Pv h0 hq hs hd
variable {tt : TT} {te : TE} {vs : List Nat} {D : Addr} {Qd : Hp → Prop} {H1 : Hp}
theorem LJ.it (w : Walk J n G Y) (Pv : Nat → Hp → Prop) (h0 : Pv 0 (upd H1 D (.lst []))) (hG : ∀ i H, i ≤ n → Pv i H → G H)
    (hs : ∀ i x H H', i < n → Pv i H → Y i H x H' → g x (wipe σ vs) H' fun σ2 H2 => wipe σ2 vs = wipe σ vs ∧ tt σ2 H2 fun b H3 =>
      if b = true then te σ2 H3 fun y H4 => ∃ acc, H4 D = some (.lst acc) ∧ acc.length < sizeLine ∧ Pv (i + 1) (upd H4 D (.lst (acc ++ [y]))) else Pv (i + 1) H3) (hd : ∀ H, Pv n H → Qd H) : LJ J g tt te vs σ D Qd H1 := lc_it w Pv h0 hG hs hd
end
/-- the inner loop of a comprehension with two fors -/
def NJ (J1 : It) (g1 : TG) (tt1 : TT) (te : TE) (vs1 : List Nat) (σ2 : L2.St) (D : Addr) (Nx : Hp → Prop) (H4 : Hp) : Prop := ∃ W1 : Nat → Nat → Hp → Prop, (∃ m, W1 0 m H4) ∧ ∀ j k H, W1 j k H →
      (J1.stop j H ∧ Nx H) ∨ (J1.go j H ∧ ∃ Nx1 : Hp → Prop, (∀ H', Nx1 H' → ∃ k', k' < k ∧ W1 (j + 1) k' H') ∧ ∀ x H', J1.yld j H x H' → g1 x (wipe σ2 vs1) H' fun σ3 H5 => wipe σ3 vs1 = wipe σ2 vs1 ∧ tt1 σ3 H5 fun b H6 =>
        if b = true then te σ3 H6 fun y H7 => ∃ acc, H7 D = some (.lst acc) ∧ acc.length < sizeLine ∧ Nx1 (upd H7 D (.lst (acc ++ [y]))) else Nx1 H6)
def LJ2 (J : It) (g : TG) (tt : TT) (wi1 : TI) (g1 : TG) (tt1 : TT) (te : TE) (vs vs1 : List Nat) (σ : L2.St) (D : Addr) (Qd : Hp → Prop) (H1 : Hp) : Prop := ∃ W : Nat → Nat → Hp → Prop, (∃ m, W 0 m (upd H1 D (.lst []))) ∧ ∀ i m H, W i m H →
  (J.stop i H ∧ Qd H) ∨ (J.go i H ∧ ∃ Nx : Hp → Prop, (∀ H', Nx H' → ∃ m', m' < m ∧ W (i + 1) m' H') ∧ ∀ x H', J.yld i H x H' → g x (wipe σ vs) H' fun σ2 H2 => wipe σ2 vs = wipe σ vs ∧ tt σ2 H2 fun b H3 =>
    if b = true then wi1 σ2 H3 fun J1 H4 => NJ J1 g1 tt1 te vs1 σ2 D Nx H4 else Nx H3)
theorem tLc2_eq {wi : TI} {g : TG} {tt : TT} {wi1 : TI} {g1 : TG} {tt1 : TT} {te : TE} {vs vs1 : List Nat} {σ : L2.St} {H : Hp} {Q : VK} :
    tLc2 wi g tt wi1 g1 tt1 te vs vs1 σ H Q = wi σ H fun J H1 => ∀ D, H1 D = none → LJ2 J g tt wi1 g1 tt1 te vs vs1 σ D (fun H2 => Q (.ref D) H2) H1 := rfl
section
variable {J : It} {n : Nat} {G : Hp → Prop} {Y : Nat → Hp → V → Hp → Prop} {g g1 : TG} {tt tt1 : TT} {te : TE} {wi1 : TI} {σ : L2.St} {vs vs1 : List Nat} {D : Addr} {Qd : Hp → Prop} {H1 : Hp}
theorem NJ.it (w : Walk J n G Y) (Pv : Nat → Hp → Prop) (h0 : Pv 0 H1) (hG : ∀ i H, i ≤ n → Pv i H → G H)
    (hs : ∀ i x H H', i < n → Pv i H → Y i H x H' → g x (wipe σ vs) H' fun σ2 H2 => wipe σ2 vs = wipe σ vs ∧ tt σ2 H2 fun b H3 =>
      if b = true then te σ2 H3 fun y H4 => ∃ acc, H4 D = some (.lst acc) ∧ acc.length < sizeLine ∧ Pv (i + 1) (upd H4 D (.lst (acc ++ [y]))) else Pv (i + 1) H3) (hd : ∀ H, Pv n H → Qd H) : NJ J g tt te vs σ D Qd H1 := by
  refine ⟨fun i m H => m = n - i ∧ i ≤ n ∧ Pv i H, ⟨n, by simp, Nat.zero_le _, h0⟩, ?_⟩
  rintro i m H ⟨rfl, hi, p⟩
  have q := hG i H hi p
  by_cases hlt : i < n
  · exact .inr ⟨w.goes i H hlt q, Pv (i + 1), fun H' p' => ⟨n - (i + 1), by omega, rfl, hlt, p'⟩, fun x H' y => hs i x H H' hlt p (w.yields i H x H' hlt q y)⟩
  · have e : i = n := by omega
    subst e
    exact .inl ⟨w.stops H q, hd H p⟩
theorem LJ2.it (w : Walk J n G Y) (Pv : Nat → Hp → Prop) (h0 : Pv 0 (upd H1 D (.lst []))) (hG : ∀ i H, i ≤ n → Pv i H → G H)
    (hs : ∀ i x H H', i < n → Pv i H → Y i H x H' → g x (wipe σ vs) H' fun σ2 H2 => wipe σ2 vs = wipe σ vs ∧ tt σ2 H2 fun b H3 =>
      if b = true then wi1 σ2 H3 fun J1 H4 => NJ J1 g1 tt1 te vs1 σ2 D (Pv (i + 1)) H4 else Pv (i + 1) H3) (hd : ∀ H, Pv n H → Qd H) : LJ2 J g tt wi1 g1 tt1 te vs vs1 σ D Qd H1 := by
  refine ⟨fun i m H => m = n - i ∧ i ≤ n ∧ Pv i H, ⟨n, by simp, Nat.zero_le _, h0⟩, ?_⟩
  rintro i m H ⟨rfl, hi, p⟩
  have q := hG i H hi p
  by_cases hlt : i < n
  · exact .inr ⟨w.goes i H hlt q, Pv (i + 1), fun H' p' => ⟨n - (i + 1), by omega, rfl, hlt, p'⟩, fun x H' y => hs i x H H' hlt p (w.yields i H x H' hlt q y)⟩
  · have e : i = n := by omega
    subst e
    exact .inl ⟨w.stops H q, hd H p⟩
end
end UL

set_option Elab.async false
set_option linter.all false
set_option maxRecDepth 100000
set_option maxHeartbeats 2000000
/-! a tuple that is known to have no dict: tuple(list), and its methods -/
namespace UL
open PySem PySem.Spec PyProof.Rows L2
section
variable {X : Cx}
def cTupF (K : PySem.W.Frag) : List V → Hp → VK → Prop := fun xs H Q => ∃ p ys, xs = [.ref p] ∧ SqL K H p ys ∧ ∀ l o, H l = none → o.dict = none → Q (.ref l) (upd H l (.frz o (.tup ys)))
theorem call_tupF : CallR X (.type "tuple") (cTupF X.K) := by
  intro pins s σ H xs us Q I r h
  obtain ⟨p, ys, rfl, hq, q⟩ := h
  obtain rfl := Vals.ref1 r
  obtain ⟨its, r', pl, hz⟩ := I.list hq
  have hlen := r'.length
  refine call_tuple_list pl.isList (fun h' kp => ?_) (by simp only [List.size_toArray] <;> omega)
  have I1 : Inv X pins σ H { s with heap := h' } := I.kept (t' := s.toks) kp
  exact ⟨.ref h'.objs.size, _, I1.laid (t' := s.toks) (fun b o e => Heap.get?_push_of_some _ e) (Nat.le_refl _) (show ObjOk X.prog X.w _ _ _ (.frz { cls := .type "tuple", data := .seq its.toArray } (.tup ys)) from ⟨Heap.get?_push_size _ rfl, hz, its, r', IsTup.new _ _⟩), rfl, q _ _ (I1.hok.fresh (Nat.le_refl _)) rfl⟩
/-- of a tuple without a dict -/
def tBMF (r : V → List V → Hp → VK → Prop) (to : TE) (t : TA) : TE := fun σ H Q => to σ H fun x H1 => (∃ p o ys, x = .ref p ∧ H1 p = some (.frz o (.tup ys)) ∧ o.dict = none) ∧ t σ H1 fun xs H2 => r x xs H2 Q
variable {o e : Expr} {es : List Expr} {to : TE} {t : TA} {name : Str} {apos cpos : Pos} {id : String} {r : V → List V → Hp → VK → Prop}
theorem pe_bmF (slot : Slot "tuple" name id) (hty : typeOf (.builtin id) = pure (.type "method_descriptor")) (hm : MtR X id r) (ho : PE X o to) (ha : PA X (e :: es) t)
    (hbase : attributeBase o name X.env (eval o X.env) = eval o X.env := by rfl)
    (hfew : ((backTo cpos (starEach (e :: es) X.env)).all (fun x => !x.1) && (backToKw cpos (keywordEach [] X.env)).all (fun x => x.1.isSome)
      && decide ((e :: es).length + ([] : List Keyword).length + (if ([] : List Keyword).isEmpty then 0 else 1) < 30)) = true := by rfl)
    (hline : (apos.endLine == cpos.line) = true := by rfl) (hs : starEach (e :: es) X.env = (false, eval e X.env) :: starEach es X.env := by rfl) (hplain : (backTo cpos (starEach es X.env)).any (·.1) = false := by rfl) :
    PE X (.Call (.Attribute o name apos) (e :: es) [] cpos) (tBMF r to t) := by
  refine ⟨fun pins s σ H Q I h => ?_⟩
  refine wpAny_Call_method_late hbase hfew hline rfl (thn (ho.run pins s σ H _ I h) fun v s1 ⟨x, H1, I1, r1, ⟨p, ob, ys, ex, hp, hd⟩, q1⟩ => ?_)
  subst ex
  cases r1
  obtain ⟨e1, hl, its, rv, ht⟩ := I1.hok p _ hp
  obtain ⟨o2, e2, hc2, _⟩ := ht
  refine ⟨"tuple", id, PySem.F.plainAttrs_tuple, slot, hty, ⟨o2, e2, hc2⟩, fun a ea => ?_, ?_⟩
  · cases ea; exact ⟨ob, e1, hd⟩
  have hA := ha.run cpos pins s1 σ H1 _ I1 q1
  rw [hs] at hA ⊢
  refine Calls.callWith_builtin (by show (false || (backTo cpos (starEach es X.env)).any (·.1)) = false; rw [hplain] <;> rfl) (Calls.evalArgs_plain ?_)
  exact thn hA fun us s2 ⟨vs, H2, I2, r2, q2⟩ => hm pins s2 σ H2 (.ref p) vs (.ref p) us Q I2 rfl r2 q2
end
end UL

set_option Elab.async false
set_option linter.all false
set_option maxRecDepth 100000
set_option maxHeartbeats 2000000
/-! bundles: own __getitem__, __iter__, a property, a generator method -/
namespace UL
open PySem PySem.Spec PyProof.Rows L2
structure Gn (P : Program) (w : World) (K : PySem.W.Frag) (mg : Str → Option Value) (base : Heap) (CX : CXT) (k : Nat) (C : Addr) (sp : Sp) : Prop where
  ex : ∃ (f : Addr) (fd : FuncData) (ps : List Str), FnOk P w K mg base CX k f fd ps sp ∧ GetO K C f ∧ Binds K fd ps []
structure Itn (P : Program) (w : World) (K : PySem.W.Frag) (mg : Str → Option Value) (base : Heap) (CX : CXT) (k : Nat) (C : Addr) (sp : Sp) : Prop where
  ex : ∃ (f : Addr) (fd : FuncData) (ps : List Str), FnOk P w K mg base CX k f fd ps sp ∧ IterO K C f ∧ Binds K fd ps []
structure Pn (P : Program) (w : World) (K : PySem.W.Frag) (mg : Str → Option Value) (base : Heap) (CX : CXT) (k : Nat) (C : Addr) (x : Str) (sp : Sp) : Prop where
  ex : ∃ (p g : Addr) (fd : FuncData) (ps : List Str), FnOk P w K mg base CX k g fd ps sp ∧ PropOf K C x p g ∧ Binds K fd ps []
structure GMn (P : Program) (w : World) (K : PySem.W.Frag) (mg : Str → Option Value) (base : Heap) (k : Nat) (C : Addr) (m : Str) (sp : SpG) : Prop where
  ex : ∃ (f : Addr) (fd : FuncData) (ps : List Str), GFn P w K mg base k f fd ps sp ∧ Meth K C m f ∧ Binds K fd ps []
section
variable {P : Program} {w : World} {K : PySem.W.Frag} {mg : Str → Option Value} {base : Heap} {CX : CXT} {C : Addr} {m qual : Str} {st : Stmt} {N ps : List Str} {k : Nat} {sp : Sp} {spg : SpG}
theorem Mn.gn (d : Mn P w K mg base CX k C "__getitem__" sp) (h : ∀ f, PySem.W.findIn K (.ref C) "__getitem__" = some (some (.ref f)) → PySem.W.fnIn K f = true) : Gn P w K mg base CX k C sp :=
  let ⟨f, fd, ps, F, M, B⟩ := d.ex
  ⟨f, fd, ps, F, ⟨M.at_, h f M.at_, M.fn⟩, B⟩
theorem MD.fnin (D : MD K C m qual st) : ∀ f, PySem.W.findIn K (.ref C) m = some (some (.ref f)) → PySem.W.fnIn K f = true := by
  intro f hf
  obtain ⟨f0, fd, F, M⟩ := D.ex
  obtain ⟨oc, od, kV, doc, pm, an, cdv, ct, osl, e, lk, hcd⟩ := F.ex
  have h2 := hf.symm.trans M.at_
  cases h2
  unfold PySem.W.fnIn
  rw [lk]
theorem Mn.itn (d : Mn P w K mg base CX k C "__iter__" sp) (h1 : PySem.W.findIn K (.ref C) "__len__" = some none) (h2 : PySem.W.findIn K (.ref C) "__length_hint__" = some none) : Itn P w K mg base CX k C sp :=
  let ⟨f, fd, ps, F, M, B⟩ := d.ex
  ⟨f, fd, ps, F, ⟨M.at_, M.fn, h1, h2⟩, B⟩
abbrev BodyG (P : Program) (w : World) (K : PySem.W.Frag) (mg : Str → Option Value) (base : Heap) (qual : Str) (st : Stmt) (N : List Str) (k : Nat) (sp : SpG) : Prop :=
  ∀ (f : Addr) (cdv : Value) (A : Around) (outer : List Env) (s : Shared) (H : Hp) (vs : List V) (Q : List V → Hp → Prop) (E : XK) (pn : List (Addr × Obj)), Room k (A.deeper (envOfC qual (defScope st) s.heap.objs.size f cdv)) → sp vs H Q E →
      ∃ t, GSs (gcxOf P w K mg base N qual (defScope st) f cdv A outer s H E pn) (defBody st) t ∧ t { nx := fun ys _ H' => Q ys H', rt := fun ys v H' => v = .non ∧ Q ys H' } [] (L2.start N vs) H
theorem MD.gm (D : MD K C m qual st) (S : GScope N ps (defScope st)) (b : BindOk m qual st ps) (len : ∀ vs H Q E, spg vs H Q E → vs.length = ps.length) (body : BodyG P w K mg base qual st N k spg) : GMn P w K mg base (k + 1) C m spg := by
  obtain ⟨f, fd, F, M⟩ := D.ex
  have hb := F.binds b
  obtain ⟨oc, od, kV, doc, pm, an, cdv, ct, osl, e, lk, hcd⟩ := F.ex
  subst e
  exact ⟨f, _, ps, gfn_of lk hcd S len fun A outer s H vs Q E pn hr h => body f cdv A outer s H vs Q E pn hr h, M, hb⟩
end
section
variable {X : Cx} {CX : CXT} {k j : Nat} {C : Addr} {sp : Sp} {spg : SpG} {E : XK} {x m : Str} {p pos apos : Pos} {e o : Expr} {es : List Expr} {ta tb : TE} {t : TA}
theorem pe_sub_ {ea eb : Expr} (d : Gn X.prog X.w X.K X.mg X.base CX k C sp) (hr : Room j X.A) (hk : k + 1 ≤ j) (hx : Passes CX X E) (ha : PE X ea ta) (hb : PE X eb tb)
    (hs : ∀ o i, subscripted eb true o i = runValue (.builtin "lifetime.subscript" ⟨[o, i], []⟩)) : PE X (.Subscript ea eb pos) (tSubO C sp E ta tb) := by
  obtain ⟨f, fd, ps, F, c, B⟩ := d.ex
  exact pe_subO ha hb c F (hr.mono hk) B hx hs
theorem call_listOn (d : Itn X.prog X.w X.K X.mg X.base CX k C sp) (hr : Room j X.A) (hk : k + 2 ≤ j) (hx : Passes CX X E) : CallR X (.type "list") (rListO X.K C sp E) := by
  obtain ⟨f, fd, ps, F, c, B⟩ := d.ex
  exact call_listO c F B hx (hr.mono hk)
theorem pe_p {f : Str} (d : Pn X.prog X.w X.K X.mg X.base CX k C f sp) (c : Cls X.K C) (hr : Room j X.A) (hk : k + 1 ≤ j) (hx : Passes CX X.nox E) (he : PE X e ta) (hab : attributeBase e f X.env (eval e X.env) = eval e X.env) : PE X (.Attribute e f pos) (tProp C sp [] E ta) := by
  obtain ⟨p, g, fd, ps, F, hp, B⟩ := d.ex
  exact pe_prop he c hp F (hr.mono hk) B .nil hx hab
theorem pgen_m {E : XK} {pl : Sem Bool} (d : GMn X.prog X.w X.K X.mg X.base k C m spg) (c : Cls X.K C) (hr : Room j X.A) (hk : k ≤ j) (he : PE X o ta)
    (ht : eval (.Call (.Attribute o m apos) [] [] pos) X.env = (do
      let ov ← eval o X.env
      standAt apos.atName
      let (f, first) ← holding [ov] (getMethod ov m pl)
      callWith pos f first (backTo pos (starEach [] X.env)) (backToKw pos (keywordEach [] X.env))) := by rfl) : PGen X k (.Call (.Attribute o m apos) [] [] pos) (tMethG C m spg [] E ta tNil) E := by
  obtain ⟨f, fd, ps, F, M, B⟩ := d.ex
  exact pgen_meth0 he c M F (hr.mono hk) B .nil ht
theorem gcxK {P : Program} {w : World} {K : PySem.W.Frag} {mg : Str → Option Value} {base : Heap} {N : List Str} {qual : Str} {scope : Scope} {f : Addr} {cd : Value} {A : Around} {outer : List Env} {s : Shared} {H : Hp} {E : XK} {pn : List (Addr × Obj)} : (gcxOf P w K mg base N qual scope f cd A outer s H E pn).K = K := rfl
theorem noStop0 {K : PySem.W.Frag} : NoStop K E0 := fun _ _ _ h => h.elim
end
end UL

set_option Elab.async false
set_option linter.all false
set_option maxRecDepth 100000
set_option maxHeartbeats 4000000
/-! super().__init__(x) of an own class over ValueError: the wrapper bound to the instance, at the library's level -/
namespace UV
open PySem PySem.W PySem.Calls PyProof.Rows
abbrev wr : Value := .builtin "ValueError.__init__"
abbrev bv (a : Addr) : Obj := { cls := .type "method-wrapper", dict := none, data := .fields #[wr, .ref a], slots := #[] }
abbrev su (D a C : Addr) : Obj := { cls := .type "super", dict := none, data := .fields #[.ref D, .ref a, .ref C], slots := #[] }
theorem ty_wr : typeOf wr = pure (.type "wrapper_descriptor") := by show builtinType _ = _; rw [builtinType_eq_fast]; kernel_rfl
theorem nm_wr : (kfb_private% "nameAndClass") wr = (pure (("__init__" : Str), Value.type "ValueError") : Sem (Str × Value)) := by kernel_rfl
section
variable {P : Program} {w : World} {M : Model} {A : Around} {E : Value → Shared → Prop} {h : Heap} {g : Array GenState} {d : Drawn} {t : Nat} {os : OsState}
theorem get_wr {a C : Addr} {R : Fin → Shared → Prop} (is : W.Looks M h (isInstance (.ref a) (.type "ValueError")) true) (q : R (.done (.ret (.ref h.objs.size))) ⟨h.push (bv a), g, d, t, os⟩) : wpAny M A (Builtin.«wrapper_descriptor.__get__» ⟨[wr, .ref a, .ref C], []⟩) R E ⟨h, g, d, t, os⟩ := by
  unfold Builtin.«wrapper_descriptor.__get__»
  refine wpAny_bind (wpAny_of_eq (a := (wr, some (.ref a), some (.ref C))) (by first | rfl | kernel_rfl) ?_); show wpAny M A ((kfb_private% "checkInstance") wr (.ref a) >>= fun _ => newFields "method-wrapper" [wr, .ref a] >>= fun r => ret r) R E _
  refine wpAny_bind ?_; show wpAny M A ((kfb_private% "nameAndClass") wr >>= _) _ E _
  refine wpAny_bind (wpAny_of_eq nm_wr ?_); show wpAny M A (isInstance (.ref a) (.type "ValueError") >>= _) _ E _
  exact wpAny_bind (is.at (KFB.if_not rfl (wpAny_pure (wpAny_bind (wpAny_newObj_type (wpAny_pure q))))))
theorem sup_get {so D a C : Addr} {m0 m1 : List Value} {K : Frag} {tk : Tok} {R : Fin → Shared → Prop} (e : h.get? so = some (su D a C)) (no : W.Looks (model P w) h (opaqueClassAbove (.ref C)) none) (mr : W.Looks (model P w) h (mroOf (.ref C)) m0) (cut : (m0.dropWhile (· != .ref D)).drop 1 = m1)
    (X : K.In h) (al : alongIn K "__init__" m1 = some (some wr)) (ne : a ≠ C) (is : W.Looks (model P w) h (isInstance (.ref a) (.type "ValueError")) true) (q : R (.done (.ret (.ref h.objs.size))) ⟨h.push (bv a), g, d, t, os⟩) :
    wpAny (model P w) A (Builtin.«super.__getattribute__» ⟨[.ref so, .str "__init__" tk], []⟩) R E ⟨h, g, d, t, os⟩ := by
  have l1 := ESX.slot_wd.lookup
  have nq : (Value.ref a == Value.ref C) = false := by simp [ne]
  have t1 := ty_wr
  have t2 : Shared.TypeIs ⟨h, g, d, t, os⟩ wr "wrapper_descriptor" := ty_wr
  have dt : (su D a C).data = .fields #[.ref D, .ref a, .ref C] := rfl
  have k0 : (#[.ref D, .ref a, .ref C] : Array Value)[0]? = some (.ref D) := rfl
  have k1 : (#[.ref D, .ref a, .ref C] : Array Value)[1]? = some (.ref a) := rfl
  have k2 : (#[.ref D, .ref a, .ref C] : Array Value)[2]? = some (.ref C) := rfl
  have hn : (("__init__" : Str) == ("__class__" : Str)) = false := by decide
  unfold Builtin.«super.__getattribute__»
  repeat (first | (with_reducible refine wpAny_field e dt k0 ?_) | (with_reducible refine wpAny_field e dt k1 ?_) | (with_reducible refine wpAny_field e dt k2 ?_) | (with_reducible refine ks_wpAny_notOpaque no ?_) | (with_reducible refine Looks.at mr ?_; rw [cut]) | (refine ks_forIn_along X (fun _ _ => rfl) rfl ?_ al) | (with_reducible refine wpAny_call_entry ESX.slot_wd t2 ESX.entry_wd ?_ (ESX.args_wd _ _ _)) | (with_reducible refine get_wr is ?_) | (with_reducible refine ⟨_, rfl, ?_⟩) | (simp only [hn, nq, Bool.or_false, Bool.false_eq_true, if_false]) | wp_step | dsimp only)
  all_goals exact q
theorem sup_meth {so D a C : Addr} {m0 m1 : List Value} {K : Frag} {pl : Sem Bool} {R : Value × List Value → Shared → Prop} (e : h.get? so = some (su D a C)) (no : W.Looks (model P w) h (opaqueClassAbove (.ref C)) none) (mr : W.Looks (model P w) h (mroOf (.ref C)) m0) (cut : (m0.dropWhile (· != .ref D)).drop 1 = m1)
    (X : K.In h) (al : alongIn K "__init__" m1 = some (some wr)) (ne : a ≠ C) (is : W.Looks (model P w) h (isInstance (.ref a) (.type "ValueError")) true) (q : R (.ref h.objs.size, []) ⟨h.push (bv a), g, d, t + 1, os⟩) : wpAny (model P w) A (getMethod (.ref so) "__init__" pl) R E ⟨h, g, d, t, os⟩ := by
  have l1 := F.ks_slot_super_ga.lookup
  have ty : ∀ t', (⟨h, g, d, t', os⟩ : Shared).TypeIs (.ref so) "super" := fun _ => ⟨_, e, rfl⟩
  unfold getMethod
  refine wpAny_bind (wpAny_specialOf (ty _) l1 ?_); show wpAny _ _ (if (Manifest.canonical "super.__getattribute__" != "object.__getattribute__") = true then _ else _) _ _ _
  rw [if_pos F.ks_canon_super_ga]; unfold getAttr getAttrBy
  refine wpAny_bind (wpAny_bind (wpAny_mkText (wpAny_holding (wpAny_bind (wpAny_typeOf (ty _) (wpAny_bind (wpAny_of_eq l1 ?_))))))); show wpAny _ _ (getAttrByItsOwn (.ref so) (.str "__init__" t) (.type "super") (.builtin "super.__getattribute__") true false) _ _ _
  unfold getAttrByItsOwn hookBefore callGetattribute boundAndCalled
  refine wpAny_bind (wpAny_of_eq (show (if onTheHeap (.type "super") then typeLookup (.type "super") "__getattr__" else pure none) = pure none from rfl) (wpAny_bind (wpAny_attempt (wpAny_holding ?_)))); show wpAny _ _ (bindSpecial (.builtin "super.__getattribute__") (.ref so) >>= _) _ _ _
  refine wpAny_bind (wpAny_of_eq (F.ks_slot_super_ga.bind _) (wpAny_mono (Q := fun v s' => v = .ref h.objs.size ∧ s' = ⟨h.push (bv a), g, d, t + 1, os⟩) (E := fun _ _ => False) (wpAny_call_entry F.ks_slot_super_ga (ty _) F.ks_entry_super_ga (sup_get e no mr cut X al ne is ⟨_, rfl, rfl, rfl⟩) (F.ks_gaArgs_super _ _)) (fun v s' hv => ?_) fun _ _ z => z.elim))
  obtain ⟨rfl, rfl⟩ := hv; exact wpAny_pure (wpAny_pure q)
end
section
variable {P : Program} {w : World} {M : Model} {A : Around} {E : Value → Shared → Prop} {s : Shared}
theorem cw0 {pos : Pos} {u a : Addr} {args : List (Bool × Sem Value)} {Q : Value → Shared → Prop} (pl : args.any (·.1) = false)
    (q : wpAny M A (evalArgs (.ref u) true args []) (fun r s₁ => s₁.heap.get? u = some (bv a) ∧ wpAny M A (call (.ref u) ([] ++ r.pos) r.kw) Q E s₁) E s) : wpAny M A (callWith pos (.ref u) [] args []) Q E s := by
  unfold callWith
  refine wpAny_bind (wpAny_holding (wpAny_mono q (fun r s₁ z => wpAny_bind (wpAny_standAt ?_)) fun _ _ x => x)); obtain ⟨o, z⟩ := z
  simp only [pl, List.any_nil, Bool.or_false]
  refine wpAny_bind (m := keeperOf (.ref u)) ?_; unfold keeperOf
  refine wpAny_bind (wpAny_load o ?_); simp only [bv, show (Value.type "method-wrapper" != Value.type "method") = true by decide, show (Value.type "method-wrapper" == Value.type "builtin_function_or_method" || Value.type "method-wrapper" == Value.type "method-wrapper") = true by decide, if_true]
  exact wpAny_pure (wpAny_bind (wpAny_mono z (fun r s₂ hr => wpAny_bind (wpAny_holding (wpAny_point (wpAny_pure hr)))) fun _ _ x => x))
theorem cw_bv {pos : Pos} {u a : Addr} {env : Env} {e : Expr} {es : List Expr} {Q : Value → Shared → Prop} (q : wpAny M A (spliced (backTo pos (starEach (e :: es) env))) (fun vs s₁ => s₁.heap.get? u = some (bv a) ∧ wpAny M A (call (.ref u) vs) Q E s₁) E s)
    (he : starEach (e :: es) env = (false, eval e env) :: starEach es env := by rfl) (pl : (backTo pos (starEach es env)).any (·.1) = false := by rfl) : wpAny M A (callWith pos (.ref u) [] (backTo pos (starEach (e :: es) env)) []) Q E s := by
  rw [he] at q ⊢
  exact cw0 (a := a) (by show (false || (backTo pos (starEach es env)).any (·.1)) = false; rw [pl]; rfl) (evalArgs_plain q)
end
section
variable {P : Program} {w : World} {A : Around} {E : Value → Shared → Prop} {h : Heap} {g : Array GenState} {d : Drawn} {t : Nat} {os : OsState} {nm q : Str} {C N : Addr} {bs bm : List Value} {hdct : Bool} {sn : List Str} {sub : List Value} {ab : Bool} {col : Option Bool} {dd : Option Addr} {k0 k1 k2 k3 k5 : Option Value}
theorem chk_bv (hm : HandSPX.refsVE bm = true) {e : Addr} {oe : Obj} {us : List Value} {Q : Unit → Shared → Prop} (hC : h.get? C = some (excClassObj nm q C N bs bm hdct sn sub ab col dd k0 k1 k2 k3 k5 "ValueError.__new__")) (he : h.get? e = some oe) (hc : oe.cls = .ref C) (z : Q () ⟨h, g, d, t, os⟩) :
    wpAny (model P w) A (checkBoundCall "ValueError.__init__" ⟨.ref e :: us, []⟩) Q E ⟨h, g, d, t, os⟩ := by
  have F := PySem.F.excBase_ValueError
  have f1 := F.noStar
  simp only [checkBoundCall, F.initKind, F.initRow]
  repeat (first | (with_reducible refine wpAny_loadPart_at he ?_; rw [hc]) | with_reducible refine wpAny_loadPart_at hC ?_ | wp_step)
  refine wpAny_onRaise ?_; rw [show ∀ (x y : String) (i : Nat), Bind.check ⟨.positional, "*", "ValueError", .self, [⟨"args", .varPos, false⟩]⟩ x y i (List.map (fun z => z.fst) ({ pos := Value.ref e :: us } : Args).kw) = pure () from fun x y i => check_star_args _ _ _ _ _ _]
  exact wpAny_pure z
theorem call_bv (hm : HandSPX.refsVE bm = true) {u e t0 : Addr} {us : List Value} {Q : Value → Shared → Prop} (hC : h.get? C = some (excClassObj nm q C N bs bm hdct sn sub ab col dd k0 k1 k2 k3 k5 "ValueError.__new__")) (he : h.get? e = some (HandSPX.excO C t0)) (hu : h.get? u = some (bv e)) (hl : us.length ≤ sizeLine)
    (z : ∀ h' t1, (∀ b o, b ≠ e → h.get? b = some o → h'.get? b = some o) → h'.get? e = some (HandSPX.excO C t1) → Q .none ⟨h', g, d, t, os⟩) : wpAny (model P w) A (call (.ref u) us) Q E ⟨h, g, d, t, os⟩ := by
  refine wpAny_call (codeAny_of_tree ?_); show wpAny _ A.in1 (callAny (.ref u) ⟨us, []⟩) _ _ _
  simp only [callAny]; refine wpAny_bind (wpAny_load hu ?_)
  simp only [bv, show (Value.type "method-wrapper" == Value.type "method" || Value.type "method-wrapper" == Value.type "builtin_function_or_method" || Value.type "method-wrapper" == Value.type "method-wrapper") = true by decide, if_true]
  refine W.KFB.if_so (by decide) (wpAny_bind (chk_bv hm hC he rfl (wpAny_bind (wpAny_pure (wpAny_pure ⟨Code.quiet_builtin _ (by decide +kernel), codeAny_builtin F.excBase_ValueError.initEntry ?_⟩)))))
  rw [Around.under_plainId F.excBase_ValueError.init.plain _]
  wp_walk
  refine z _ h.objs.size (fun b o nb ob => (Heap.get?_update_other _ _ (Ne.symm nb)).trans (Heap.get?_push_of_some _ ob)) ?_
  rw [Heap.get?_update_self _ (Heap.get?_push_of_some _ he) rfl] <;> rfl
end
end UV

set_option Elab.async false
set_option linter.all false
set_option maxRecDepth 100000
set_option maxHeartbeats 4000000
/-! super().__init__(x) as the first statement of an exception's __init__, over the layer -/
namespace UV
open PySem PySem.W PySem.Calls PyProof.Rows L2
structure SupF (P : Program) (K : PySem.W.Frag) (mg : Str → Option Value) (C f c cc : Addr) (fd : FuncData) : Prop where
  fn : ∃ oc od osl, K.lookup f = some ⟨oc, od, .func fd, osl⟩
  par : ∃ ar, (fd.params.posonlyargs ++ fd.params.args).head? = some ar ∧ ar.arg = "self"
  code : ∃ ccl cdd vs ccs file tf, K.lookup c = some ⟨ccl, cdd, .fields vs, ccs⟩ ∧ vs[2]? = some (.str file tf) ∧ ((P.main.file : Str) == file) = true
  top : (P.main.scope.names.lookup ("super" : Str)).isSome = false
  cell : ∃ cl cld csl, K.lookup cc = some ⟨cl, cld, .cell (some (.ref C)), csl⟩
  nos : mg "super" = none
  sub : PySem.W.mroIn K C (.ref C) = some true
  op : PySem.W.nsIn K cStatics "thirdparty.any" = some none
  al : PySem.W.ks_superIn K C C "__init__" = some (some wr)
section
variable {X : Cx} {pins : List (Addr × Obj)} {σ : L2.St} {H : Hp} {s : Shared}
theorem pin1 {u : Addr} {o : Obj} (I : Inv X pins σ H s) (e : s.heap.get? u = some o) (n : H u = none) (l : u ≠ X.env.locals) (f : u ∉ X.fs) (d : ∀ v, o.data ≠ .cell v) : Inv X ((u, o) :: pins) σ H s :=
  ⟨I.ok, I.os, I.bare, I.base, I.loc, I.cell, I.free, I.freeC, fun p hp => (List.mem_append.mp hp).elim (fun z => I.pin p (List.mem_append_left _ z)) fun z => (List.mem_cons.mp z).elim (fun w => w ▸ ⟨e, n, l, f, d⟩) fun w => I.pin p (List.mem_append_right _ w), I.hok, I.len⟩
theorem unpin1 {q : Addr × Obj} (I : Inv X (q :: pins) σ H s) : Inv X pins σ H s :=
  ⟨I.ok, I.os, I.bare, I.base, I.loc, I.cell, I.free, I.freeC, fun p hp => (List.mem_append.mp hp).elim (fun z => I.pin p (List.mem_append_left _ z)) fun z => I.pin p (List.mem_append_right _ (List.mem_cons_of_mem _ z)), I.hok, I.len⟩
theorem sup_stmt {C f c cc a : Addr} {fd : FuncData} {body : List Stmt} {e : Expr} {ta : TA} {p0 p1 p2 p3 p4 : Pos} {R : List V → Hp → Prop} {Q : Flow → Shared → Prop} (T : OexC X.K C) (F : SupF X.prog X.K X.mg C f c cc fd)
    (hfu : X.env.func = some f) (hco : X.env.code = .ref c) (hce : X.env.cells.lookup ("__class__" : Str) = some cc) (hks : X.env.kindOf "super" = some .globalImplicit) (hkc : X.env.kindOf "__class__" = some .free) (hka : X.env.kindOf "self" = some .local)
    (hN : X.N[0]? = some ("self" : Str)) (I : Inv X pins σ H s) (h0 : σ[0]? = some (some (.ref a))) (ha : H a = some (exo a C none)) (he : PA X [e] ta) (h : ta σ H fun vs H1 => vs.length ≤ 1000 ∧ H1 a = some (exo a C none) ∧ R vs H1)
    (q : ∀ s' y H1, Inv X pins σ H1 s' → R y H1 → Q .next s') (hi : interactive X.env = false := by rfl) (hs : swapsWith (.Call (.Attribute (.Call (.Name "super" p0) [] [] p1) "__init__" p2) [e] [] p3) none p4.line X.env = pure false := by rfl)
    (hst : starEach [e] X.env = (false, eval e X.env) :: starEach [] X.env := by rfl)
    {pl : Sem Bool} (hev : eval (.Call (.Attribute (.Call (.Name "super" p0) [] [] p1) "__init__" p2) [e] [] p3) X.env = (do
      let ov ← attributeBase (.Call (.Name "super" p0) [] [] p1) "__init__" X.env (eval (.Call (.Name "super" p0) [] [] p1) X.env)
      standAt p2.atName
      let (f, first) ← holding [ov] (getMethod ov "__init__" pl)
      callWith p3 f first (backTo p3 (starEach [e] X.env)) []) := by rfl) :
    _root_.PySem.wpAt (model X.prog X.w) X.A (.func body X.env) (exec (.Expr (.Call (.Attribute (.Call (.Name "super" p0) [] [] p1) "__init__" p2) [e] [] p3) p4) X.env) Q X.xe s := by
  obtain ⟨nm, qn, N, bs, bm, sn, sub, ab, col, dd, k0, k1, k2, k3, k5, hC, hbm⟩ := T.cls
  obtain ⟨oc, od, osl, lf⟩ := F.fn
  obtain ⟨ar, hp, har⟩ := F.par
  obtain ⟨ccl, cdd, vs, ccs, file, tf, lc, hvs, hfile⟩ := F.code
  obtain ⟨cl, cld, csl, lcc⟩ := F.cell
  obtain ⟨mb, hb1, hb2⟩ := I.mod.blt
  refine ks_wpAt_Expr_any (ks_wpAt_MethodCall (pl := pl) (ks_wpAt_super_base hks hkc (by decide) hfu (I.kIn _ _ lf) rfl hp hco (I.kIn _ _ lc) rfl hvs hfile F.top ?_) hev) hi hs
  refine ks_loadName_global I.ok.kind hks (loadGlobal_builtin (by rw [I.ok.glob]; exact I.mod.glob.keeps I.bk) F.nos (by rw [I.ok.blt]; exact hb1.keeps I.bk) ((hb2 _ (by decide)).trans (by decide +kernel)) ⟨rfl, ?_⟩)
  refine wpAny_loadName_free I.ok.kind hkc hce ⟨_, I.kIn _ _ lcc, rfl⟩ ?_
  obtain ⟨ml, hns, hlk⟩ := I.loc
  obtain ⟨u0, ru, lk⟩ := hlk 0 "self" (.ref a) hN h0 (.inl hka)
  obtain rfl : u0 = Value.ref a := ru
  have hv : ml "self" = some (.ref a) := lk.elim (fun z => z.2) fun z => by
    rcases z.1 with y | y <;> · rw [hka] at y; cases y
  rw [har]
  refine wpAny_loadName_local I.ok.kind hka hns hv ?_
  obtain ⟨t1, ho⟩ := exo_at I.hok ha
  have hcl : PySem.W.clsIn X.K C = some { name := nm, bases := bs, mro := .ref C :: bm, ns := N, qualname := qn, hasDict := true, slotNames := sn, subclasses := sub, abstract := ab, collection := col, hasDel := false } := by unfold PySem.W.clsIn; rw [hC] <;> rfl
  have kin := I.kIn
  have hfr := I.hok
  obtain ⟨hp0, g, dr, tk, os⟩ := s
  refine ks_wpAny_isType_cls (kin _ _ hC) rfl ⟨rfl, ks_wpAny_call_super (kin _ _ hC) rfl ho rfl (fun c z => by cases z) (looks_mroIn kin F.sub) fun h1 e1 kp1 => ?_⟩
  have I1 : L2.Inv X pins σ H ⟨h1, g, dr, tk, os⟩ := I.kept (t' := tk) kp1
  have hal : alongIn X.K "__init__" bm = some (some wr) := by
    have z := F.al
    unfold ks_superIn at z
    rw [hcl, Option.bind_some, ESX.drop_own] at z
    exact z
  have J1 : InstAt h1 a (HandSPX.excO C t1) C none := ⟨kp1 _ _ ho, rfl, rfl, trivial⟩
  have hbm2 : HandSPX.refsVE (.ref C :: bm) = true := hbm
  have hve : PySem.W.mroIn X.K C (.type "ValueError") = some true := by
    unfold PySem.W.mroIn
    rw [hcl, Option.bind_some, if_neg (by rw [HandSPX.refsVE_ne hbm2]; decide), HandSPX.refsVE_contains "ValueError" _ hbm2]
    decide +kernel
  have kin1 := I1.kIn
  refine sup_meth e1 (looks_opaque kin1 F.op) ((looks_clsIn kin1 hcl).andThen .now) (ESX.drop_own C bm) kin1 hal (ks_ne kin1 J1 hcl) (J1.type.andThen (looks_mroIn kin1 hve)) ?_
  have eb : (h1.push (bv a)).get? h1.objs.size = some (bv a) := Heap.get?_push_size _ rfl
  have I2 : L2.Inv X pins σ H ⟨h1.push (bv a), g, dr, tk + 1, os⟩ := I1.kept (t' := tk + 1) fun b o z => Heap.get?_push_of_some _ z
  have I3 := pin1 I2 eb (I1.hok.fresh (Nat.le_refl _)) (Nat.ne_of_gt I1.lt) (I1.nofs (Nat.le_refl _)) (fun v z => nomatch z)
  refine cw_bv (a := a) (thn (he.run p3 _ _ σ H _ I3 h) fun us s2 hz => ?_) hst rfl
  obtain ⟨vs2, H1, I4, r4, hl4, ha4, hr4⟩ := hz
  have hu4 := (I4.pin _ (List.mem_append_right _ List.mem_cons_self)).1
  have kin4 := I4.kIn
  obtain ⟨t4, ho4⟩ := exo_at I4.hok ha4
  obtain ⟨hp4, g4, d4, tk4, os4⟩ := s2
  refine ⟨hu4, call_bv hbm (kin4 _ _ hC) ho4 hu4 (by rw [← r4.length, sizeLine_eq]; omega) fun h5 t5 kp5 ho5 => ?_⟩
  have I5 := I4.write (t' := tk4) (x := a) (e := a) (o := exo a C none) (by rw [ha4]; exact True.intro) (.inl rfl) kp5 ⟨_, ho5⟩ (exo_ok ho5)
  rw [UL.upd_self ha4] at I5
  exact q _ vs2 H1 (unpin1 I5) hr4
end
end UV

set_option Elab.async false
set_option linter.all false
set_option maxRecDepth 100000
set_option maxHeartbeats 4000000
/-! an exception's __init__ that begins with super().__init__(x): its promise by its body -/
namespace UV
open PySem PySem.W PySem.Calls PyProof.Rows L2 NdefX
abbrev supSt (e : Expr) (p0 p1 p2 p3 p4 : Pos) : Stmt := .Expr (.Call (.Attribute (.Call (.Name "super" p0) [] [] p1) "__init__" p2) [e] [] p3) p4
section
variable {CX : CXT} {P : Program} {w : World} {K : PySem.W.Frag} {mg : Str → Option Value} {base : Heap} {k : Nat} {f c cc C : Addr} {name qual : Str} {params : Arguments} {e : Expr} {p0 p1 p2 p3 p4 : Pos} {rest : List Stmt} {scope : Scope}
  {kV doc pm ct oc : Value} {an od : Option Addr} {osl : Array (Option Value)} {N ps : List Str} {sp : Sp}
abbrev supNF (name qual : Str) (params : Arguments) (e : Expr) (p0 p1 p2 p3 p4 : Pos) (rest : List Stmt) (scope : Scope) (cc c : Addr) : NF := ⟨name, qual, params, supSt e p0 p1 p2 p3 p4 :: rest, scope, [("__class__", cc)], c⟩
theorem fn_sup (lk : K.lookup f = some ⟨oc, od, .func (fnX name qual params (supSt e p0 p1 p2 p3 p4 :: rest) scope [("__class__", cc)] .none kV doc pm an (.ref c) ct), osl⟩) (hcd : codeIn K (.ref c) qual = true) (S : NScope N ("self" :: ps) ["__class__"] scope) (T : OexC K C)
    (F : SupF P K mg C f c cc (fnX name qual params (supSt e p0 p1 p2 p3 p4 :: rest) scope [("__class__", cc)] .none kV doc pm an (.ref c) ct)) (hks : scope.names.lookup ("super" : Str) = some .globalImplicit) (len : ∀ vs H Q E, sp vs H Q E → vs.length = ("self" :: ps : List Str).length)
    (hbody : ∀ (A : Around) (outer : List Env) (s : Shared) (H : Hp) (vs : List V) (Q : VK) (E : XK), Room k (A.deeper (envF (supNF name qual params e p0 p1 p2 p3 p4 rest scope cc c) f s.heap.objs.size)) → sp vs H Q E →
      ∃ (a : Addr) (ta : TA) (t : TS), vs.head? = some (.ref a) ∧ H a = some (exo a C none) ∧ PA (ncx CX P w K mg base N (supNF name qual params e p0 p1 p2 p3 p4 rest scope cc c) f A outer s H E) [e] ta ∧
        PSs (ncx CX P w K mg base N (supNF name qual params e p0 p1 p2 p3 p4 rest scope cc c) f A outer s H E) rest t ∧
        ta (startF N vs [some (.ref C)]) H fun us H1 => us.length ≤ 1000 ∧ H1 a = some (exo a C none) ∧ t { nx := fun _ H' => Q .non H', rt := Q } (startF N vs [some (.ref C)]) H1)
    (hi : ∀ L, interactive (envF (supNF name qual params e p0 p1 p2 p3 p4 rest scope cc c) f L) = false := by intro _; rfl) (hs : ∀ env, swapsWith (.Call (.Attribute (.Call (.Name "super" p0) [] [] p1) "__init__" p2) [e] [] p3) none p4.line env = pure false := by intro _; rfl)
    (hst : ∀ env, starEach [e] env = (false, eval e env) :: starEach [] env := by intro _; rfl) {pl : Sem Bool} (hev : ∀ env, eval (.Call (.Attribute (.Call (.Name "super" p0) [] [] p1) "__init__" p2) [e] [] p3) env = (do
      let ov ← attributeBase (.Call (.Name "super" p0) [] [] p1) "__init__" env (eval (.Call (.Name "super" p0) [] [] p1) env)
      standAt p2.atName
      let (f, first) ← holding [ov] (getMethod ov "__init__" pl)
      callWith p3 f first (backTo p3 (starEach [e] env)) []) := by intro _; rfl) :
    FnOk P w K mg base CX (k + 1) f (fnX name qual params (supSt e p0 p1 p2 p3 p4 :: rest) scope [("__class__", cc)] .none kV doc pm an (.ref c) ct) ("self" :: ps) sp := by
  refine ⟨len, fun A outer s H args us vs Q E hr e0 hb r hsp => ?_⟩
  have hl := len _ _ _ _ hsp
  have KX : K.In s.heap := e0.mod.kin.keeps fun b o z => (e0.bs b o z).1
  have lim : s.heap.NoLimit := e0.mod.nolimit.keeps fun b o z => (e0.bs b o z).1
  obtain ⟨cl, cld, csl, lcc⟩ := F.cell
  have hcc := e0.bs _ _ (e0.mod.kin _ _ lcc)
  have CA : CellsAt [(("__class__" : Str), cc)] ["__class__"] [some (V.ref C)] s.heap H := by
    have one : ∀ y c', List.lookup y [(("__class__" : Str), cc)] = some c' → c' = cc ∧ y = "__class__" := fun y c' z => by
      by_cases hy : y = "__class__"
      · subst hy; simp at z; exact ⟨z.symm, rfl⟩
      · have : (y == ("__class__" : Str)) = false := by simpa using hy
        simp [List.lookup, this] at z
    refine ⟨rfl, fun y c' z => ?_, fun x y c' zx zy => ?_, fun i y z => ?_⟩
    · obtain ⟨rfl, _⟩ := one y c' z
      exact ⟨hcc.2, _, _, hcc.1, rfl⟩
    · rw [(one x c' zx).2, (one y c' zy).2]
    · cases i with
      | zero =>
        cases z
        exact ⟨cc, by simp [List.lookup], fun v zv => by cases zv; exact ⟨.ref C, rfl, _, hcc.1, rfl⟩⟩
      | succ i => simp at z
  refine codeAny_call_function hr.depth (KX _ _ lk) rfl S.co S.gen rfl (codeRec_of KX hcd) (hb _ _ _ _ ?_)
  refine wpAny_newFunctionEnv S.nocell (fun ⟨n, _⟩ hy => S.par n (List.of_mem_zip hy).1) (fun h₁ hns hsb => ⟨lim.fresh _ hsb, ?_⟩) S.kind
  show codeAny _ _ (.func (supSt e p0 p1 p2 p3 p4 :: rest) (envF (supNF name qual params e p0 p1 p2 p3 p4 rest scope cc c) f s.heap.objs.size)) _ _
  refine ks_codeAny_funcAt ?_
  have kp : ∀ b o, s.heap.get? b = some o → h₁.get? b = some o := fun b o z => hsb.extBut b o (Nat.ne_of_lt (Heap.lt_size z)) (Heap.get?_push_of_some _ z)
  obtain ⟨a, ta, t, hva, ha, pa, ht, hq⟩ := hbody A outer s H vs Q E (hr.deeper _) hsp
  have I : L2.Inv (ncx CX P w K mg base N (supNF name qual params e p0 p1 p2 p3 p4 rest scope cc c) f A outer s H E) [] (startF N vs [some (.ref C)]) H { s with heap := h₁, toks := s.toks + ((("self" : Str) :: ps).zip us).length } := inv_startN S hr.hd e0 hl r CA hns kp
  have hN : N[0]? = some ("self" : Str) := by
    have z := congrArg (fun l : List Str => l[0]?) S.pre
    simp only [List.cons_append, List.getElem?_cons_zero] at z
    rw [List.getElem?_take_of_lt (by simp)] at z
    exact z
  have h0 : (startF N vs [some (V.ref C)])[0]? = some (some (.ref a)) := by
    cases vs with
    | nil => cases hva
    | cons v r => cases hva; rfl
  have hkF : ∀ (x : Str) (nk : NameKind), scope.names.lookup x = some nk → (ncx CX P w K mg base N (supNF name qual params e p0 p1 p2 p3 p4 rest scope cc c) f A outer s H E).env.kindOf x = some nk := fun x nk z => z
  refine ks_wpAt_mono (ks_wpAt_execs_cons (sup_stmt (X := ncx CX P w K mg base N (supNF name qual params e p0 p1 p2 p3 p4 rest scope cc c) f A outer s H E) (R := fun _ H1 => t { nx := fun _ H' => Q .non H', rt := Q } (startF N vs [some (V.ref C)]) H1) T F rfl rfl (by show List.lookup _ [_] = _; simp [List.lookup]) (hkF _ _ hks) (hkF _ _ (S.frk _ List.mem_cons_self)) (hkF _ _ (S.par _ List.mem_cons_self)) hN I h0 ha pa hq
    (fun s' us' H1 I1 h1 => _root_.PySem.wpAt_of_wpAny (ht.run [] s' _ H1 _ I1 h1)) (hi _) (hs _) (hst _) (hev _))) (fun fl s' hs => ?_) fun e s' hs => hs
  have fin : ∀ {σ' : L2.St} {H' : Hp} {v : V} {u : Value}, L2.Inv (ncx CX P w K mg base N (supNF name qual params e p0 p1 p2 p3 p4 rest scope cc c) f A outer s H E) [] σ' H' s' → L2.RelV v u → Q v H' → CE outer P w H s Q u s' :=
    fun {σ' H' v u} J rv q => ⟨v, H', J.os, J.bare, J.base, J.hok, rv, q⟩
  cases fl with
  | next => obtain ⟨σ', H', J, z⟩ := hs; exact fin (v := V.non) (u := Value.none) J rfl z
  | ret u => obtain ⟨v, σ', H', J, rv, z⟩ := hs; exact fin J rv z
  | brk => obtain ⟨_, _, _, z⟩ := hs; exact z.elim
  | cont => obtain ⟨_, _, _, z⟩ := hs; exact z.elim
end
end UV

set_option Elab.async false
set_option linter.all false
set_option maxRecDepth 100000
set_option maxHeartbeats 4000000
/-! isinstance of a caught exception that has a dict; several except clauses, each `as n` -/
namespace UV
open PySem PySem.W PySem.Calls PyProof.Rows L2
section
variable {P : Program} {w : World} {A : Around} {E : Value → Shared → Prop} {s : Shared} {K : Frag} {a D : Addr} {ox : Obj} {dd : Obj}
theorem cls_exc {Q : Option Value → Shared → Prop} (c : ExcC K D) (X : K.In s.heap) (I : InstAt s.heap a ox D (some dd)) (q : Q (some (.ref D)) { s with toks := s.toks + 1 }) : wpAny (model P w) A (getAttr? (.ref a) "__class__") Q E s := by
  have hc : (clsIn K D).isSome = true := by obtain ⟨cd, e, _⟩ := any_some c.hd; rw [e]; rfl
  have fo : findObj K D (some dd) "__class__" = some (.bind (.builtin "getset_descriptor.__get__") (.builtin "object.__class__")) := findObj_data hc c.ha c.hn c.ht
  obtain ⟨hp, g, d, t, os⟩ := s
  have k0 := I.type (M := model P w)
  have k1 := looks_findIn (M := model P w) X c.hg
  have k2 := looks_findIn (M := model P w) X c.hk
  have k3 := looks_find (M := model P w) X I fo
  have sb : Looks (model P w) hp (isInstance (.ref a) (.type "BaseException")) true := k0.andThen (looks_subIn X c.hs)
  have b2 : (Value.builtin "BaseException.__getattribute__" == Value.builtin "object.__getattribute__") = false := by decide +kernel
  have b1 : (onTheHeap (Value.ref D) && Value.builtin "BaseException.__getattribute__" == Value.builtin "object.__getattribute__") = false := by rw [b2]; rfl
  unfold getAttr? getAttrBy? getAttrBy
  refine wpAny_bind (wpAny_mkText (wpAny_bind (wpAny_attempt (wpAny_holding (wpAny_bind (k0.at (wpAny_bind (k1.at ?_)))))))); show wpAny _ _ (if (onTheHeap (Value.ref D) && Value.builtin "BaseException.__getattribute__" == Value.builtin "object.__getattribute__") = true then _ else _) _ _ _
  rw [b1, if_neg Bool.false_ne_true]; unfold getAttrByItsOwn hookBefore
  refine wpAny_bind ?_; rw [if_pos (show onTheHeap (Value.ref D) = true from rfl)]
  refine k2.at (wpAny_bind (wpAny_attempt (wpAny_holding ?_))); unfold callGetattribute
  rw [show (false && onTheHeap (Value.builtin "BaseException.__getattribute__")) = false from rfl, if_neg Bool.false_ne_true]; unfold boundAndCalled
  rw [PySem.F.excAttr_ValueError.ga.bind (.ref a)]
  refine wpAny_bind (wpAny_pure ?_); show wpAny _ _ (call (.builtin "BaseException.__getattribute__") [.ref a, .str "__class__" t]) _ _ _
  refine wpAny_call (codeAny_call_builtin PySem.F.excAttr_ValueError.ga.plain PySem.F.entry_bexc_ga (@check_slot (model P w) _ _ ⟨hp, g, d, t + 1, os⟩ "BaseException.__getattribute__" "BaseException" "__getattribute__" (.ref a) [.str "__class__" t] [] _ (by decide +kernel) (by decide +kernel) sb (PySem.F.args_bexc_ga (.ref a) (.str "__class__" t)) ?_))
  unfold Builtin.«object.__getattribute__»
  refine wpAny_bind (wpAny_of_eq (a := ((Value.ref a : Value), [Value.str "__class__" t])) (by first | rfl | (simp only [slotArgs]; rfl)) (wpAny_bind (wpAny_pure (wpAny_bind (k0.at (wpAny_bind (k3.at ?_))))))); show wpAny _ _ (holding [Value.builtin "object.__class__"] (call (.builtin "getset_descriptor.__get__") [.builtin "object.__class__", .ref a, .ref D]) >>= ret) _ _ _
  refine wpAny_bind (wpAny_holding (wpAny_call (class_get (s := ⟨hp, g, d, t + 1, os⟩) (ox := ox) (od := some dd) X I c.hm (wpAny_pure ?_)))); show wpAny _ _ (handedOut (.ref D)) _ _ _
  rw [handedOut_of (v := .ref D) rfl]
  first | exact wpAny_pure (wpAny_pure q) | exact wpAny_pure q | exact wpAny_pure (wpAny_bind (wpAny_pure (wpAny_pure q)))
theorem kx_exc (c : ExcC K D) : KitX K (.ref a) (.ref D) (fun h => InstAt h a ox D (some dd)) where
  ty := fun _ _ _ I => I.type
  it := fun _ _ X _ => by
    obtain ⟨cd, hcd, _⟩ := any_some c.hd
    unfold clsIn at hcd
    split at hcd
    · rename_i c' d' cd' sl' ho
      intro A' Q' E' s' k q; unfold isType loadHead
      exact wpAny_bind (wpAny_loadPart (k _ _ (X _ _ ho)) (wpAny_pure q))
    · cases hcd
  ne := fun h tp dx its n sl X htp => by
    obtain ⟨cd, hcd, _⟩ := any_some c.hd
    refine Bool.eq_false_iff.mpr fun q => ?_
    have e : D = tp := Value.ref.inj (beq_iff_eq.mp q)
    subst e
    unfold clsIn at hcd
    split at hcd
    · rename_i c' d' cd' sl' ho
      have z := (X _ _ ho).symm.trans htp; cases z
    · cases hcd
  ca := fun X I k => cls_exc c X I k
end
/-- isinstance(e, c) of an exception with a dict -/
def rIsX (K : PySem.W.Frag) (a : Addr) (cls : Value) (d : Option Addr) : List V → Hp → VK → Prop := fun xs H Q => ∃ (D dx : Addr) (fs : List (Str × V)) (c : V) (cv : Value) (b : Bool), cls = .ref D ∧ d = some dx ∧ H dx = some (.xd fs) ∧ ExcC K D ∧ xs = [.ref a, c] ∧ (∀ u, RelV c u → u = cv) ∧ PySem.W.kitOne K (.ref D) cv = some b ∧ Q (.bl b) H
theorem call_isX {X : Cx} {a : Addr} {cls : Value} {d : Option Addr} {oe : Obj} {pn : List (Addr × Obj)} (hz : Zc cls d oe) (hf : ∃ vs, oe.data = .fields vs) : CallR (X.suite a ((a, oe) :: pn)) (.builtin "isinstance") (rIsX X.K a cls d) := by
  intro pins s σ H xs us Q I r h
  obtain ⟨D, dx, fs, c, cv, b, rfl, rfl, hdx, ec, rfl, hcv, e, q⟩ := h
  obtain ⟨u1, u2, rfl, ru1, ru2⟩ := vals2 r
  cases ru1
  have e2 := hcv _ ru2
  subst e2
  obtain ⟨hg, _⟩ := I.pin (a, oe) (List.mem_append.mpr (.inl List.mem_cons_self))
  obtain ⟨vs, hv⟩ := hf
  have hx : ObjOk X.prog X.w H s.heap dx (.xd fs) := I.hok dx _ hdx
  obtain ⟨mA, hns, _⟩ := hx
  obtain ⟨od, ho, _⟩ := lookIn_ns hns
  have J : PySem.W.InstAt s.heap a oe D (some od) := ⟨hg, hz.1, by unfold PySem.W.notCls; rw [hv] <;> rfl, by rw [hz.2]; exact ho⟩
  exact PySem.W.kia_one (kx_exc ec) I.kIn J e (fun z => nomatch z) fun tk => ⟨.bl b, H, I.kept (t' := tk) fun _ _ z => z, rfl, q⟩
/-! ### several except clauses, each `as n` -/
/-- a clause: the class, the slot of its name, what its suite wants -/
abbrev Cl := Value × Nat × (Addr → Value → Option Addr → TS)
def offE (D : Ends) (i : Nat) : Ends := { nx := fun σ' H' => D.nx (σ'.set i none) H', rt := D.rt, bk := fun σ' H' => D.bk (σ'.set i none) H', ct := fun σ' H' => D.ct (σ'.set i none) H' }
def wAsMany (K : PySem.W.Frag) (Wo : WX) (D : Ends) : List Cl → WX
  | [] => Wo
  | (c, i, ts) :: r => fun cls d σ H => ∃ b, PySem.W.exmOne K cls c = some b ∧ (b = true → ∀ a, H a = none → ts a cls d (offE D i) (σ.set i (some (.ref a))) H) ∧ (b = false → wAsMany K Wo D r cls d σ H)
inductive ClsOk (X : Cx) : List ExceptHandler → List Cl → Prop
  | nil : ClsOk X [] []
  | cons {x n : Str} {c : Value} {i : Nat} {ts : Addr → Value → Option Addr → TS} {st : Stmt} {suite : List Stmt} {np p' : Pos} {hds : List ExceptHandler} {l : List Cl} (hN : X.N.Nodup) (hi : X.N[i]? = some n) (hl : X.env.kindOf n = some .local) (hc : Names X x c)
      (su : ∀ (a : Addr) (oe : Obj) (cls : Value) (d : Option Addr) (pn : List (Addr × Obj)), Zc cls d oe → (∃ vs, oe.data = .fields vs) → PSs (X.suite a ((a, oe) :: pn)) (st :: suite) (ts a cls d)) (r : ClsOk X hds l) :
      ClsOk X (.ExceptHandler (some (.Name x np)) (some n) (st :: suite) p' :: hds) ((c, i, ts) :: l)
section
variable {X : Cx} {body : List Stmt} {h0 : ExceptHandler} {hds : List ExceptHandler} {l : List Cl} {pos : Pos} {tb : WX → TS} {Wo : WX}
theorem ps_try_asMany (hs : X.stack = X.env :: X.outer) (hf : X.env.frame = some X.env.locals) (tk : Takes X Wo) (hb : ∀ (W : WX) (pn : List (Addr × Obj)) (xe : Value → Shared → Prop), Takes (X.tr pn xe) W → PassesOwn (model X.prog X.w) X.A X.env xe → PSs (X.tr pn xe) body (tb W)) (hh : ClsOk X (h0 :: hds) l) :
    PS X (.Try body (h0 :: hds) [] [] pos) (fun D σ H => tb (wAsMany X.K Wo D l) D σ H) := by
  refine ⟨fun pins s σ H D I h => ?_⟩
  have ok := I.ok
  have fr : X.A.frames = some (X.env :: X.outer) := by rw [ok.frames, hs]
  refine wpAny_Try_except (wpAny_mono ((hb (wAsMany X.K Wo D l) (X.pn ++ pins) (fun e s₁ => wpAny (model X.prog X.w) X.A (noteFrame e X.env) (fun _ s₂ => wpAny (model X.prog X.w) X.A (setFlight e none) (fun _ s₃ => wpAny (model X.prog X.w) X.A (handleBy e X.env (h0 :: hds)) (SP X pins D) X.xe s₃) X.xe s₂) X.xe s₁) (fun u s' xx => ?_) PassesOwn.looking).run [] s σ H D (I.toTry _) h) (fun f s1 hsp => ?_) (fun e s1 he => he))
  · obtain ⟨a, B, sI, pins', σ', H', cls, d, rfl, J', nb, up, sky, na, os, ag, w⟩ := xx
    have J : L2.Inv X pins σ' H' sI := J'.ofTry ok
    have sky2 : Sky B (X.env :: X.outer) a (Zc cls d) X.env.locals s'.heap := by rw [← hs]; exact sky
    show wpAny (model X.prog X.w) X.A (noteFrame (.ref a) X.env) _ _ _
    refine Sky.land Zc.steady fr hf sky2 fun g3 f3 u3 => ?_
    have J3 : L2.Inv X pins σ' H' { s' with heap := g3 } := J.landed nb f3.1 (up.trans u3) os ag
    obtain ⟨o3, w3, e3, z3, d3⟩ := f3.there
    have nfr : a ∉ frs (X.env :: X.outer) := fun hm => by
      obtain ⟨_, o', e', hnf⟩ := f3.2.2.1.mem hm
      rw [e3] at e'; cases e'; exact hnf _ d3
    have nL : a ≠ X.env.locals := fun z => nfr (List.mem_filterMap.mpr ⟨X.env, List.mem_cons_self, by rw [hf, z]⟩)
    have nF : a ∉ X.fs := fun hm => let ⟨e, he, q⟩ := List.mem_filterMap.mp hm; nfr (List.mem_filterMap.mpr ⟨e, List.mem_cons_of_mem _ he, q⟩)
    have S3 := J3.suite e3 d3 na nL nF
    have go : ∀ {hd2 : List ExceptHandler} {l2 : List Cl}, ClsOk X hd2 l2 → wAsMany X.K Wo D l2 cls d σ' H' → wpAny (model X.prog X.w) X.A (handleBy (.ref a) X.env hd2) (SP X pins D) X.xe { s' with heap := g3 } := by
      intro hd2 l2 hk
      induction hk with
      | nil =>
        intro w
        refine wpAny_handleBy_nil ?_
        obtain ⟨k1, k2, k3, oe, vs, T, oT, ts', he, hz, hd, h1, hr⟩ := id f3
        unfold PySem.passOn; refine wpAny_bind (wpAny_field he hd h1 ?_); rw [if_neg (show ¬ ((Value.ref T == Value.none) = true) from by simp)]
        have fin : wpAny (model X.prog X.w) X.A (setFlight (.ref a) X.env.frame) (fun _ s4 => wpAny (model X.prog X.w) X.A (throw (.ref a) : Sem Flow) (SP X pins D) X.xe s4) X.xe { s' with heap := g3 } := by
          rw [hf]; exact HandSPX.setFlight_upZ f3 fun h4 hh4 up4 => wpAny_throw (tk _ _ ⟨a, B, sI, pins, σ', H', cls, d, rfl, J, nb, (up.trans u3).trans up4, .inr (.inr (by rw [hs]; exact hh4)), na, os, ag, w⟩)
        first | exact wpAny_bind (wpAny_pure (wpAny_bind fin)) | exact wpAny_bind fin
      | @cons x n c i ts st suite np p' hd3 l3 hN hi hln hc su r ih =>
        intro w
        obtain ⟨b, hb1, hyes, hno⟩ := w
        refine wpAny_handleBy_cons (codeAny_handlers_test ?_) (by intro q; cases q)
        have LT : PySem.W.Looks (model X.prog X.w) g3 (typeOf (.ref a)) cls := fun A Q E s k q => wpAny_typeOf_ref (k _ _ e3) (by rw [z3.1]; exact q)
        have LM := PySem.W.exm_one (M := model X.prog X.w) (J3.kIn) LT hb1
        have ts2 : ∀ {Q : Value → Shared → Prop} {E : Value → Shared → Prop}, Q c { s' with heap := g3 } → wpAny (model X.prog X.w) (X.A.mark (some (.ref a))) (eval (.Name x np) X.env) Q E { s' with heap := g3 } := fun {Q E} q => by
          obtain ⟨hg, hdbg, hm | ⟨hm, hv, hnn⟩⟩ := hc
          · exact ld_glob (X := X.suite a ((a, o3) :: (X.pn ++ pins))) S3 hg hm q hdbg
          · exact ld_blt (X := X.suite a ((a, o3) :: (X.pn ++ pins))) S3 hg hm hv q hnn hdbg
        refine ts2 (LM.here ?_)
        cases b with
        | true =>
          refine codeAny_handlers_suite_as (HandSPX.lands_againZ f3 fun g4 f4 u4 => ?_)
          have J4 : L2.Inv X pins σ' H' { s' with heap := g4 } := J.landed nb f4.1 ((up.trans u3).trans u4) os ag
          obtain ⟨o4, w4, e4, z4, d4⟩ := f4.there
          refine store_ok (X := X.suite a ((a, o4) :: (X.pn ++ pins))) (v := .ref a) (J4.suite e4 d4 na nL nF) hN hi (.inl hln) rfl (fun s5 S5 => ?_) (.inr hln)
          refine wpAny_mono ((su a o4 cls d (X.pn ++ pins) z4 ⟨_, d4⟩).run [] s5 _ H' _ S5 (hyes rfl a na)) (fun f s6 hsp => ?_) (fun _ _ z => False.elim z)
          have ed : ∀ {σ6 : L2.St} {H6 : Hp} {Q : Shared → Prop}, L2.Inv (X.suite a ((a, o4) :: (X.pn ++ pins))) [] σ6 H6 s6 → (∀ s7, L2.Inv X pins (σ6.set i none) H6 s7 → Q s7) → wpAny (model X.prog X.w) X.A (do bindName X.env n .none; unbindBehindTheSuite X.env n p') (fun _ s7 => Q s7) X.xe s6 :=
            fun {σ6 H6 Q} S6 hq => gone_ok (S6.unsuite ok) hN hi hln hq
          cases f with
          | ret u => obtain ⟨v6, σ6, H6, S6, r6, q6⟩ := hsp; exact ed S6 fun s7 J7 => ⟨_, _, _, J7, r6, q6⟩
          | next => obtain ⟨σ6, H6, S6, q6⟩ := hsp; exact ed S6 fun s7 J7 => ⟨_, _, J7, q6⟩
          | brk => obtain ⟨σ6, H6, S6, q6⟩ := hsp; exact ed S6 fun s7 J7 => ⟨_, _, J7, q6⟩
          | cont => obtain ⟨σ6, H6, S6, q6⟩ := hsp; exact ed S6 fun s7 J7 => ⟨_, _, J7, q6⟩
        | false => exact ih (hno rfl)
    exact go hh w
  · cases f with
    | ret u => obtain ⟨v, σ', H', J', r, q⟩ := hsp; exact ⟨v, σ', H', J'.ofTry ok, r, q⟩
    | next => obtain ⟨σ', H', J', q⟩ := hsp; exact wpAny_execs_nil ⟨σ', H', J'.ofTry ok, q⟩
    | brk => obtain ⟨σ', H', J', q⟩ := hsp; exact ⟨σ', H', J'.ofTry ok, q⟩
    | cont => obtain ⟨σ', H', J', q⟩ := hsp; exact ⟨σ', H', J'.ofTry ok, q⟩
end
end UV

set_option Elab.async false
set_option linter.all false
set_option maxRecDepth 100000
set_option maxHeartbeats 4000000
/-! calls in a try's body: what is raised is wished for at the caller's slots -/
namespace UV
open PySem PySem.Spec PyProof.Rows L2 UL
section
variable {X : Cx} {CX : CXT} {k j : Nat} {C : Addr} {sp : Sp} {E : L2.St → XK} {m : Str} {p pos apos : Pos} {e o : Expr} {es : List Expr} {ta tb : TE} {t : TA}
def tMethX (C : Addr) (m : Str) (sp : Sp) (E : L2.St → XK) (ta : TE) (t : TA) : TE := fun σ H Q => ta σ H fun x H1 => ∃ a dx fs, x = .ref a ∧ H1 a = some (.ins C dx fs) ∧ fs.lookup m = none ∧ t σ H1 fun vs H2 => sp (x :: vs) H2 Q (E σ)
/-- o.m(e, ..) -/
theorem pe_mX {pl : Sem Bool} (d : Mn X.prog X.w X.K X.mg X.base CX k C m sp) (c : Cls X.K C) (hr : Room j X.A) (hk : k ≤ j) (hx : ∀ σ, PassesAt CX X σ (E σ)) (he : PE X o ta) (ha : PA X (e :: es) t)
    (hst : starEach (e :: es) X.env = (false, eval e X.env) :: starEach es X.env := by rfl) (hpl : (backTo pos (starEach es X.env)).any (·.1) = false := by rfl)
    (ht : eval (.Call (.Attribute o m apos) (e :: es) [] pos) X.env = (do
      let ov ← eval o X.env
      standAt apos.atName
      let (f, first) ← holding [ov] (getMethod ov m pl)
      callWith pos f first (backTo pos (starEach (e :: es) X.env)) (backToKw pos (keywordEach [] X.env))) := by rfl) : PE X (.Call (.Attribute o m apos) (e :: es) [] pos) (tMethX C m sp E ta t) := by
  obtain ⟨f, fd, ps, F, hm, hb⟩ := d.ex
  refine ⟨fun pins s σ H Q I h => PySem.W.methodCall_KW (pl := pl) (thn (he.run pins s σ H _ I h) fun u s1 ⟨x, H1, I1, rx, a, dx, fs, ex, ea, l, q⟩ => ?_) ht⟩
  subst ex
  obtain rfl : u = Value.ref a := rx
  refine getmeth_ok I1 ea c hm l (PySem.W.callWith_K (first := [.ref a]) (h₀ := X.base) I.ok.mod.kin hm.kp (thn (ha.run pos pins s1 σ H1 _ I1 q) fun us s2 ⟨vs, H2, I2, r, q2⟩ => ⟨I2.kIn, ?_⟩) hst hpl)
  exact run_fnS (us := .ref a :: us) (vs := .ref a :: vs) F (hr.mono hk) hb (hx σ) I2 (.cons rfl r) q2
def tSubX (C : Addr) (sp : Sp) (E : L2.St → XK) (ta tb : TE) : TE := fun σ H Q => ta σ H fun x H1 => tb σ H1 fun y H2 => ∃ a dx fs, x = .ref a ∧ H2 a = some (.ins C dx fs) ∧ sp [.ref a, y] H2 Q (E σ)
/-- o[i] by an own __getitem__ -/
theorem pe_subX {ea eb : Expr} (d : Gn X.prog X.w X.K X.mg X.base CX k C sp) (hr : Room j X.A) (hk : k + 1 ≤ j) (hx : ∀ σ, PassesAt CX X σ (E σ)) (ha : PE X ea ta) (hb : PE X eb tb)
    (hs : ∀ o i, subscripted eb true o i = runValue (.builtin "lifetime.subscript" ⟨[o, i], []⟩)) : PE X (.Subscript ea eb pos) (tSubX C sp E ta tb) := by
  obtain ⟨f, fd, ps, F, c, B⟩ := d.ex
  refine ⟨fun pins s σ H Q I h => Subscript_ (binT ha hb I h fun v u s2 x y H2 I2 rx ry q => ?_)⟩
  obtain ⟨a, dx, fs, e, ho, q⟩ := q
  subst e
  cases rx
  obtain ⟨od, J⟩ := inst_of I2 ho
  obtain ⟨m, hF⟩ := I2.fr
  have hl : (([Value.ref a, u] : List Value) ++ []).length = ps.length := by rw [← F.len _ _ _ _ q]; rfl
  have hb' := B s2 [.ref a, u] I2.kIn hl
  rw [List.append_nil] at hb'
  refine PySem.W.sub_K hF I2.ok.mod.kin J c.at_ c.fn c.is (wpAny_call (codeAny_mono (F.run X.A.in1 X.stack s2 H2 ⟨[.ref a, u], []⟩ [.ref a, u] [.ref a, y] Q (E σ) (hr.mono hk).in1 I2.env0.in1 hb' (.cons rfl (.cons ry .nil)) q) fun r s' hq => ?_)) (hs _ _)
  match r, hq with
  | .error er, hq => exact hx σ pins H2 s2 er s' I2 hq
  | .ok (.ret z), hq => exact I2.after hq
  | .ok .next, hq | .ok .brk, hq | .ok .cont, hq => exact hq.elim
end
end UV

set_option Elab.async false
set_option linter.all false
set_option maxRecDepth 100000
set_option maxHeartbeats 4000000
/-! o.f = v by a property's own setter -/
namespace UW
open PySem PySem.Spec PyProof.Rows L2 UL UV
/-- the class has the name as a property at p; the setter is the def at g -/
structure PutO (K : PySem.W.Frag) (C : Addr) (x : Str) (p g : Addr) : Prop where
  tk : PySem.W.takerIn K C x = some (some (.ref p))
  ty : PySem.W.typeIn K (.ref p) = some (.type "property")
  rc : ∃ a rest, PySem.W.recIn K p "property" = some (a :: .ref g :: rest)
structure PutN (P : Program) (w : World) (K : PySem.W.Frag) (mg : Str → Option Value) (base : Heap) (CX : CXT) (k : Nat) (C : Addr) (x : Str) (sp : Sp) : Prop where
  ex : ∃ (p g : Addr) (fd : FuncData) (ps : List Str), FnOk P w K mg base CX k g fd ps sp ∧ PutO K C x p g ∧ Binds K fd ps []
section
variable {X : Cx} {CX : CXT} {k j : Nat} {C a dx : Addr} {fs : List (Str × V)} {sp : Sp} {E : XK} {x : Str} {p pos pos' : Pos} {o e : Expr} {ta tv : TE}
theorem putprop_ok {pins : List (Addr × Obj)} {σ : L2.St} {H : Hp} {s : Shared} {y : V} {u : Value} {Q : VK} {R : Unit → Shared → Prop} (d : PutN X.prog X.w X.K X.mg X.base CX k C x sp) (c : Cls X.K C) (hr : Room j X.A) (hk : k + 2 ≤ j) (hx : PassesAt CX X σ E)
    (I : Inv X pins σ H s) (ea : H a = some (.ins C dx fs)) (ry : RelV y u) (q : sp [.ref a, y] H Q E) (h : ∀ v s' H', Inv X pins σ H' s' → Q v H' → R () s') : wpAny (model X.prog X.w) X.A (setAttr (.ref a) x u) R X.xe s := by
  obtain ⟨pa, g, fd, ps, F, po, B⟩ := d.ex
  obtain ⟨gv, rest, hrec⟩ := po.rc
  obtain ⟨od, J⟩ := inst_of I ea
  obtain ⟨m, hF⟩ := I.fr
  have I1 := I.tok (s.toks + 1)
  have hl : (([Value.ref a, u] : List Value) ++ []).length = ps.length := by rw [← F.len _ _ _ _ q]; rfl
  have hb := B { s with toks := s.toks + 1 } [.ref a, u] I1.kIn hl
  rw [List.append_nil] at hb
  refine PySem.W.set_prop hF I.ok.mod.kin J c.sa c.po po.tk po.ty hrec ?_
  refine codeAny_mono (F.run X.A.in1.in1 X.stack { s with toks := s.toks + 1 } H ⟨[.ref a, u], []⟩ [.ref a, u] [.ref a, y] Q E (hr.mono hk).in1.in1 I1.env0.in1.in1 hb (.cons rfl (.cons ry .nil)) q) fun r s' hq => ?_
  match r, hq with
  | .error er, hq => exact hx pins H _ er s' I1 hq
  | .ok (.ret z), hq =>
    obtain ⟨v, H', I3, _, q3⟩ := I1.after hq
    exact h v s' H' I3 q3
  | .ok .next, hq | .ok .brk, hq | .ok .cont, hq => exact hq.elim
/-- e.x = v, v's way first -/
def sPut (C : Addr) (sp : Sp) (E : L2.St → XK) (ta tv : TE) : TS := fun D σ H => tv σ H fun y H1 => ta σ H1 fun z H2 => ∃ a dx fs, z = .ref a ∧ H2 a = some (.ins C dx fs) ∧ sp [.ref a, y] H2 (fun _ H3 => D.nx σ H3) (E σ)
theorem ps_put {E : L2.St → XK} (d : PutN X.prog X.w X.K X.mg X.base CX k C x sp) (c : Cls X.K C) (hr : Room j X.A) (hk : k + 2 ≤ j) (hx : ∀ σ, PassesAt CX X σ (E σ)) (ha : PE X o ta) (hv : PE X e tv) (hs : swapsWith e (some (.Attribute o x pos')) pos.line X.env = pure false := by rfl) :
    PS X (.Assign [.Attribute o x pos'] e pos) (sPut C sp E ta tv) := by
  refine ⟨fun pins s σ H D I h => plainObj_wpAny_Assign_Attribute (thn (hv.run pins s σ H _ I h) fun u s1 ⟨y, H1, I1, ry, q⟩ => thn (ha.run pins s1 σ H1 _ I1 q) fun ov s2 ⟨z, H2, I2, rz, a, dx, fs, ez, ea, q2⟩ => ?_) hs⟩
  subst ez
  obtain rfl : ov = Value.ref a := rz
  exact putprop_ok d c hr hk (hx σ) I2 ea ry q2 fun v s3 H3 I3 q3 => ⟨σ, _, I3, q3⟩
end
end UW

set_option Elab.async false
set_option linter.all false
set_option maxRecDepth 100000
set_option maxHeartbeats 4000000
/-! raise C(..) from D(..) -/
namespace UW
open PySem PySem.Spec PyProof.Rows L2 UL UV
section
variable {X : Cx} {pins : List (Addr × Obj)} {σ : L2.St} {H : Hp} {s : Shared} {G : Heap} {a : Addr}
/-- one thing that is not tracked is hidden -/
theorem unseen (J : Inv X pins σ H s) (h0 : X.s_0.heap.get? a = none) (na : H a = none) (nl : a ≠ X.env.locals) (nc : ∀ x c, X.env.cells.lookup x = some c → c ≠ a) (np : ∀ p ∈ X.pn ++ pins, p.1 ≠ a) (gk : ∀ b, b ≠ a → G.get? b = s.heap.get? b) :
    Inv X pins σ H { s with heap := G } := by
  have n0 : ∀ {b : Addr} {o : Obj}, X.s_0.heap.get? b = some o → b ≠ a := fun {b o} z q => by rw [q, h0] at z; cases z
  have nt : ∀ {b : Addr} {o : HO}, H b = some o → b ≠ a := fun {b o} z q => by rw [q, na] at z; cases z
  have ic : ∀ {x c v}, X.env.cells.lookup x = some c → s.heap.IsCell c v → G.IsCell c v := fun {x c v} z q => let ⟨o, e, d⟩ := q; ⟨o, (gk c (nc x c z)).trans e, d⟩
  obtain ⟨m, hn, hl⟩ := J.loc
  refine ⟨J.ok, J.os, J.bare, ⟨fun b o e n hb hx => (gk b (n0 e)).trans (J.base.keep b o e n hb hx), fun b o e n hb hx => let ⟨sl, z⟩ := J.base.slot b o e n hb hx; ⟨sl, (gk b (n0 e)).trans z⟩, J.base.free, fun b o e hx => let ⟨u, z⟩ := J.base.there b o e hx; ⟨u, (gk b (n0 e)).trans z⟩, J.base.tups, J.base.frzs, J.base.tbls⟩,
    ⟨m, hn.at fun o z => (gk _ (Ne.symm nl)).trans z, fun i x v e1 e2 e3 => ?_⟩, fun x c z => let ⟨v, q⟩ := J.cell x c z; ⟨v, ic z q⟩, J.free, J.freeC, fun p hp => let ⟨e, n, l, f, d⟩ := J.pin p hp; ⟨(gk _ (np p hp)).trans e, n, l, f, d⟩, fun b o z => ?_, J.len⟩
  · obtain ⟨u, ru, lk⟩ := hl i x v e1 e2 e3
    exact ⟨u, ru, lk.elim .inl fun ⟨k, c, ce, q⟩ => .inr ⟨k, c, ce, ic ce q⟩⟩
  · refine (J.hok b o z).stay (fun c u hc q => (gk c ?_).trans q) (fun _ q => q) fun _ _ q => q
    rcases hc with hc | hc
    · rw [hc]; exact nt z
    · exact nt hc
/-- behind the two stores -/
def tied (h : Heap) (a : Addr) (u : Value) : Heap := (h.update a (Obj.mapFields (·.setIfInBounds 3 u))).update a (Obj.mapFields (·.setIfInBounds 4 (.bool true)))
theorem tied_other {h : Heap} {b : Addr} {u : Value} (n : a ≠ b) : (tied h a u).get? b = h.get? b := by
  unfold tied; rw [Heap.get?_update_other _ _ n, Heap.get?_update_other _ _ n]
theorem tied_at {h : Heap} {u : Value} {oe : Obj} {vs : Array Value} (ha : h.get? a = some oe) (hd : oe.data = .fields vs) :
    (tied h a u).get? a = some ((oe.mapFields (·.setIfInBounds 3 u)).mapFields (·.setIfInBounds 4 (.bool true))) ∧ ((oe.mapFields (·.setIfInBounds 3 u)).mapFields (·.setIfInBounds 4 (.bool true))).data = .fields ((vs.setIfInBounds 3 u).setIfInBounds 4 (.bool true)) := by
  have d3 := Obj.data_mapFields hd (·.setIfInBounds 3 u)
  have g3 := Heap.get?_update_self (Obj.mapFields (·.setIfInBounds 3 u)) ha (Obj.isFreed_of_fields d3)
  have d4 := Obj.data_mapFields d3 (·.setIfInBounds 4 (.bool true))
  exact ⟨Heap.get?_update_self (Obj.mapFields (·.setIfInBounds 4 (.bool true))) g3 (Obj.isFreed_of_fields d4), d4⟩
theorem raise_cause {prog : Program} {w : World} {A : Around} {E : Value → Shared → Prop} {env : Env} {s : Shared} {x c : Sem Value} {Q : Flow → Shared → Prop} (hh : A.handled = none)
    (h : wpAny (model prog w) A x (fun v s₁ => wpAny (model prog w) A c (fun u s₂ => ∃ a oe vs cls b ob ws cb, v = .ref a ∧ u = .ref b ∧ s₂.heap.get? a = some oe ∧ oe.cls = cls ∧ oe.data = .fields vs ∧ vs[1]? = some .none ∧ 4 < vs.size ∧
      s₂.heap.get? b = some ob ∧ ob.cls = cb ∧ ob.data = .fields ws ∧ PySem.W.Looks (model prog w) s₂.heap (isSubtype cls (.type "BaseException")) true ∧ PySem.W.Looks (model prog w) s₂.heap (isSubtype cb (.type "BaseException")) true ∧
      PySem.W.Looks (model prog w) (tied s₂.heap a (.ref b)) (typeOf cls) (.type "type") ∧ E (.ref a) { s₂ with heap := tied s₂.heap a (.ref b) }) E s₁) E s) :
    wpAny (model prog w) A (raiseStmt env (some x) (some c)) Q E s := by
  unfold raiseStmt
  dsimp only
  refine wpAny_bind (wpAny_mono h (fun v s₁ h₁ => ?_) fun _ _ x => x)
  refine wpAny_bind (wpAny_holding (wpAny_mono h₁ (fun u s₂ h₂ => wpAny_bind (wpAny_pure ?_)) fun _ _ x => x))
  obtain ⟨a, oe, vs, cls, b, ob, ws, cb, rfl, rfl, ha, hcls, hd, h1, hi, hb, hcb, hdb, L1, L2, L3, hE⟩ := h₂
  have LT : PySem.W.Looks (model prog w) s₂.heap (typeOf (.ref a)) cls := fun A Q E s k q => wpAny_typeOf_ref (k _ _ ha) (by rw [hcls]; exact q)
  have LU : PySem.W.Looks (model prog w) s₂.heap (typeOf (.ref b)) cb := fun A Q E s k q => wpAny_typeOf_ref (k _ _ hb) (by rw [hcb]; exact q)
  have LI : PySem.W.Looks (model prog w) s₂.heap (isInstance (.ref a) (.type "BaseException")) true := LT.andThen L1
  have LJ : PySem.W.Looks (model prog w) s₂.heap (isInstance (.ref b) (.type "BaseException")) true := LU.andThen L2
  have nota : ∀ {A' : Around} {E' : Value → Shared → Prop} {h' : Heap} {o' : Obj} {c' : Addr} {zs : Array Value} {Q' : Bool → Shared → Prop}, h'.get? c' = some o' → o'.data = .fields zs → Q' false { s₂ with heap := h' } → wpAny (model prog w) A' (isType (.ref c')) Q' E' { s₂ with heap := h' } := by
    intro A' E' h' o' c' zs Q' z1 z2 hq
    simp only [isType, loadHead]
    refine wpAny_bind (wpAny_loadPart z1 ?_)
    rw [z2]; exact wpAny_pure hq
  have d3 := Obj.data_mapFields hd (·.setIfInBounds 3 (.ref b))
  have g3 := Heap.get?_update_self (Obj.mapFields (·.setIfInBounds 3 (.ref b))) ha (Obj.isFreed_of_fields d3)
  obtain ⟨g4, d4⟩ := tied_at (u := .ref b) ha hd
  have s3 : 3 < vs.size := by omega
  have s4 : 4 < (vs.setIfInBounds 3 (Value.ref b)).size := by simpa using hi
  have h14 : ((vs.setIfInBounds 3 (Value.ref b)).setIfInBounds 4 (Value.bool true))[1]? = some Value.none := HotX.set_other (by decide) (HotX.set_other (by decide) h1)
  have c4 : ((oe.mapFields (·.setIfInBounds 3 (.ref b))).mapFields (·.setIfInBounds 4 (.bool true))).cls = cls := by rw [Obj.cls_mapFields, Obj.cls_mapFields]; exact hcls
  have LT4 : PySem.W.Looks (model prog w) (tied s₂.heap a (.ref b)) (typeOf (.ref a)) cls := fun A Q E s k q => wpAny_typeOf_ref (k _ _ g4) (by rw [c4]; exact q)
  have rest : wpAny (model prog w) A (do
      let b ← isType (.ref a)
      if b = true then do
        let e ← holding [.ref a] (raisedFor (.ref a) (.ref a))
        setFlight e none
        raiseNew e
      else do
        let e ← raisedInstance (.ref a)
        setFlight e none
        raiseNew e : Sem Flow) Q E { s₂ with heap := tied s₂.heap a (.ref b) } := by
    refine wpAny_bind (nota g4 d4 ?_)
    simp only [Bool.false_eq_true, if_false]
    unfold raisedInstance
    refine wpAny_bind (wpAny_bind (LT4.here (wpAny_bind (L3.here ?_))))
    rw [if_pos (beq_self_eq_true _)]
    refine wpAny_pure ?_
    unfold setFlight raiseNew
    refine wpAny_bind (wpAny_bind (wpAny_field g4 d4 h14 ?_))
    rw [if_neg (by decide)]
    refine wpAny_pure (wpAny_bind (wpAny_handled ?_))
    rw [hh]
    first
      | exact wpAny_throw hE
      | exact wpAny_bind (wpAny_pure (wpAny_throw hE))
  dsimp only
  refine wpAny_bind (wpAny_holding ?_)
  unfold excFromValue isExcClass
  refine wpAny_bind (wpAny_bind (nota ha hd ?_))
  simp only [Bool.false_eq_true, if_false]
  refine wpAny_pure ?_
  simp only [Bool.false_eq_true, if_false]
  refine wpAny_bind (LI.here ?_)
  simp only [if_true]
  refine wpAny_pure ?_
  rw [show (Value.ref b == Value.none) = false from rfl]
  simp only [Bool.false_eq_true, if_false]
  refine wpAny_bind (wpAny_holding ?_)
  refine wpAny_bind (wpAny_bind (nota hb hdb ?_))
  simp only [Bool.false_eq_true, if_false]
  refine wpAny_pure ?_
  simp only [Bool.false_eq_true, if_false]
  refine wpAny_bind (LJ.here ?_)
  simp only [if_true]
  refine wpAny_pure ?_
  first
  | exact wpAny_bind (wpAny_setField ha hd s3 (wpAny_bind (wpAny_setField g3 d3 s4 rest)))
  | exact wpAny_bind (wpAny_bind (wpAny_setField ha hd s3 (wpAny_setField g3 d3 s4 rest)))
end
section
variable {X : Cx} {CX : CXT} {C g : Addr} {k j : Nat} {fd : FuncData} {ps : List Str} {sp : Sp} {x : Str} {e : Expr} {es : List Expr} {ta : TA} {p pos : Pos}
/-- an expression that makes an exception whose record has its six fields -/
def PMkS (X : Cx) (e : Expr) (t : L2.St → Hp → XK → Prop) : Prop := ∀ (pn : List (Addr × Obj)) (s : Shared) (σ : L2.St) (H : Hp) (Q : XK), Inv X pn σ H s → t σ H Q → wpAny (model X.prog X.w) X.A (eval e X.env) (fun u z => MkP X pn σ Q u z ∧ L2H.Six u z) X.xe s
/-- C(e, ..) of an own class over ValueError; its record has its six fields -/
theorem made6 (T : OexC X.K C) (fi : PySem.W.findIn X.K (.ref C) "__init__" = some (some (.ref g))) (ty : PySem.W.typeIn X.K (.ref g) = some (.type "function")) (Fn : FnOk X.prog X.w X.K X.mg X.base CX0 k g fd ps sp) (hr : Room j X.A) (hk : k + 1 ≤ j) (B : Binds X.K fd ps [])
    (hg : Gl X x) (hm : X.mg x = some (.ref C)) (pa : PA X (e :: es) ta) (hdb : (x == ("__debug__" : Str)) = false := by decide) (hst : starEach (e :: es) X.env = (false, eval e X.env) :: starEach es X.env := by rfl) (hpl : (backTo pos (starEach es X.env)).any (·.1) = false := by rfl) :
    PMkS X (.Call (.Name x p) (e :: es) [] pos) (tMkO C sp [] ta) := by
  intro pn z0 sg H0 Qx I0 w0
  obtain ⟨nm, q, N, bs, bm, sn, sub, ab, col, dd, k0, k1, k2, k3, k5, lkC, bmE⟩ := T.cls
  refine wpAny_Call_Name_kw (ld_glob I0 hg hm ?_ hdb)
  refine PySem.W.callWith_K (h₀ := X.base) I0.ok.mod.kin T.kC (thn (pa.run pos pn z0 sg H0 _ I0 w0) fun us z1 ⟨vs, Ha, Ia, ra, la, qa⟩ => ⟨Ia.kIn, ?_⟩) hst hpl
  show wpAny _ _ (call (.ref C) us) _ _ _
  obtain ⟨hz, gz, dz, tz, oz⟩ := z1
  have le1 : hz.objs.size ≤ hz.objs.size + 1 := Nat.le_succ _
  have fresh := Ia.hok.fresh le1
  have want := qa (hz.objs.size + 1) fresh
  have kp : ∀ b o, hz.get? b = some o → ((hz.push (PySem.W.kdv_tup us)).push (PySem.HandSPX.excO C hz.objs.size)).get? b = some o := fun b o e => Heap.get?_push_of_some _ (Heap.get?_push_of_some _ e)
  have at2 : ((hz.push (PySem.W.kdv_tup us)).push (PySem.HandSPX.excO C hz.objs.size)).get? (hz.objs.size + 1) = some (PySem.HandSPX.excO C hz.objs.size) := by heap_get
  have Ib : Inv X pn sg (upd Ha (hz.objs.size + 1) (exo (hz.objs.size + 1) C none)) ⟨((hz.push (PySem.W.kdv_tup us)).push (PySem.HandSPX.excO C hz.objs.size)), gz, dz, tz, oz⟩ := Ia.laid (t' := tz) (a := hz.objs.size + 1) (o := exo (hz.objs.size + 1) C none) (h' := ((hz.push (PySem.W.kdv_tup us)).push (PySem.HandSPX.excO C hz.objs.size))) kp le1 (exo_ok at2)
  have rb : Vals (V.ref (hz.objs.size + 1) :: (vs ++ [])) (Value.ref (hz.objs.size + 1) :: (us ++ [])) := .cons rfl (ra.append .nil)
  have lb : (Value.ref (hz.objs.size + 1) :: us ++ []).length = ps.length := by
    have z := rb.length
    rw [Fn.len _ _ _ _ want] at z
    exact z.symm
  have bb : BindsTo ⟨((hz.push (PySem.W.kdv_tup us)).push (PySem.HandSPX.excO C hz.objs.size)), gz, dz, tz, oz⟩ fd ⟨Value.ref (hz.objs.size + 1) :: us, []⟩ (ps.zip (Value.ref (hz.objs.size + 1) :: (us ++ []))) := B _ (Value.ref (hz.objs.size + 1) :: us) Ib.kIn lb
  have lus : us.length ≤ sizeLine := by
    rw [← Paired.length ra, sizeLine_eq]; omega
  refine wpAny_call (PySem.HandSPX.call_own F.excBase_ValueError (fun Y => PySem.HandSPX.refsVE_contains Y bm bmE) (Ia.kIn _ _ lkC) (PySem.W.looks_findIn Ia.kIn fi) (fun self => PySem.W.bind_fn Ia.kIn self ty) lus
    (codeAny_mono (Fn.run _ X.stack _ _ ⟨Value.ref (hz.objs.size + 1) :: us, []⟩ (Value.ref (hz.objs.size + 1) :: (us ++ [])) _ _ (fun _ _ _ => False) ((hr.mono hk).make C us []) (Ib.env0.make C us []) bb rb want) fun r z3 hq => ?_))
  match r, hq with
  | .error er, hq => exact hq.elim
  | .ok (.ret u), hq =>
    obtain ⟨v, H3, os3, bare3, un3, hok3, rv, ev, d, fs, ea, ed, hd1, q3⟩ := hq
    subst ev
    obtain ⟨h3, g3, d3, t3, o3⟩ := z3
    obtain ⟨t0, hoe⟩ := exo_at hok3 ea
    refine ⟨rv, mk_end (raises_own T.exC T.tyC) Ia le1 kp un3 hok3 os3 bare3 ea ed hd1 q3, fun a' oe' vs' e1 e2 e3 => ?_⟩
    cases e1
    have e4 := hoe.symm.trans e2
    cases e4
    cases e3
    show (4 : Nat) < 6
    decide
  | .ok .next, hq | .ok .brk, hq | .ok .cont, hq => exact hq.elim
/-- raise e from c -/
theorem ps_raiseFrom {W : WX} {c : Expr} {te tc : L2.St → Hp → XK → Prop} (hc : X.calm = true) (hex : X.ex = []) (tk : Takes X W) (he : PMkS X e te) (hcs : PMk X c tc) :
    PS X (.Raise (some e) (some c) pos) (fun _ σ H => te σ H fun cls d H1 => tc σ H1 fun _ _ H2 => W cls d σ H2) := by
  refine ⟨fun pins s σ H D I h => ?_⟩
  show wpAny _ _ (do standAt pos; raiseStmt X.env (some (do let v ← eval e X.env; standAt pos; pure v)) (some (do let v ← eval c X.env; standAt pos; pure v))) _ _ _
  refine wpAny_bind (wpAny_standAt (raise_cause (I.ok.hd hc) (wpAny_bind (wpAny_mono (he pins s σ H _ I h) (fun u s1 hu => wpAny_bind (wpAny_standAt (wpAny_pure ?_))) fun _ _ x => x))))
  obtain ⟨⟨a, oe, vs, sI, H1, cls, d, rfl, J, kI, hne, ha, hz, hd, h1, na, os, ag, r, q⟩, h6⟩ := hu
  have hi : 4 < vs.size := h6 a oe vs rfl ha hd
  have J1 : Inv X pins σ H1 s1 := J.call' (ch := []) os (Un.kept kI) (J.hok.kept kI) ag (fun b z => absurd z (by simp))
  have s0 : X.s_0.heap.get? a = none := by
    cases z : X.s_0.heap.get? a with
    | none => rfl
    | some o =>
      obtain ⟨o', z'⟩ := J.base.there a o z (by rw [hex]; simp)
      rw [hne] at z'; cases z'
  have nl : a ≠ X.env.locals := fun z => by
    obtain ⟨m, ⟨o, _, _, e', _⟩, _⟩ := J.loc
    rw [← z, hne] at e'; cases e'
  have nf : a ∉ X.fs := fun hm => by
    obtain ⟨_, o', e', _⟩ := J.ok.funs.mem hm
    rw [s0] at e'; cases e'
  have nc : ∀ x c, X.env.cells.lookup x = some c → c ≠ a := fun x c z q => by
    obtain ⟨v, o, e', _⟩ := J.cell x c z
    rw [q, hne] at e'; cases e'
  have np : ∀ p ∈ X.pn ++ pins, p.1 ≠ a := fun p hp q => by
    have z := (J.pin p hp).1
    rw [q, hne] at z; cases z
  have J2 := pin1 J1 ha na nl nf (fun v z => by rw [hd] at z; cases z)
  refine wpAny_bind (wpAny_mono (hcs ((a, oe) :: pins) s1 σ H1 _ J2 q) (fun u s2 hu2 => wpAny_bind (wpAny_standAt (wpAny_pure ?_))) fun _ _ x => x)
  obtain ⟨b, ob, ws, sJ, H2, cb, db, rfl, K2, k2, hnb, hb, hzb, hdb, hb1, nb, os2, ag2, rb, q2⟩ := hu2
  obtain ⟨pa, na2, _⟩ := K2.pin (a, oe) (List.mem_append_right _ List.mem_cons_self)
  have ha2 : s2.heap.get? a = some oe := k2 _ _ pa
  obtain ⟨G, g1, g2⟩ := restrict sJ.heap fun b => decide (b ≠ a)
  have gk : ∀ b, b ≠ a → G.get? b = sJ.heap.get? b := fun b hb => g1 b (decide_eq_true hb)
  have ge : G.get? a = none := g2 a (by simp)
  have K3 : Inv X pins σ H2 { sJ with heap := G } := unseen (unpin1 K2) s0 na2 nl nc np gk
  obtain ⟨g4, d4⟩ := tied_at (u := .ref b) ha2 hd
  have kG : ∀ b' o, G.get? b' = some o → (tied s2.heap a (.ref b)).get? b' = some o := fun b' o z => by
    have n : b' ≠ a := fun y => by rw [y, ge] at z; cases z
    rw [tied_other (Ne.symm n)]
    exact k2 _ _ ((gk b' n).symm.trans z)
  have h14 : ((vs.setIfInBounds 3 (Value.ref b)).setIfInBounds 4 (Value.bool true))[1]? = some Value.none := HotX.set_other (by decide) (HotX.set_other (by decide) h1)
  exact ⟨a, oe, vs, cls, b, ob, ws, cb, rfl, rfl, ha2, hz.1, hd, h1, hi, hb, hzb.1, hdb, (r (model X.prog X.w) _ (K2.kIn.keeps k2)).1, (rb (model X.prog X.w) _ (K2.kIn.keeps k2)).1, (r (model X.prog X.w) _ (K3.kIn.keeps kG)).2,
    tk _ _ (XE.new K3 kG ge g4 ⟨by rw [Obj.cls_mapFields, Obj.cls_mapFields]; exact hz.1, by rw [HandSPX.dict_mapFields, HandSPX.dict_mapFields]; exact hz.2⟩ d4 h14 na2 os2 ag2 q2)⟩
end
end UW

set_option Elab.async false
set_option linter.all false
set_option maxRecDepth 100000
set_option maxHeartbeats 4000000
/-! a def that is handed a caught exception, called in the suite that caught it -/
namespace UW
open PySem PySem.Spec PyProof.Rows L2 UL UV
abbrev SpP := (Addr × Obj) → Sp
/-- what the def at f promises of the thing p, which is not tracked -/
structure FnP (P : Program) (w : World) (K : PySem.W.Frag) (mg : Str → Option Value) (base : Heap) (k : Nat) (f : Addr) (fd : FuncData) (ps : List Str) (sp : SpP) : Prop where
  len : ∀ p vs H Q E, sp p vs H Q E → vs.length = ps.length
  run : ∀ (p : Addr × Obj) (A : Around) (outer : List Env) (s : Shared) (H : Hp) (args : Args) (us : List Value) (vs : List V) (Q : VK) (E : XK), L2H.RoomH k A → L2H.PinOk outer H s p → Env0 P w K mg base A outer s H → BindsTo s fd args (ps.zip us) → Vals vs us → sp p vs H Q E →
    codeAny (model P w) A (.call (.ref f) args) (CR CX0 outer P w H s Q E) s
theorem fn_ofP {P : Program} {w : World} {K : PySem.W.Frag} {mg : Str → Option Value} {base : Heap} {k : Nat} {f : Addr} {name qual : Str} {params : Arguments} {body : List Stmt} {scope : Scope} {dV kV doc pm cdv ct oc : Value} {an od : Option Addr}
    {osl : Array (Option Value)} {N ps : List Str} {sp : SpP} (look : K.lookup f = some ⟨oc, od, .func (PySem.W.fnOf name qual params body scope dV kV doc pm an cdv ct), osl⟩) (cod : PySem.W.codeIn K cdv qual = true) (S : FnScope N ps scope)
    (len : ∀ p vs H Q E, sp p vs H Q E → vs.length = ps.length)
    (inner : ∀ (p : Addr × Obj) (A : Around) (outer : List Env) (s : Shared) (H : Hp) (vs : List V) (Q : VK) (E : XK), L2H.RoomH k (A.deeper (envOfC qual scope s.heap.objs.size f cdv)) → sp p vs H Q E →
      ∃ t, PSs (L2H.cxH CX0 P w K mg base N qual scope f cdv A outer s H E p) body t ∧ t { nx := fun _ H' => Q .non H', rt := Q } (L2.start N vs) H) :
    FnP P w K mg base (k + 1) f (PySem.W.fnOf name qual params body scope dV kV doc pm an cdv ct) ps sp := by
  refine ⟨len, fun p A outer s H args us vs Q E room pin en bind rel want => ?_⟩
  have ln := len _ _ _ _ _ want
  have KX : K.In s.heap := en.mod.kin.keeps fun b o e => (en.bs b o e).1
  have lim : s.heap.NoLimit := en.mod.nolimit.keeps fun b o e => (en.bs b o e).1
  have kinds : ∀ y ∈ ps.zip us, scope.names.lookup y.1 = some .local ∨ (scope.names.lookup y.1 = some .cell ∧ ((cellsFrom (s.heap.objs.size + 1) scope.names []).lookup y.1).isSome = true) := fun ⟨n, v⟩ hy => (S.par n (List.of_mem_zip hy).1).elim .inl fun q => .inr ⟨q, PySem.W.cellsFrom_some _ _ _ (.inl q)⟩
  refine codeAny_call_function room.depth (KX _ _ look) rfl S.co S.gen rfl (PySem.W.codeRec_of KX cod) (bind _ _ _ _ (wpAny_newFunctionEnv_cells S.kind kinds fun env he s1 x => ?_))
  subst he
  refine ⟨lim.keeps x.toInCall.keep, codeAny_func ?_⟩
  obtain ⟨t, ht, ok⟩ := inner p A outer s H vs Q E (room.deeper _) want
  have J0 : Inv (L2H.cxH CX0 P w K mg base N qual scope f cdv A outer s H E p) [] (L2.start N vs) H s1 := L2H.inv_startH S pin en ln rel x
  refine wpAny_mono (ht.run [] s1 (L2.start N vs) H _ J0 ok) (fun fl z hz => ?_) fun _ _ hz => hz
  match fl, hz with
  | .ret u, hz => obtain ⟨v, σ', H', J, rv, q⟩ := hz; exact ⟨v, H', J.os, J.bare, J.base, J.hok, rv, q⟩
  | .next, hz => obtain ⟨σ', H', J, q⟩ := hz; exact ⟨V.non, H', J.os, J.bare, J.base, J.hok, rfl, q⟩
  | .brk, hz | .cont, hz => obtain ⟨_, _, _, q⟩ := hz; exact q.elim
structure DnP (P : Program) (w : World) (K : PySem.W.Frag) (mg : Str → Option Value) (base : Heap) (k : Nat) (x : Str) (sp : SpP) : Prop where
  ex : ∃ (f : Addr) (fd : FuncData) (ps : List Str), FnP P w K mg base k f fd ps sp ∧ mg x = some (.ref f) ∧ PySem.W.keepIn K (.ref f) = true ∧ Binds K fd ps []
theorem TD_dp {P : Program} {w : World} {K : PySem.W.Frag} {mg : Str → Option Value} {base : Heap} {x : Str} {st : Stmt} {N ps : List Str} {k : Nat} {sp : SpP} (D : TD K mg x st) (S : FnScope N ps (defScope st)) (b : BindOk x x st ps) (len : ∀ p vs H Q E, sp p vs H Q E → vs.length = ps.length)
    (inner : ∀ (f : Addr) (cdv : Value) (p : Addr × Obj) (A : Around) (outer : List Env) (s : Shared) (H : Hp) (vs : List V) (Q : VK) (E : XK), L2H.RoomH k (A.deeper (envOfC x (defScope st) s.heap.objs.size f cdv)) → sp p vs H Q E →
      ∃ t, PSs (L2H.cxH CX0 P w K mg base N x (defScope st) f cdv A outer s H E p) (defBody st) t ∧ t { nx := fun _ H' => Q .non H', rt := Q } (L2.start N vs) H) : DnP P w K mg base (k + 1) x sp := by
  obtain ⟨f, fd, F, hm⟩ := D.ex
  have hb := F.binds b
  have kp := F.kp
  obtain ⟨oc, od, kV, doc, pm, an, cdv, ct, osl, e, lk, hcd⟩ := F.ex
  subst e
  exact ⟨f, _, ps, fn_ofP lk hcd S len fun p A outer s H vs Q E hr h => inner f cdv p A outer s H vs Q E hr h, hm, kp, hb⟩
section
variable {X : Cx} {k j : Nat} {sp : SpP} {x : Str} {p pos : Pos} {e : Expr} {es : List Expr} {t : TA} {a : Addr} {oe : Obj} {pn : List (Addr × Obj)}
theorem roomS {X : Cx} {a : Addr} {pn : List (Addr × Obj)} {j : Nat} (hr : Room j X.A) : L2H.RoomH j (X.suite a pn).A := ⟨hr.dp, hr.un⟩
theorem callS {Y : Cx} {pins : List (Addr × Obj)} {σ : L2.St} {H : Hp} {s : Shared} {Q : VK} {f : Addr} {fd : FuncData} {ps : List Str} {us : List Value} {vs : List V} (F : FnP Y.prog Y.w Y.K Y.mg Y.base k f fd ps sp) (hr : L2H.RoomH k Y.A) (hb : Binds Y.K fd ps []) (hp : (a, oe) ∈ Y.pn) (I : Inv Y pins σ H s) (r : Vals vs us)
    (q : sp (a, oe) vs H Q E0) : wpAny (model Y.prog Y.w) Y.A (call (.ref f) us) (EP Y pins σ Q) Y.xe s := by
  have lu : us.length = ps.length := by rw [← r.length]; exact F.len _ _ _ _ _ q
  have bb := hb s us I.kIn (by rw [List.append_nil]; exact lu)
  rw [List.append_nil] at bb
  obtain ⟨g1, g2, g3, g4, g5⟩ := I.pin (a, oe) (List.mem_append_left _ hp)
  have pin : L2H.PinOk Y.stack H s (a, oe) := ⟨g1, g2, fun hm => (List.mem_cons.mp (I.stkSub a hm)).elim g3 g4, g5⟩
  refine wpAny_call (codeAny_mono (F.run (a, oe) Y.A Y.stack s H ⟨us, []⟩ us vs Q E0 hr pin I.env0 bb r q) fun r s' hq => ?_)
  match r, hq with
  | .error er, hq => exact hq.elim
  | .ok (.ret z), hq => exact I.after hq
  | .ok .next, hq | .ok .brk, hq | .ok .cont, hq => exact hq.elim
/-- f(e) of the caught exception, in its suite -/
def tCallS (sp : SpP) (a : Addr) (cls : Value) (d : Option Addr) (t : TA) : TE := fun σ H Q => t σ H fun vs H1 => ∀ oe : Obj, Zc cls d oe → (∃ zs, oe.data = .fields zs) → sp (a, oe) vs H1 Q E0
theorem pe_dS {cls : Value} {dd : Option Addr} (d : DnP X.prog X.w X.K X.mg X.base k x sp) (hr : Room j X.A) (hk : k ≤ j) (hz : Zc cls dd oe) (hf : ∃ zs, oe.data = .fields zs) (hg : Gl X x) (ha : PA (X.suite a ((a, oe) :: pn)) (e :: es) t) (hdb : (x == ("__debug__" : Str)) = false := by decide)
    (he : starEach (e :: es) X.env = (false, eval e X.env) :: starEach es X.env := by rfl) (hpl : (backTo pos (starEach es X.env)).any (·.1) = false := by rfl) : PE (X.suite a ((a, oe) :: pn)) (.Call (.Name x p) (e :: es) [] pos) (tCallS sp a cls dd t) := by
  obtain ⟨f, fd, ps, F, hm, hkp, hb⟩ := d.ex
  refine ⟨fun pins s σ H Q I h => wpAny_Call_Name_kw (ld_glob (X := X.suite a ((a, oe) :: pn)) I hg hm (PySem.W.callWith_K (h₀ := X.base) I.ok.mod.kin hkp (thn (ha.run pos pins s σ H _ I h) fun us s1 ⟨vs, H1, I1, r, q⟩ => ⟨I1.kIn, ?_⟩) he hpl) hdb)⟩
  exact callS F ((roomS hr).mono hk) hb List.mem_cons_self I1 r (q oe hz hf)
/-- isinstance of a thing that is pinned -/
theorem call_isP {cls : Value} {d : Option Addr} (hp : (a, oe) ∈ X.pn) (hz : Zc cls d oe) (hf : ∃ vs, oe.data = .fields vs) : CallR X (.builtin "isinstance") (rIsX X.K a cls d) := by
  intro pins s σ H xs us Q I r h
  obtain ⟨D, dx, fs, c, cv, b, rfl, rfl, hdx, ec, rfl, hcv, e, q⟩ := h
  obtain ⟨u1, u2, rfl, ru1, ru2⟩ := vals2 r
  cases ru1
  have e2 := hcv _ ru2
  subst e2
  obtain ⟨hg, _⟩ := I.pin (a, oe) (List.mem_append_left _ hp)
  obtain ⟨vs, hv⟩ := hf
  have hx : ObjOk X.prog X.w H s.heap dx (.xd fs) := I.hok dx _ hdx
  obtain ⟨mA, hns, _⟩ := hx
  obtain ⟨od, ho, _⟩ := L2.lookIn_ns hns
  have J : PySem.W.InstAt s.heap a oe D (some od) := ⟨hg, hz.1, by unfold PySem.W.notCls; rw [hv] <;> rfl, by rw [hz.2]; exact ho⟩
  exact PySem.W.kia_one (kx_exc ec) I.kIn J e (fun z => nomatch z) fun tk => ⟨.bl b, H, I.kept (t' := tk) fun _ _ z => z, rfl, q⟩
end
end UW

set_option Elab.async false
set_option linter.all false
set_option maxRecDepth 100000
set_option maxHeartbeats 4000000
/-! {x} of None; == of flat lists and tuples of ints, texts and None -/
namespace UW
open PySem PySem.Spec PyProof.Rows L2 UL UV
section
variable {X : Cx}
/-- {x}: a text, an int, None -/
def tFmtN (te : TE) : TE := fun σ H Q => te σ H fun x H1 => (∃ y : Str, x = .str y ∧ y.length ≤ sizeLine ∧ Q (.str y) H1) ∨ (∃ i : Int, x = .int i ∧ i.natAbs.log2 < 1920 ∧ Q (.str (toString i)) H1) ∨ (x = .non ∧ Q (.str "None") H1)
theorem pe_fmtN {e : Expr} {te : TE} {pos : Pos} (he : PE X e te) : PE X (.FormattedValue e (-1) none pos) (tFmtN te) := by
  refine ⟨fun pins s σ H Q I h => wpAny_FormattedValue_plain (thn (he.run pins s σ H _ I h) fun v s1 ⟨x, H1, I1, r1, q⟩ => ?_)⟩
  rcases q with ⟨y, rfl, hz, q⟩ | ⟨i, rfl, hz, q⟩ | ⟨rfl, q⟩
  · obtain ⟨t, rfl⟩ := r1
    exact wpAny_formatField_str ⟨.str y, H1, I1, ⟨t, rfl⟩, q⟩ ⟨.str y, H1, I1.tok _, ⟨_, rfl⟩, q⟩ hz
  · obtain ⟨t, rfl⟩ := r1
    exact wpAny_formatField_int hz ⟨.str (toString i), H1, I1.tok _, ⟨_, rfl⟩, q⟩
  · obtain rfl : v = Value.none := r1
    exact wpAny_formatField_none ⟨.str "None", H1, I1.tok _, ⟨_, rfl⟩, q⟩
end
section
variable {K : PySem.W.Frag} {H : Hp} {Q : VK} {a b : Addr} {xs ys : List V}
def fl3 : V → Bool
  | .int _ => true
  | .str x => PyData.strOk x
  | .non => true
  | _ => false
theorem fl3_of {xs : List V} (h : xs.all fl2 = true) : xs.all fl3 = true := by
  rw [List.all_eq_true] at h ⊢
  intro v hv
  have := h v hv
  cases v <;> simp_all [fl2, fl3]
theorem d3_dp {v : V} (h : fl3 v = true) : Dp K H v (dV v) := by
  cases v <;> first | exact .int _ | exact .str _ | exact .non | exact nomatch h
theorem d3_all : ∀ {xs : List V}, xs.all fl3 = true → DpAll K H xs (xs.map dV)
  | [], _ => .nil
  | x :: r, h => by
    rw [List.all_cons, Bool.and_eq_true] at h
    exact .cons (d3_dp h.1) (d3_all h.2)
theorem d3_shape : ∀ {xs : List V}, xs.all fl3 = true → PyData.canLayAll0 (xs.map dV) = true ∧ PyData.depthAll (xs.map dV) ≤ 1
  | [], _ => by simp [PyData.canLayAll0, PyData.depthAll]
  | x :: r, h => by
    rw [List.all_cons, Bool.and_eq_true] at h
    have ih := d3_shape (xs := r) h.2
    have h0 : PyData.canLay0 (dV x) = true ∧ PyData.depth (dV x) ≤ 1 := by cases x <;> simp_all [dV, fl3, PyData.canLay0, PyData.depth]
    simp only [List.map_cons, PyData.canLayAll0, PyData.depthAll, h0.1, ih.1, Bool.and_self, true_and]
    omega
theorem d3_eq {x y : V} (hx : fl3 x = true) (hy : fl3 y = true) : PyData.eqv (dV x) (dV y) = decide (x = y) := by
  cases x <;> cases y <;> simp_all [fl3, dV, PyData.eqv] <;> rw [Bool.eq_iff_iff] <;> simp
theorem d3_eqAll : ∀ {xs ys : List V}, xs.all fl3 = true → ys.all fl3 = true → PyData.eqvAll (xs.map dV) (ys.map dV) = decide (xs = ys)
  | [], [], _, _ => by simp [PyData.eqvAll]
  | [], _ :: _, _, _ => by simp [PyData.eqvAll]
  | _ :: _, [], _, _ => by simp [PyData.eqvAll]
  | x :: r, y :: t, h1, h2 => by
    rw [List.all_cons, Bool.and_eq_true] at h1 h2
    rw [List.map_cons, List.map_cons, PyData.eqvAll, d3_eq h1.1 h2.1, d3_eqAll h1.2 h2.2, Bool.eq_iff_iff]
    simp
theorem l3_shape {xs : List V} (hf : xs.all fl3 = true) : SeqAt.shaped (.list (xs.map dV)) = true ∧ SeqAt.shaped (.tuple (xs.map dV)) = true := by
  have h := d3_shape hf
  have h2 := h.2
  have h1 : PyData.canLay0 (.list (xs.map dV)) = true := by rw [PyData.canLay0]; exact h.1
  have h3 : PyData.depth (.list (xs.map dV)) ≤ 64 := by rw [PyData.depth]; omega
  have h4 : PyData.canLay0 (.tuple (xs.map dV)) = true := by rw [PyData.canLay0]; exact h.1
  have h5 : PyData.depth (.tuple (xs.map dV)) ≤ 64 := by rw [PyData.depth]; omega
  refine ⟨?_, ?_⟩
  · show (_ && _) = true
    rw [h1, decide_eq_true h3]; rfl
  · show (_ && _) = true
    rw [h4, decide_eq_true h5]; rfl
/-- == and != of two lists, two tuples -/
theorem eqL3 (hx : xs.all fl3 = true) (hy : ys.all fl3 = true) (ha : SqL K H a xs) (hb : SqL K H b ys) (q : Q (.bl (decide (xs = ys))) H) : rEqA K (.ref a) (.ref b) H Q :=
  .inr ⟨_, _, .lst ha (d3_all hx), .lst hb (d3_all hy), (l3_shape hx).1, (l3_shape hy).1, by rw [PyData.eqv, d3_eqAll hx hy]; exact q⟩
theorem neL3 (hx : xs.all fl3 = true) (hy : ys.all fl3 = true) (ha : SqL K H a xs) (hb : SqL K H b ys) (q : Q (.bl (!decide (xs = ys))) H) : rNeA K (.ref a) (.ref b) H Q :=
  .inr ⟨_, _, .lst ha (d3_all hx), .lst hb (d3_all hy), (l3_shape hx).1, (l3_shape hy).1, by rw [PyData.eqv, d3_eqAll hx hy]; exact q⟩
theorem eqT3 (hx : xs.all fl3 = true) (hy : ys.all fl3 = true) (ha : SqT K H a xs) (hb : SqT K H b ys) (q : Q (.bl (decide (xs = ys))) H) : rEqA K (.ref a) (.ref b) H Q :=
  .inr ⟨_, _, .tup ha (d3_all hx), .tup hb (d3_all hy), (l3_shape hx).2, (l3_shape hy).2, by rw [PyData.eqv, d3_eqAll hx hy]; exact q⟩
theorem neT3 (hx : xs.all fl3 = true) (hy : ys.all fl3 = true) (ha : SqT K H a xs) (hb : SqT K H b ys) (q : Q (.bl (!decide (xs = ys))) H) : rNeA K (.ref a) (.ref b) H Q :=
  .inr ⟨_, _, .tup ha (d3_all hx), .tup hb (d3_all hy), (l3_shape hx).2, (l3_shape hy).2, by rw [PyData.eqv, d3_eqAll hx hy]; exact q⟩
theorem eqSS {x y : Str} (h1 : x.length ≤ sizeLine) (q : Q (.bl (decide (x = y))) H) : rEqA K (.str x) (.str y) H Q := by
  have e : (x == y) = decide (x = y) := by rw [Bool.eq_iff_iff]; simp
  first
  | exact .inl ⟨rfl, by simpa using q⟩
  | exact .inl ⟨rfl, by rw [e]; exact q⟩
  | exact .inl ⟨rfl, q⟩
end
end UW

set_option Elab.async false
set_option linter.all false
set_option maxRecDepth 100000
set_option maxHeartbeats 4000000
/-! with an own context manager, whose block may raise -/
namespace UW
open PySem PySem.Spec PyProof.Rows L2 UL UV
section
variable {prog : Program} {w : World} {A : Around} {E : Value → Shared → Prop} {s : Shared} {env : Env} {K : PySem.W.Frag} {x C fe fx : Addr} {ox : Obj} {od : Option Obj} {pos : Pos}
/-- what is asked where the block let u out -/
def OutX (prog : Program) (w : World) (A : Around) (E : Value → Shared → Prop) (env : Env) (x fx : Addr) (Q : Flow → Shared → Prop) (u : Value) (s : Shared) : Prop :=
  wpAny (model prog w) A (noteFrame u env) (fun _ s5 => wpAny (model prog w) A (setFlight u none) (fun _ s6 => ∃ a oe vs T oT ts cls, u = .ref a ∧ s6.heap.get? a = some oe ∧ oe.cls = cls ∧ oe.data = .fields vs ∧ vs[1]? = some (.ref T) ∧ s6.heap.get? T = some oT ∧ oT.data = .fields ts ∧ 3 < ts.size ∧
    ∀ tv, tv = Value.none ∨ tv = .ref T → codeAny (model prog w) (A.mark (some u)) (.call (.ref fx) ⟨[.ref x, cls, u, tv], []⟩) (fun r s7 => match r with | .ok (.ret v) => v = .none ∧ wpAny (model prog w) A (PySem.passOn "with" u env : Sem Flow) Q E s7 | .ok _ => False | .error e => E e s7) s6) E s5) E s
theorem with_core {bdy : Sem Flow} {Q : Flow → Shared → Prop} (X : K.In s.heap) (I : PySem.W.InstAt s.heap x ox C od) (he : PySem.W.findIn K (.ref C) "__enter__" = some (some (.ref fe))) (hfe : PySem.W.isFn K (.ref fe) = true) (hx : PySem.W.findIn K (.ref C) "__exit__" = some (some (.ref fx))) (hfx : PySem.W.isFn K (.ref fx) = true)
    (h : wpAny (model prog w) A (call (.ref fe) [.ref x]) (fun v s₂ => wpAny (model prog w) A bdy (fun f s₄ => wpAny (model prog w) A (call (.ref fx) [.ref x, .none, .none, .none]) (fun _ s₅ => Q f s₅) E s₄) (OutX prog w A E env x fx Q) s₂) E s) :
    wpAny (model prog w) A (withItem false pos env (pure (.ref x)) none bdy) Q E s := by
  obtain ⟨cd, hcd, ae⟩ := PySem.W.kw_along he
  obtain ⟨cd', hcd', ax⟩ := PySem.W.kw_along hx
  cases hcd.symm.trans hcd'
  obtain ⟨hh, g, d, tt, os⟩ := s
  have L1 : PySem.W.Looks (model prog w) hh (specialOnItsLine (.ref x) "__enter__") (some (.ref fe), cd.mro) := PySem.W.kw_special X I hcd ae
  have L2 : PySem.W.Looks (model prog w) hh (specialOnItsLine (.ref x) "__exit__") (some (.ref fx), cd.mro) := PySem.W.kw_special X I hcd ax
  have L3 : PySem.W.Looks (model prog w) hh (bindSpecial (.ref fe) (.ref x)) (.ref fe, [.ref x]) := PySem.W.bind_fn X _ (beq_iff_eq.mp hfe)
  have L4 : PySem.W.Looks (model prog w) hh (bindSpecial (.ref fx) (.ref x)) (.ref fx, [.ref x]) := PySem.W.bind_fn X _ (beq_iff_eq.mp hfx)
  have L5 : PySem.W.Looks (model prog w) hh (aMethodOfAnotherBuiltinTypeStops (.ref fe) cd.mro) () := PySem.W.Looks.of_pure rfl
  have L6 : PySem.W.Looks (model prog w) hh (aMethodOfAnotherBuiltinTypeStops (.ref fx) cd.mro) () := PySem.W.Looks.of_pure rfl
  unfold withItem
  refine wpAny_bind (wpAny_pure (wpAny_bind (wpAny_standAt ?_)))
  simp only [Bool.false_eq_true, if_false]
  kw_lk
  refine wpAny_mono h (fun v s₂ h₂ => ?_) fun _ _ z => z
  kw_lk
  refine wpAny_attempt (PySem.W.kw_held ?_)
  show wpAny _ _ bdy _ _ _
  refine wpAny_mono h₂ (fun f s₄ h₄ => ?_) fun u s₄ h₄ => ?_
  · kw_lk
    refine wpAny_mono h₄ (fun _ s₅ h₅ => ?_) fun _ _ z => z
    kw_lk
    exact h₅
  · show wpAny _ _ (noteFrame u env >>= _) _ _ _
    refine wpAny_bind (wpAny_mono h₄ (fun _ s5 h5 => wpAny_bind (wpAny_mono h5 (fun _ s6 h6 => wpAny_bind (wpAny_standAt (wpAny_holding ?_))) fun _ _ z => z)) fun _ _ z => z)
    obtain ⟨a, oe, vs, T, oT, ts, cls, rfl, ha, hc, hd, h1, hT, hdT, h3, hcode⟩ := h6
    refine wpAny_bind (wpAny_typeOf_ref ha ?_)
    rw [hc]
    have rest : ∀ tv, tv = Value.none ∨ tv = .ref T → wpAny (model prog w) A (withItem.marked (.ref a) (Code.call (.ref fx) ⟨[.ref x] ++ [cls, .ref a, tv], []⟩)) (fun r s7 => r = .none ∧ wpAny (model prog w) A (PySem.passOn "with" (.ref a) env : Sem Flow) Q E s7) E s6 := fun tv htv => by
      unfold withItem.marked
      refine wpAny_bind (wpAny_run (codeAny_mono (hcode tv htv) fun r s7 z => ?_) (by intro z; cases z))
      match r, z with
      | .ok (.ret v), z => exact wpAny_pure z
      | .error e, z => exact z
      | .ok .next, z | .ok .brk, z | .ok .cont, z => exact z.elim
    obtain ⟨y, hy⟩ : ∃ y, ts[1]? = some y := ⟨ts[1], by simp [show 1 < ts.size by omega]⟩
    unfold tracebackOf
    refine wpAny_bind (wpAny_bind (wpAny_field ha hd h1 ?_))
    dsimp only
    refine wpAny_bind (wpAny_field hT hdT hy ?_)
    by_cases q : (y == Value.none) = true
    · rw [if_pos q]
      refine wpAny_pure (wpAny_bind (wpAny_mono (rest _ (.inl rfl)) (fun r s7 hz => ?_) fun _ _ z => z))
      obtain ⟨rfl, z⟩ := hz
      refine wpAny_bind (wpAny_pure ?_)
      dsimp only
      refine wpAny_bind (wpAny_pure ?_)
      rw [if_neg (by decide)]
      exact z
    · rw [if_neg q]
      refine wpAny_pure (wpAny_bind (wpAny_mono (rest _ (.inr rfl)) (fun r s7 hz => ?_) fun _ _ z => z))
      obtain ⟨rfl, z⟩ := hz
      refine wpAny_bind (wpAny_pure ?_)
      dsimp only
      refine wpAny_bind (wpAny_pure ?_)
      rw [if_neg (by decide)]
      exact z
end
section
variable {X : Cx} {k j : Nat} {C fe fx : Addr} {fde fdx : FuncData} {pse psx : List Str} {spe : Sp} {spx : Sp} {Wout : WX}
/-- behind the block: __exit__ with three None, then what was due -/
def exW (spx : Sp) (m : Addr) (R : Hp → Prop) (H : Hp) : Prop := spx [.ref m, .non, .non, .non] H (fun v H3 => v = .non ∧ R H3) E0
def exO (spx : Sp) (m : Addr) (D : Ends) : Ends := ⟨fun σ2 H2 => exW spx m (fun H3 => D.nx σ2 H3) H2, fun v H2 => exW spx m (fun H3 => D.rt v H3) H2, fun σ2 H2 => exW spx m (fun H3 => D.bk σ2 H3) H2, fun σ2 H2 => exW spx m (fun H3 => D.ct σ2 H3) H2⟩
/-- the block raised -/
def wOut (spx : Sp) (m : Addr) (Wout : WX) : WX := fun cls d σ2 H2 => ∃ c : Addr, cls = .ref c ∧ ∀ (a : Addr) (tv : V), H2 a = none → spx [.ref m, .ref c, .ref a, tv] H2 (fun v H3 => v = .non ∧ Wout cls d σ2 H3) E0
def sWith (C : Addr) (spe spx : Sp) (Wout : WX) (tm : TE) (tb : WX → TS) : TS := fun D σ H => tm σ H fun x H1 => ∃ m dx fs, x = .ref m ∧ H1 m = some (.ins C dx fs) ∧ spe [.ref m] H1 (fun _ H2 => tb (wOut spx m Wout) (exO spx m D) σ H2) E0
/-- the exception of the block: __exit__ is called, on it goes -/
theorem with_exc {pins : List (Addr × Obj)} {D : Ends} {m : Addr} {u : Value} {s' : Shared} (hs : X.stack = X.env :: X.outer) (hf : X.env.frame = some X.env.locals) (hex : X.ex = []) (ok : X.Ok) (tk : Takes X Wout) (hr : Room j X.A) (hk : k ≤ j) (F : FnP X.prog X.w X.K X.mg X.base k fx fdx psx (fun _ => spx)) (hb : Binds X.K fdx psx [])
    {xe : Value → Shared → Prop} (xx : XE (X.tr (X.pn ++ pins) xe) (wOut spx m Wout) u s') : OutX X.prog X.w X.A X.xe X.env m fx (SP X pins D) u s' := by
  have hfr : X.A.frames = some (X.env :: X.outer) := by rw [ok.frames, hs]
  obtain ⟨a, B, sI, pins', σ', H', cls, d, rfl, J', nb, up, sky, na, os, ag, c, rfl, hw⟩ := xx
  have J : Inv X pins σ' H' sI := J'.ofTry ok
  have sky' : Sky B (X.env :: X.outer) a (Zc (.ref c) d) X.env.locals s'.heap := by rw [← hs]; exact sky
  unfold OutX
  refine Sky.land Zc.steady hfr hf sky' fun h3 fl3 up3 => ?_
  have J3 : Inv X pins σ' H' { s' with heap := h3 } := J.landed nb fl3.1 (up.trans up3) os ag
  obtain ⟨k1, k2, k3, oe, vs, T, oT, ts, he3, hz, hd, hv1, hnT, hTe, hT, hdT, ht3⟩ := id fl3
  refine ⟨a, oe, vs, T, oT, ts, .ref c, rfl, he3, hz.1, hd, hv1, hT, hdT, by have := (Array.getElem?_eq_some_iff.mp ht3).1; exact this, fun tv htv => ?_⟩
  have nT : H' T = none := (J.inGround nb).gone hnT
  have notFr : ∀ (b : Addr) (o : Obj) (fv : Array Value), h3.get? b = some o → o.data = .fields fv → b ∉ frs (X.env :: X.outer) := fun b o fv e dd hm => by
    obtain ⟨_, o', e', hnf⟩ := k3.mem hm
    rw [e] at e'; cases e'; exact hnf _ dd
  have locF : X.env.locals ∈ frs (X.env :: X.outer) := List.mem_filterMap.mpr ⟨X.env, List.mem_cons_self, hf⟩
  have fsF : ∀ b, b ∈ X.fs → b ∈ frs (X.env :: X.outer) := fun b hm => let ⟨e, he, q⟩ := List.mem_filterMap.mp hm; List.mem_filterMap.mpr ⟨e, List.mem_cons_of_mem _ he, q⟩
  have fa := notFr a oe vs he3 hd
  have fT := notFr T oT ts hT hdT
  have I1 := pin1 J3 hT nT (fun z => fT (z ▸ locF)) (fun z => fT (fsF _ z)) (fun v z => by rw [hdT] at z; cases z)
  have I2 := pin1 I1 he3 na (fun z => fa (z ▸ locF)) (fun z => fa (fsF _ z)) (fun v z => by rw [hd] at z; cases z)
  have S3 : Inv (X.suite a ((a, oe) :: (T, oT) :: (X.pn ++ pins))) [] σ' H' { s' with heap := h3 } :=
    ⟨I2.ok.suite _ _, I2.os, I2.bare, I2.base, I2.loc, I2.cell, I2.free, I2.freeC, fun p hp => by
      rw [List.append_nil] at hp
      refine I2.pin p ?_
      rcases List.mem_cons.mp hp with z | hp
      · rw [z]; exact List.mem_append_right _ List.mem_cons_self
      · rcases List.mem_cons.mp hp with z | hp
        · rw [z]; exact List.mem_append_right _ (List.mem_cons_of_mem _ List.mem_cons_self)
        · rcases List.mem_append.mp hp with z | z
          · exact List.mem_append_left _ z
          · exact List.mem_append_right _ (List.mem_cons_of_mem _ (List.mem_cons_of_mem _ z)), I2.hok, I2.len⟩
  obtain ⟨tv', rtv⟩ : ∃ tv' : V, RelV tv' tv := by
    rcases htv with rfl | rfl
    · exact ⟨.non, rfl⟩
    · exact ⟨.ref T, rfl⟩
  have q := hw a tv' na
  have r4 : Vals [V.ref m, V.ref c, V.ref a, tv'] [Value.ref m, Value.ref c, Value.ref a, tv] := .cons rfl (.cons rfl (.cons rfl (.cons rtv .nil)))
  have l4 : [Value.ref m, Value.ref c, Value.ref a, tv].length = psx.length := by rw [← r4.length]; exact F.len (a, oe) _ _ _ _ q
  have bb := hb { s' with heap := h3 } [Value.ref m, Value.ref c, Value.ref a, tv] S3.kIn (by rw [List.append_nil]; exact l4)
  rw [List.append_nil] at bb
  obtain ⟨g1, g2, g3, g4, g5⟩ := S3.pin (a, oe) (List.mem_append_left _ List.mem_cons_self)
  have pin : L2H.PinOk X.stack H' { s' with heap := h3 } (a, oe) := ⟨g1, g2, fun hm => (List.mem_cons.mp (S3.stkSub a hm)).elim g3 g4, g5⟩
  refine codeAny_mono (F.run (a, oe) (X.A.mark (some (.ref a))) X.stack { s' with heap := h3 } H' ⟨[.ref m, .ref c, .ref a, tv], []⟩ _ _ (fun v H3 => v = .non ∧ Wout (.ref c) d σ' H3) E0 ⟨(hr.mono hk).dp, (hr.mono hk).un⟩ pin S3.env0 bb r4 q) fun r s7 hq => ?_
  match r, hq with
  | .error er, hq => exact hq.elim
  | .ok .next, hq | .ok .brk, hq | .ok .cont, hq => exact hq.elim
  | .ok (.ret z), hq =>
    obtain ⟨v, H6, S6, rv, rfl, q6⟩ := S3.after hq
    refine ⟨rv, ?_⟩
    have K6 : Inv X pins σ' H6 s7 := ⟨ok, S6.os, S6.bare, S6.base, S6.loc, S6.cell, S6.free, S6.freeC, fun p hp => S6.pin p (List.mem_append_left _ (List.mem_cons_of_mem _ (List.mem_cons_of_mem _ hp))), S6.hok, S6.len⟩
    obtain ⟨ga, na6, _⟩ := S6.pin (a, oe) (List.mem_append_left _ List.mem_cons_self)
    obtain ⟨gT, nT6, _⟩ := S6.pin (T, oT) (List.mem_append_left _ (List.mem_cons_of_mem _ List.mem_cons_self))
    have apart : ∀ b o, sI.heap.get? b = some o → b ≠ a ∧ b ≠ T := fun b o e => by
      by_cases hb : b ∈ frs X.stack
      · rw [hs] at hb
        exact ⟨fun z => fa (z ▸ hb), fun z => fT (z ▸ hb)⟩
      · have z := nb b o e hb
        refine ⟨fun y => ?_, fun y => ?_⟩
        · rw [y, k2] at z; cases z
        · rw [y, hnT] at z; cases z
    have apart0 : ∀ b o, X.s_0.heap.get? b = some o → b ≠ a ∧ b ≠ T := fun b o e => let ⟨o', z⟩ := J.base.there b o e (by rw [hex]; simp); apart b o' z
    obtain ⟨G, g1, g2⟩ := restrict s7.heap fun b => !(decide (b = a) || decide (b = T))
    have gin : ∀ b o, G.get? b = some o → s7.heap.get? b = some o ∧ b ≠ a ∧ b ≠ T := fun b o e => by
      cases z : (!(decide (b = a) || decide (b = T))) with
      | false => rw [g2 b z] at e; cases e
      | true =>
        rw [g1 b z] at e
        simp only [Bool.not_eq_true', Bool.or_eq_false_iff, decide_eq_false_iff_not] at z
        exact ⟨e, z⟩
    have I6 : Inv X pins σ' H6 { s7 with heap := G } := K6.less (fun b o e => (gin b o e).1) (fun b o h1 h2 e => by rw [g1 b (by simp [h1, h2])]; exact e) ⟨oe, vs, ga, hd⟩ ⟨oT, ts, gT, hdT⟩ na6 nT6 apart0 fun p hp => apart p.1 p.2 (J.pin p hp).1
    have gno : ∀ b, (b = a ∨ b = T) → (PySem.W.hideAll G (frs X.stack)).get? b = none := fun b hb => by
      cases z : (PySem.W.hideAll G (frs X.stack)).get? b with
      | none => rfl
      | some o => exact absurd hb (fun y => y.elim (gin b o (PySem.W.of_hideAll _ z)).2.1 (gin b o (PySem.W.of_hideAll _ z)).2.2)
    have fl6 : HandSPX.FlyingZ (PySem.W.hideAll G (frs X.stack)) (X.env :: X.outer) a (Zc (.ref c) d) s7.heap := by
      refine ⟨fun b o e => (gin b o (PySem.W.of_hideAll _ e)).1, gno a (.inl rfl), ?_, oe, vs, T, oT, ts, ga, hz, hd, hv1, gno T (.inr rfl), hTe, gT, hdT, ht3⟩
      rw [← hs]
      exact funFrames_none (B := PySem.W.hideAll G (frs X.stack)) K6.stack fun b hb => PySem.W.hideAll_none _ hb
    unfold PySem.passOn
    refine wpAny_bind (wpAny_field ga hd hv1 ?_)
    rw [if_neg (show ¬ ((Value.ref T == Value.none) = true) from by simp)]
    have fin : wpAny (model X.prog X.w) X.A (setFlight (.ref a) X.env.frame) (fun _ s8 => wpAny (model X.prog X.w) X.A (throw (.ref a) : Sem Flow) (SP X pins D) X.xe s8) X.xe s7 := by
      rw [hf]
      refine HandSPX.setFlight_upZ fl6 fun h7 hh7 up7 => wpAny_throw (tk _ _ ⟨a, PySem.W.hideAll G (frs X.stack), { s7 with heap := G }, pins, σ', H6, .ref c, d, rfl, I6, fun b o e hb => PySem.W.hideAll_get _ e hb, Heap.UpToSlots.trans (Heap.UpToSlots.of_keeps fun b o e => (gin b o e).1) up7, .inr (.inr (by rw [← hs] at hh7; exact hh7)), na6, rfl, K6.bare, q6⟩)
    first
      | exact wpAny_bind (wpAny_pure (wpAny_bind fin))
      | exact wpAny_bind fin
theorem ps_with {CX : CXT} {ke kx : Nat} {ctx : Expr} {body : List Stmt} {pos : Pos} {tm : TE} {tb : WX → TS} (hs : X.stack = X.env :: X.outer) (hf : X.env.frame = some X.env.locals) (hex : X.ex = []) (hr : Room j X.A) (hke : ke ≤ j) (hkx : kx ≤ j) (tk : Takes X Wout)
    (Fe : FnOk X.prog X.w X.K X.mg X.base CX0 ke fe fde pse spe) (be : Binds X.K fde pse []) (Fx : FnOk X.prog X.w X.K X.mg X.base CX0 kx fx fdx psx spx) (Fp : FnP X.prog X.w X.K X.mg X.base kx fx fdx psx (fun _ => spx)) (bx : Binds X.K fdx psx [])
    (he : PySem.W.findIn X.K (.ref C) "__enter__" = some (some (.ref fe))) (hfe : PySem.W.isFn X.K (.ref fe) = true) (hx : PySem.W.findIn X.K (.ref C) "__exit__" = some (some (.ref fx))) (hfx : PySem.W.isFn X.K (.ref fx) = true) (hm : PE X ctx tm)
    (hb : ∀ (W : WX) (pn : List (Addr × Obj)) (xe : Value → Shared → Prop), Takes (X.tr pn xe) W → PassesOwn (model X.prog X.w) X.A X.env xe → PSs (X.tr pn xe) body (tb W)) : PS X (.With [⟨ctx, none⟩] body pos) (sWith C spe spx Wout tm tb) := by
  refine ⟨fun pins s σ H D I h => PySem.W.kw_exec0 (thn (hm.run pins s σ H _ I h) fun u s1 ⟨x, H1, I1, rx, m, dx, fs, ex, em, q⟩ => ?_)⟩
  subst ex
  obtain rfl : u = Value.ref m := rx
  have ok := I.ok
  obtain ⟨od, Jm⟩ := inst_of I1 em
  show wpAny _ _ (withItem false ctx.pos X.env (pure (.ref m)) none (execs body X.env)) _ _ _
  refine with_core I1.kIn Jm he hfe hx hfx ?_
  refine wpAny_mono (run_fn Fe (hr.mono hke) be .nil pass0 I1 (us := [.ref m]) (vs := [.ref m]) (.cons rfl .nil) q) (fun v s2 hv => ?_) fun _ _ z => z
  obtain ⟨v', H2, I2, rv, q2⟩ := hv
  have done : ∀ {σ' : L2.St} {H' : Hp} {s4 : Shared} {R : Hp → Prop} {Q' : Shared → Prop}, Inv X pins σ' H' s4 → exW spx m R H' → (∀ H3 s5, Inv X pins σ' H3 s5 → R H3 → Q' s5) → wpAny (model X.prog X.w) X.A (call (.ref fx) [.ref m, .none, .none, .none]) (fun _ s5 => Q' s5) X.xe s4 := fun {σ' H' s4 R Q'} J hq go => by
    refine wpAny_mono (run_fn Fx (hr.mono hkx) bx .nil pass0 J (us := [.ref m, .none, .none, .none]) (vs := [.ref m, .non, .non, .non]) (.cons rfl (.cons rfl (.cons rfl (.cons rfl .nil)))) hq) (fun r s5 hv => ?_) fun _ _ z => z
    obtain ⟨v3, H3, I3, _, _, q3⟩ := hv
    exact go H3 s5 I3 q3
  refine wpAny_mono ((hb (wOut spx m Wout) (X.pn ++ pins) (OutX X.prog X.w X.A X.xe X.env m fx (SP X pins D)) (fun u s' xx => with_exc hs hf hex ok tk hr hkx Fp bx xx) PassesOwn.looking).run [] s2 σ H2 (exO spx m D) (I2.toTry _) q2) (fun f s4 hsp => ?_) fun _ _ z => z
  cases f with
  | ret u => obtain ⟨v4, σ4, H4, J4, r4, q4⟩ := hsp; exact done (J4.ofTry ok) q4 fun H3 s5 I3 q3 => ⟨v4, σ4, H3, I3, r4, q3⟩
  | next => obtain ⟨σ4, H4, J4, q4⟩ := hsp; exact done (J4.ofTry ok) q4 fun H3 s5 I3 q3 => ⟨σ4, H3, I3, q3⟩
  | brk => obtain ⟨σ4, H4, J4, q4⟩ := hsp; exact done (J4.ofTry ok) q4 fun H3 s5 I3 q3 => ⟨σ4, H3, I3, q3⟩
  | cont => obtain ⟨σ4, H4, J4, q4⟩ := hsp; exact done (J4.ofTry ok) q4 fun H3 s5 I3 q3 => ⟨σ4, H3, I3, q3⟩
end
/-- what a def promises of a thing that is not tracked, by its body -/
theorem Fun_okP {P : Program} {w : World} {K : PySem.W.Frag} {mg : Str → Option Value} {base : Heap} {x qual : Str} {st : Stmt} {N ps : List Str} {k : Nat} {sp : SpP} {f : Addr} {fd : FuncData} (F : Fun K x qual st f fd) (S : FnScope N ps (defScope st)) (len : ∀ p vs H Q E, sp p vs H Q E → vs.length = ps.length)
    (inner : ∀ (cdv : Value) (p : Addr × Obj) (A : Around) (outer : List Env) (s : Shared) (H : Hp) (vs : List V) (Q : VK) (E : XK), L2H.RoomH k (A.deeper (envOfC qual (defScope st) s.heap.objs.size f cdv)) → sp p vs H Q E →
      ∃ t, PSs (L2H.cxH CX0 P w K mg base N qual (defScope st) f cdv A outer s H E p) (defBody st) t ∧ t { nx := fun _ H' => Q .non H', rt := Q } (L2.start N vs) H) : FnP P w K mg base (k + 1) f fd ps sp := by
  obtain ⟨oc, od, kV, doc, pm, an, cdv, ct, osl, e, lk, hcd⟩ := F.ex
  subst e
  exact fn_ofP lk hcd S len fun p A outer s H vs Q E hr h => inner cdv p A outer s H vs Q E hr h
/-- a context manager's two methods -/
structure WithN (P : Program) (w : World) (K : PySem.W.Frag) (mg : Str → Option Value) (base : Heap) (k : Nat) (C : Addr) (spe spx : Sp) : Prop where
  ex : ∃ (fe fx : Addr) (fde fdx : FuncData) (pse psx : List Str), FnOk P w K mg base CX0 k fe fde pse spe ∧ Binds K fde pse [] ∧ FnOk P w K mg base CX0 k fx fdx psx spx ∧ FnP P w K mg base k fx fdx psx (fun _ => spx) ∧ Binds K fdx psx [] ∧
    PySem.W.findIn K (.ref C) "__enter__" = some (some (.ref fe)) ∧ PySem.W.isFn K (.ref fe) = true ∧ PySem.W.findIn K (.ref C) "__exit__" = some (some (.ref fx)) ∧ PySem.W.isFn K (.ref fx) = true
section
variable {X : Cx} {k j : Nat} {C : Addr} {spe : Sp} {spx : Sp} {Wout : WX}
theorem ps_withN {ctx : Expr} {body : List Stmt} {pos : Pos} {tm : TE} {tb : WX → TS} (d : WithN X.prog X.w X.K X.mg X.base k C spe spx) (hs : X.stack = X.env :: X.outer) (hf : X.env.frame = some X.env.locals) (hex : X.ex = []) (hr : Room j X.A) (hk : k ≤ j) (tk : Takes X Wout) (hm : PE X ctx tm)
    (hb : ∀ (W : WX) (pn : List (Addr × Obj)) (xe : Value → Shared → Prop), Takes (X.tr pn xe) W → PassesOwn (model X.prog X.w) X.A X.env xe → PSs (X.tr pn xe) body (tb W)) : PS X (.With [⟨ctx, none⟩] body pos) (sWith C spe spx Wout tm tb) := by
  obtain ⟨fe, fx, fde, fdx, pse, psx, Fe, be, Fx, Fp, bx, he, hfe, hx, hfx⟩ := d.ex
  exact ps_with (CX := CX0) hs hf hex hr hk hk tk Fe be Fx Fp bx he hfe hx hfx hm hb
end
section
variable {X : Cx} {tg l : Expr} {tl : TE}
/-- in a block whose context is open: K by its name -/
theorem pi_listK (K : PySem.W.Frag) (hK : X.K = K) (hl : PE X l tl) : PI X tg l (iList K tl) := hK ▸ pi_list hl
theorem pg_tupK (K : PySem.W.Frag) (n : Nat) {es : List Expr} {k : Nat} {t : TGs} {pos : Pos} (hK : X.K = K) (hc : X.calm = true) (h : PGs X es t) (hn : (assignEach es X.env).length = n := by rfl) (hst : (assignEach es X.env).findIdx? (·.1) = none := by rfl) : PG X (.Tuple es k pos) (gTup K n t) := hK ▸ pg_tup hc h hn hst
end
end UW

set_option Elab.async false
set_option linter.all false
set_option maxRecDepth 100000
set_option maxHeartbeats 4000000
/-! an own exception without arguments: raised, caught, asked for its class -/
namespace UW
open PySem PySem.Spec PyProof.Rows L2 UL UV
section
variable {X : Cx} {pins : List (Addr × Obj)} {σ : L2.St} {H : Hp} {s : Shared} {G : Heap} {a C : Addr} {d : Option Addr}
/-- a tracked record is let go and hidden -/
theorem forget (J : Inv X pins σ H s) (ha : H a = some (exo a C d)) (h0 : X.s_0.heap.get? a = none) (gk : ∀ b, b ≠ a → G.get? b = s.heap.get? b) : Inv X pins σ (del H a) { s with heap := G } := by
  have n0 : ∀ {b : Addr} {o : Obj}, X.s_0.heap.get? b = some o → b ≠ a := fun {b o} z q => by rw [q, h0] at z; cases z
  have nn : ∀ {b : Addr}, H b = none → b ≠ a := fun {b} z q => by rw [q, ha] at z; cases z
  have dn : ∀ {b : Addr}, H b = none → del H a b = none := fun {b} z => by rw [del_ne (nn z)]; exact z
  have ic : ∀ {x c v}, X.env.cells.lookup x = some c → s.heap.IsCell c v → G.IsCell c v := fun {x c v} z q => let ⟨o, e, y⟩ := q; ⟨o, (gk c (nn (J.freeC x c z))).trans e, y⟩
  obtain ⟨m, hn, hl⟩ := J.loc
  refine ⟨J.ok, J.os, J.bare, ⟨fun b o e n hb hx => (gk b (n0 e)).trans (J.base.keep b o e n hb hx), fun b o e n hb hx => let ⟨sl, z⟩ := J.base.slot b o e n hb hx; ⟨sl, (gk b (n0 e)).trans z⟩, fun b o e n hx => dn (J.base.free b o e n hx), fun b o e hx => let ⟨u, z⟩ := J.base.there b o e hx; ⟨u, (gk b (n0 e)).trans z⟩,
      fun b xs e => ?_, fun b o u e => ?_, fun b ps e => ?_⟩, ⟨m, hn.at fun o z => (gk _ (nn J.free)).trans z, fun i x v e1 e2 e3 => ?_⟩, fun x c z => let ⟨v, q⟩ := J.cell x c z; ⟨v, ic z q⟩, dn J.free, fun x c z => dn (J.freeC x c z), fun p hp => let ⟨e, n, l, f, y⟩ := J.pin p hp; ⟨(gk _ (nn n)).trans e, dn n, l, f, y⟩, fun b o z => ?_, J.len⟩
  · have z := J.base.tups b xs e
    rw [del_ne (at_ne ha z exo_tup)]; exact z
  · have z := J.base.frzs b o u e
    rw [del_ne (at_ne ha z exo_frz)]; exact z
  · obtain ⟨more, z⟩ := J.base.tbls b ps e
    exact ⟨more, by rw [del_ne (at_ne ha z exo_tbl)]; exact z⟩
  · obtain ⟨u, ru, lk⟩ := hl i x v e1 e2 e3
    exact ⟨u, ru, lk.elim .inl fun ⟨k, c, ce, q⟩ => .inr ⟨k, c, ce, ic ce q⟩⟩
  · have hb : b ≠ a := fun q => by rw [q, del_same] at z; cases z
    rw [del_ne hb] at z
    refine (J.hok b o z).stay (fun c u hc q => (gk c ?_).trans q) (fun c hc => ?_) fun c xs hc => ?_
    · rcases hc with hc | hc
      · rw [hc]; exact hb
      · exact at_ne ha hc exo_own
    · rw [del_ne (at_ne ha hc exo_own)]; exact hc
    · rw [del_ne (at_ne ha hc exo_tup)]; exact hc
end
section
variable {X : Cx} {C g : Addr} {k j : Nat} {fd : FuncData} {ps : List Str} {sp : Sp} {x : Str} {p pos : Pos}
/-- C(), C's own __init__ keeping sp: the exception has no dict -/
def tMk0 (C : Addr) (sp : Sp) : L2.St → Hp → XK → Prop := fun σ H Q => ∀ a, H a = none → sp [.ref a] (upd H a (exo a C none)) (fun v H2 => v = .non ∧ H2 a = some (exo a C none) ∧ Q (.ref C) none (del H2 a)) E0
theorem made0 (T : OexC X.K C) (fi : PySem.W.findIn X.K (.ref C) "__init__" = some (some (.ref g))) (ty : PySem.W.typeIn X.K (.ref g) = some (.type "function")) (Fn : FnOk X.prog X.w X.K X.mg X.base CX0 k g fd ps sp) (hr : Room j X.A) (hk : k + 1 ≤ j) (B : Binds X.K fd ps [])
    (hex : X.ex = []) (hg : Gl X x) (hm : X.mg x = some (.ref C)) (hdb : (x == ("__debug__" : Str)) = false := by decide) : PMk X (.Call (.Name x p) [] [] pos) (tMk0 C sp) := by
  intro pn z1 sg Ha Qx Ia qa
  obtain ⟨nm, q, N, bs, bm, sn, sub, ab, col, dd, k0, k1, k2, k3, k5, lkC, bmE⟩ := T.cls
  refine wpAny_Call_Name_kw (ld_glob Ia hg hm (PySem.W.callWith_K0 Ia.kIn T.kC ?_) hdb)
  show wpAny _ _ (call (.ref C) []) _ _ _
  have hsz := Ia.sz
  obtain ⟨hz, gz, dz, tz, oz⟩ := z1
  have le1 : hz.objs.size ≤ hz.objs.size + 1 := Nat.le_succ _
  have fresh := Ia.hok.fresh le1
  have want := qa (hz.objs.size + 1) fresh
  have kp : ∀ b o, hz.get? b = some o → ((hz.push (PySem.W.kdv_tup [])).push (PySem.HandSPX.excO C hz.objs.size)).get? b = some o := fun b o e => Heap.get?_push_of_some _ (Heap.get?_push_of_some _ e)
  have at2 : ((hz.push (PySem.W.kdv_tup [])).push (PySem.HandSPX.excO C hz.objs.size)).get? (hz.objs.size + 1) = some (PySem.HandSPX.excO C hz.objs.size) := by heap_get
  have Ib : Inv X pn sg (upd Ha (hz.objs.size + 1) (exo (hz.objs.size + 1) C none)) ⟨((hz.push (PySem.W.kdv_tup [])).push (PySem.HandSPX.excO C hz.objs.size)), gz, dz, tz, oz⟩ := Ia.laid (t' := tz) (a := hz.objs.size + 1) (o := exo (hz.objs.size + 1) C none) (h' := ((hz.push (PySem.W.kdv_tup [])).push (PySem.HandSPX.excO C hz.objs.size))) kp le1 (exo_ok at2)
  have rb : Vals [V.ref (hz.objs.size + 1)] [Value.ref (hz.objs.size + 1)] := .cons rfl .nil
  have lb : ([Value.ref (hz.objs.size + 1)] ++ ([] : List Value)).length = ps.length := by
    rw [List.append_nil, ← rb.length]; exact Fn.len _ _ _ _ want
  have bb := B ⟨((hz.push (PySem.W.kdv_tup [])).push (PySem.HandSPX.excO C hz.objs.size)), gz, dz, tz, oz⟩ [Value.ref (hz.objs.size + 1)] Ib.kIn lb
  rw [List.append_nil] at bb
  refine wpAny_call (PySem.HandSPX.call_own F.excBase_ValueError (fun Y => PySem.HandSPX.refsVE_contains Y bm bmE) (Ia.kIn _ _ lkC) (PySem.W.looks_findIn Ia.kIn fi) (fun self => PySem.W.bind_fn Ia.kIn self ty) (by rw [sizeLine_eq]; simp)
    (codeAny_mono (Fn.run _ X.stack _ _ ⟨[Value.ref (hz.objs.size + 1)], []⟩ [Value.ref (hz.objs.size + 1)] _ _ E0 ((hr.mono hk).make C [] []) (Ib.env0.make C [] []) bb rb want) fun r z3 hq => ?_))
  match r, hq with
  | .error er, hq => exact hq.elim
  | .ok .next, hq | .ok .brk, hq | .ok .cont, hq => exact hq.elim
  | .ok (.ret u), hq =>
    obtain ⟨v, H3, I3, rv, ev, ea, q3⟩ := Ib.after hq
    subst ev
    refine ⟨rv, ?_⟩
    obtain ⟨t0, hoe⟩ := exo_at I3.hok ea
    have s0 : X.s_0.heap.get? (hz.objs.size + 1) = none := by
      cases z : X.s_0.heap.get? (hz.objs.size + 1) with
      | none => rfl
      | some o =>
        exact absurd (Nat.lt_of_lt_of_le (Heap.lt_size z) hsz) (Nat.not_lt.mpr (Nat.le_succ _))
    obtain ⟨G, g1, g2⟩ := restrict z3.heap fun b => decide (b ≠ hz.objs.size + 1)
    have gk : ∀ b, b ≠ hz.objs.size + 1 → G.get? b = z3.heap.get? b := fun b hb => g1 b (decide_eq_true hb)
    have ge : G.get? (hz.objs.size + 1) = none := g2 _ (by simp)
    have I4 := forget I3 ea s0 gk
    refine ⟨hz.objs.size + 1, _, _, { z3 with heap := G }, _, .ref C, none, rfl, I4, fun b o z => ?_, ge, hoe, ⟨rfl, rfl⟩, rfl, rfl, del_same, rfl, I3.bare, raises_own T.exC T.tyC, q3⟩
    have n : b ≠ hz.objs.size + 1 := fun y => by rw [y, ge] at z; cases z
    exact (gk b n).symm.trans z
/-- isinstance of a caught exception without a dict -/
def rIs0 (K : PySem.W.Frag) (a : Addr) (cls : Value) (d : Option Addr) : List V → Hp → VK → Prop := fun xs H Q => ∃ (D : Addr) (c : V) (cv : Value) (b : Bool), cls = .ref D ∧ d = none ∧ ExcC K D ∧ xs = [.ref a, c] ∧ (∀ u, RelV c u → u = cv) ∧ PySem.W.kitOne K (.ref D) cv = some b ∧ Q (.bl b) H
theorem call_is0 {a : Addr} {cls : Value} {d : Option Addr} {oe : Obj} {pn : List (Addr × Obj)} (hz : Zc cls d oe) (hf : ∃ vs, oe.data = .fields vs) : CallR (X.suite a ((a, oe) :: pn)) (.builtin "isinstance") (rIs0 X.K a cls d) := by
  intro pins s σ H xs us Q I r h
  obtain ⟨D, c, cv, b, rfl, rfl, ec, rfl, hcv, e, q⟩ := h
  exact call_isE (X := X) (a := a) (D := D) (oe := oe) (pn := pn) ec hz hf pins s σ H _ us Q I r ⟨c, cv, b, rfl, hcv, e, q⟩
end
end UW

set_option Elab.async false
set_option linter.all false
set_option maxRecDepth 100000
set_option maxHeartbeats 4000000
/-! match of a list of texts against sequences of words and names, the last one with a star -/
namespace UX
open PySem PySem.Spec PyProof.Rows L2 UL UV UW
/-- an item of a sequence pattern: a word, or a name (by its place among the locals) -/
inductive Itm where
  | wd (c : Str)
  | nm (i : Nat)
def NmOk (X : Cx) (i : Nat) (x : Str) : Prop := X.N[i]? = some x ∧ Loc X.env.scope x ∧ (X.fn x = true ∨ X.env.scope.names.lookup x = some .local)
def ItOk (X : Cx) : Itm → Pattern → Prop
  | .wd c, p => ∃ k q q', p = .MatchValue (.Constant (.str c) k q) q'
  | .nm i, p => ∃ x q, p = .MatchAs none (some x) q ∧ NmOk X i x
inductive ItsOk (X : Cx) : List Itm → List Pattern → Prop
  | nil : ItsOk X [] []
  | cons {i p is ps} : ItOk X i p → ItsOk X is ps → ItsOk X (i :: is) (p :: ps)
/-- what the words bind, or none -/
def mt : List Itm → List Str → Option (List (Nat × V))
  | [], [] => some []
  | .wd c :: r, s :: ss => if s = c then mt r ss else none
  | .nm i :: r, s :: ss => match mt r ss with
    | none => none
    | some bs => some ((i, .str s) :: bs)
  | _, _ => none
def puts (σ : L2.St) : List (Nat × V) → L2.St
  | [] => σ
  | (i, v) :: r => puts (σ.set i (some v)) r
inductive Bds (X : Cx) : List (Nat × V) → List (Str × Value) → Prop
  | nil : Bds X [] []
  | cons {i v x u bs cs} : NmOk X i x → RelV v u → Bds X bs cs → Bds X ((i, v) :: bs) ((x, u) :: cs)
theorem Bds.app {X : Cx} : ∀ {a b : List (Nat × V)} {c d : List (Str × Value)}, Bds X a c → Bds X b d → Bds X (a ++ b) (c ++ d)
  | _, _, _, _, .nil, h => h
  | _, _, _, _, .cons n r t, h => .cons n r (t.app h)
def Res (X : Cx) : Option (List (Nat × V)) → Option (List (Str × Value)) → Prop
  | none, none => True
  | some bs, some cs => Bds X bs cs
  | _, _ => False
section
variable {X : Cx} {pins : List (Addr × Obj)}
theorem each {prog : Program} {w : World} {A : Around} {E : Value → Shared → Prop} {pt : List Pattern} {ut : List Value} {bt : List (Str × Value)} (tail : ∀ (R' : Option (List (Str × Value)) → Shared → Prop) (s' : Shared), R' (some bt) s' → wpAny (model prog w) A (matchEach pt X.env ut) R' E s') :
    ∀ (its : List Itm) {ps : List Pattern} {ws : List Str} {us : List Value} {s : Shared} {R : Option (List (Str × Value)) → Shared → Prop}, ItsOk X its ps → its.length = ws.length → Vals (ws.map V.str) us →
      (∀ tk r, Res X (mt its ws) r → R (r.map (· ++ bt)) { s with toks := tk }) → wpAny (model prog w) A (matchEach (ps ++ pt) X.env (us ++ ut)) R E s
  | [], ps, ws, us, s, R, ok, hl, hv, hR => by
    cases ok
    cases ws with
    | cons _ _ => cases hl
    | nil =>
      cases hv
      exact tail R s (hR s.toks (some []) .nil)
  | .wd c :: its, ps, ws, us, s, R, ok, hl, hv, hR => by
    cases ok with
    | cons hi ht =>
      obtain ⟨k, q, q', rfl⟩ := hi
      cases ws with
      | nil => cases hl
      | cons a ws =>
        cases hv with
        | cons r rs =>
          obtain ⟨t, rfl⟩ := r
          refine wpAny_matchEach_cons (wpAny_matchPattern_Value (wpAny_Constant_str (PyProof.Rows.eq_str (wpAny_truthy_bool ?_))))
          by_cases e : a = c
          · subst e
            rw [beq_self_eq_true, if_pos rfl]
            refine each tail its (s := { s with toks := s.toks + 1 }) ht (Nat.succ.inj hl) rs fun tk r hr => ?_
            have := hR tk r (by show Res X (if a = a then mt its ws else none) r; rw [if_pos rfl]; exact hr)
            cases r with
            | none => exact this
            | some cs => exact this
          · rw [if_neg (by simpa using e)]
            exact hR (s.toks + 1) none (by show Res X (if a = c then mt its ws else none) none; rw [if_neg e]; trivial)
  | .nm i :: its, ps, ws, us, s, R, ok, hl, hv, hR => by
    cases ok with
    | cons hi ht =>
      obtain ⟨x, q, rfl, hn⟩ := hi
      cases ws with
      | nil => cases hl
      | cons a ws =>
        cases hv with
        | cons r rs =>
          refine wpAny_matchEach_cons (wpAny_matchPattern_Capture ?_)
          refine each tail its ht (Nat.succ.inj hl) rs fun tk r' hr => ?_
          cases e : mt its ws with
          | none =>
            rw [e] at hr
            cases r' with
            | none => exact hR tk none (by show Res X (match mt its ws with | none => none | some bs => some ((i, V.str a) :: bs)) none; rw [e]; trivial)
            | some cs => exact hr.elim
          | some bs =>
            rw [e] at hr
            cases r' with
            | none => exact hr.elim
            | some cs => exact hR tk (some ((x, _) :: cs)) (by show Res X (match mt its ws with | none => none | some bs => some ((i, V.str a) :: bs)) _; rw [e]; exact .cons hn r hr)
/-- the names are bound one after another -/
theorem binds {prog : Program} {w : World} {A : Around} {E : Value → Shared → Prop} (hN : X.N.Nodup) : ∀ {bs : List (Nat × V)} {cs : List (Str × Value)} {σ : L2.St} {H : Hp} {s : Shared} {Q : Unit → Shared → Prop}, Bds X bs cs → Inv X pins σ H s → (∀ s', Inv X pins (puts σ bs) H s' → Q () s') →
    wpAny (model prog w) A (assignInOrder (cs.map fun (n, _) => bindName X.env n) (cs.map (·.2))) Q E s
  | _, _, σ, H, s, Q, .nil, I, h => wpAny_assignInOrder_none (h s I)
  | _, _, σ, H, s, Q, .cons hn r t, I, h => by
    refine wpAny_assignInOrder_more (wpAny_bindName (store_ok I hN hn.1 hn.2.1 r (fun s1 I1 => ?_) hn.2.2))
    exact binds hN t I1 h
/-- cases, of a list of texts -/
structure PM (X : Cx) (cs : List MatchCase) (t : List Str → TS) : Prop where
  run : ∀ (pins : List (Addr × Obj)) (s : Shared) (σ : L2.St) (H : Hp) (D : Ends) (p : Addr) (ws : List Str) (b : Bool), Inv X pins σ H s → SqL X.K H p (ws.map V.str) → t ws D σ H → wpAny (model X.prog X.w) X.A (matchCases cs X.env (.ref p) b) (SP X pins D) X.xe s
theorem pm_nil : PM X [] (fun _ D σ H => D.nx σ H) := ⟨fun pins s σ H D p ws b I _ h => wpAny_matchCases_nil ⟨σ, H, I, h⟩⟩
theorem pm_any {body : List Stmt} {cs : List MatchCase} {q : Pos} {tb : TS} (hb : PSs X body tb) : PM X (⟨.MatchAs none none q, none, body⟩ :: cs) (fun _ => tb) :=
  ⟨fun pins s σ H D p ws b I _ h => wpAny_matchCases_cons (wpAny_matchPattern_Capture (wpAny_assignInOrder_none (hb.run pins s σ H D I h)))⟩
theorem mt_len : ∀ {its : List Itm} {ws : List Str} {bs : List (Nat × V)}, mt its ws = some bs → its.length = ws.length
  | [], [], _, _ => rfl
  | [], _ :: _, _, h => by cases h
  | .wd _ :: _, [], _, h => by cases h
  | .nm _ :: _, [], _, h => by cases h
  | .wd c :: r, a :: ss, bs, h => by
    have h : (if a = c then mt r ss else none) = some bs := h
    by_cases e : a = c
    · rw [if_pos e] at h
      exact congrArg Nat.succ (mt_len h)
    · rw [if_neg e] at h; cases h
  | .nm i :: r, a :: ss, bs, h => by
    have h : (match mt r ss with | none => none | some bs => some ((i, V.str a) :: bs)) = some bs := h
    cases e : mt r ss with
    | none => rw [e] at h; cases h
    | some cs => exact congrArg Nat.succ (mt_len e)
theorem its_len {X : Cx} : ∀ {its : List Itm} {ps : List Pattern}, ItsOk X its ps → its.length = ps.length
  | _, _, .nil => rfl
  | _, _, .cons _ t => congrArg Nat.succ (its_len t)
/-- a sequence without a star -/
def sSeq (its : List Itm) (tb : TS) (tn : List Str → TS) : List Str → TS := fun ws D σ H => match mt its ws with
  | some bs => tb D (puts σ bs) H
  | none => tn ws D σ H
theorem pm_seq {its : List Itm} {ps : List Pattern} {body : List Stmt} {cs : List MatchCase} {q : Pos} {tb : TS} {tn : List Str → TS} (hN : X.N.Nodup) (hc : X.calm = true) (ok : ItsOk X its ps) (hb : PSs X body tb) (hn : PM X cs tn)
    (hst : ps.findIdx? (·.isStar) = none := by rfl) (hw : (ps.all fun p => p.isWildcard || (p.isStar && p.names.isEmpty)) = false := by rfl) : PM X (⟨.MatchSequence ps q, none, body⟩ :: cs) (sSeq its tb tn) := by
  refine ⟨fun pins s σ H D p ws b I hp h => ?_⟩
  obtain ⟨us, rv, pl, hz⟩ := I.list hp
  have lu : ws.length = us.length := by rw [← List.length_map (f := V.str)]; exact rv.length
  have zs : sizeLine < 2 ^ 63 := by rw [sizeLine_eq]; decide
  rw [List.length_map] at hz
  refine wpAny_matchCases_cons (wpAny_matchPattern_Sequence (wpAny_collectionFlag pl.isList.typeIs flag_seq_list ?_) hst hw)
  rw [if_pos rfl]
  refine pyLen_list pl.isList (by simp only [List.size_toArray]; omega) ?_
  have lp := its_len ok
  have no : ∀ {tk : Nat} {hh : Heap}, (∀ b o, s.heap.get? b = some o → hh.get? b = some o) → mt its ws = none → wpAny (model X.prog X.w) X.A (matchCases cs X.env (.ref p) false) (SP X pins D) X.xe { s with heap := hh, toks := tk } := fun {tk hh} k e => by
    have h : (match mt its ws with | some bs => tb D (puts σ bs) H | none => tn ws D σ H) := h
    rw [e] at h
    exact hn.run pins _ σ H D p ws false (I.kept k) hp h
  by_cases e : us.length = ps.length
  · rw [if_neg (by simp [e])]
    have e' : ps.length = us.toArray.size := by rw [List.size_toArray, e]
    rw [e']
    refine PySem.W.kun_itemsOf (I.ok.hd hc) pl.isList fun h' hx => ?_
    have kp : ∀ b o, s.heap.get? b = some o → h'.get? b = some o := fun b o z => hx b o (Nat.ne_of_lt (Heap.lt_size z)) z
    have go := each (X := X) (prog := X.prog) (w := X.w) (A := X.A) (E := X.xe) (pt := []) (ut := []) (bt := []) (fun R' s' z => wpAny_matchEach_nil z) its (ps := ps) (ws := ws) (us := us) (s := { s with heap := h', toks := s.toks + 1 + 1 }) ok (by omega) rv
      (R := fun r s₁ => match r with
        | none => wpAny (model X.prog X.w) X.A (matchCases cs X.env (.ref p) false) (SP X pins D) X.xe s₁
        | some bs => wpAny (model X.prog X.w) X.A (assignInOrder (bs.map fun (n, _) => bindName X.env n) (bs.map (·.2))) (fun _ s₂ => wpAny (model X.prog X.w) X.A (execs body X.env) (SP X pins D) X.xe s₂) X.xe s₁) (fun tk r hr => ?_)
    · rw [List.append_nil, List.append_nil] at go
      exact go
    · have h : (match mt its ws with | some bs => tb D (puts σ bs) H | none => tn ws D σ H) := h
      cases em : mt its ws with
      | none =>
        rw [em] at hr
        cases r with
        | some _ => exact hr.elim
        | none => exact no kp em
      | some bs =>
        rw [em] at hr h
        cases r with
        | none => exact hr.elim
        | some cs' =>
          show wpAny _ _ (assignInOrder ((cs' ++ []).map _) ((cs' ++ []).map _)) _ _ _
          rw [List.append_nil]
          exact binds hN hr (I.kept kp) fun s' I' => hb.run pins s' (puts σ bs) H D I' h
  · have e2 : mt its ws = none := by
      cases em : mt its ws with
      | none => rfl
      | some bs => exact absurd (mt_len em) (by omega)
    rw [if_pos (by simp only [List.size_toArray, bne_iff_ne, ne_eq]; omega)]
    exact no (fun _ _ z => z) e2
theorem unpackS {prog : Program} {w : World} {A : Around} {E : Value → Shared → Prop} {s : Shared} {l : Addr} {items : Array Value} {i : Nat} {Q : List Value → Shared → Prop} (hl : s.heap.IsList l items) (hh : A.handled = none) (hn : i ≤ items.size) (hz : items.size ≤ sizeLine)
    (h : ∀ (h' : Heap) (tk : Nat), (∀ b o, s.heap.get? b = some o → h'.get? b = some o) → Q (items.toList.take i ++ [.ref h'.objs.size]) { s with heap := h'.push { cls := .type "list", data := .seq (items.toList.drop i).toArray }, toks := tk }) : wpAny (model prog w) A (unpackItems (.ref l) (i + 1) (some i)) Q E s := by
  have hl' := hl
  obtain ⟨o0, e0, _⟩ := hl'
  have hlt : l < s.heap.objs.size := Heap.lt_size e0
  have hne : l ≠ s.heap.objs.size := Nat.ne_of_lt hlt
  unfold unpackItems notIterableAtAll
  refine wpAny_bind (wpAny_bind (wpAny_specialOf hl.typeIs slot_list_iter.lookup (wpAny_pure ?_)))
  rw [if_neg (by simp)]
  refine wpAny_bind (wpAny_holding (wpAny_pyIter_list hl (wpAny_bind (wpAny_holding (PySem.W.kun_draw hne i 0 _ _ ⟨_, Heap.get?_push_size _ rfl, rfl, rfl⟩ (hl.push _) (by omega) fun h₁ hit hs => ?_)))))
  rw [Nat.zero_add] at hit
  have L1 : h₁.IsList l items := (hl.push _).extBut hs.extBut hne
  have hit' := hit
  have L1' := L1
  obtain ⟨oi, ei, _⟩ := hit'
  obtain ⟨ol, el, _⟩ := L1'
  rw [List.drop_zero]
  have f1 : (items.toList.take i).length = i := by rw [List.length_take, Array.length_toList]; omega
  rw [f1, if_neg (Nat.lt_irrefl i)]
  refine wpAny_bind (wpAny_holding (PySem.W.kun_collect (s := { s with heap := h₁ }) (T := "list_iterator") (.inr (.inr (.inl rfl))) (PySem.Walks.list (A := A.in1) hh s.heap.objs.size l hne items) (fun j u st => st.1.typeIs) (k := i) hn ⟨hit, L1⟩ (Heap.lt_size ei) (Heap.lt_size el) (fun h₂ tk hk => ?_) hz))
  have z0 : i + 1 - 1 - i = 0 := by omega
  rw [z0]
  show wpAny _ _ (if (items.toList.drop i).length < 0 then _ else _) _ _ _
  rw [if_neg (Nat.not_lt_zero _)]
  show wpAny _ _ (newList ((items.toList.drop i).take ((items.toList.drop i).length - 0)) >>= fun d => pure (items.toList.take i ++ [d] ++ (items.toList.drop i).drop ((items.toList.drop i).length - 0))) _ _ _
  rw [Nat.sub_zero, List.take_length, List.drop_length]
  refine wpAny_bind (wpAny_newList (wpAny_pure ?_) (by rw [List.length_drop, Array.length_toList]; omega))
  rw [List.append_nil]
  exact h h₂ tk fun b o e => hk b o (Nat.ne_of_lt (Heap.lt_size e)) (hs.extBut b o (Nat.ne_of_lt (Heap.lt_size e)) (Heap.get?_push_of_some _ e))
/-- a sequence with a star at its end -/
def sStar (its : List Itm) (i : Nat) (tb : TS) (tn : List Str → TS) : List Str → TS := fun ws D σ H => if its.length ≤ ws.length then (match mt its (ws.take its.length) with
  | some bs => ∀ r, H r = none → tb D (puts σ (bs ++ [(i, .ref r)])) (upd H r (.lst ((ws.drop its.length).map V.str)))
  | none => tn ws D σ H) else tn ws D σ H
theorem pm_star {its : List Itm} {i : Nat} {x : Str} {q' : Pos} {ps : List Pattern} {body : List Stmt} {cs : List MatchCase} {q : Pos} {tb : TS} {tn : List Str → TS} (hN : X.N.Nodup) (hc : X.calm = true) (ok : ItsOk X its ps) (hx : NmOk X i x) (hb : PSs X body tb) (hn : PM X cs tn)
    (h0 : ps.length ≠ 0) (hst : (ps ++ [Pattern.MatchStar (some x) q']).findIdx? (·.isStar) = some ps.length) (hw : ((ps ++ [Pattern.MatchStar (some x) q']).all fun p => p.isWildcard || (p.isStar && p.names.isEmpty)) = false) :
    PM X (⟨.MatchSequence (ps ++ [.MatchStar (some x) q']) q, none, body⟩ :: cs) (sStar its i tb tn) := by
  refine ⟨fun pins s σ H D p ws b I hp h => ?_⟩
  obtain ⟨us, rv, pl, hz⟩ := I.list hp
  have lu : ws.length = us.length := by rw [← List.length_map (f := V.str)]; exact rv.length
  have zs : sizeLine < 2 ^ 63 := by rw [sizeLine_eq]; decide
  rw [List.length_map] at hz
  have lp := its_len ok
  have lps : (ps ++ [Pattern.MatchStar (some x) q']).length = ps.length + 1 := by rw [List.length_append] <;> rfl
  have h : (if its.length ≤ ws.length then (match mt its (ws.take its.length) with | some bs => ∀ r, H r = none → tb D (puts σ (bs ++ [(i, .ref r)])) (upd H r (.lst ((ws.drop its.length).map V.str))) | none => tn ws D σ H) else tn ws D σ H) := h
  by_cases hl : its.length ≤ ws.length
  · rw [if_pos hl] at h
    refine wpAny_matchCases_cons (PySem.W.kun_seqL pl.isList (by simp only [List.size_toArray]; omega) hst hw (by rw [List.getElem?_append_right (Nat.le_refl _), Nat.sub_self] <;> rfl) (by rw [lps]; omega) (by rw [lps]; simp only [List.size_toArray]; omega) ?_)
    rw [lps]
    refine unpackS pl.isList (I.ok.hd hc) (by simp only [List.size_toArray]; omega) (by simp only [List.size_toArray]; omega) fun h' tk kp => ?_
    have tk1 : Vals ((ws.take its.length).map V.str) (us.take ps.length) := by rw [← lp, List.map_take]; exact rv.take _
    have dr1 : Vals ((ws.drop its.length).map V.str) (us.drop ps.length) := by rw [← lp, List.map_drop]; exact rv.drop _
    have I1 : Inv X pins σ H { s with heap := h', toks := tk } := I.kept kp
    show wpAny _ _ (matchEach (ps ++ [Pattern.MatchStar (some x) q']) X.env (us.take ps.length ++ [Value.ref h'.objs.size])) _ _ _
    refine each (X := X) (bt := [(x, Value.ref h'.objs.size)]) (fun R' s' z => PySem.W.kun_each (name := some x) (wpAny_matchEach_nil z)) its ok (by rw [List.length_take]; omega) tk1 fun tk2 r hr => ?_
    cases em : mt its (ws.take its.length) with
    | none =>
      rw [em] at hr h
      cases r with
      | some _ => exact hr.elim
      | none => exact hn.run pins _ σ H D p ws false (I.kept fun b o e => Heap.get?_push_of_some _ (kp b o e)) hp h
    | some bs =>
      rw [em] at hr h
      cases r with
      | none => exact hr.elim
      | some cs' =>
        have hf : H h'.objs.size = none := I1.hok.fresh (Nat.le_refl _)
        have I2 : Inv X pins σ (upd H h'.objs.size (.lst ((ws.drop its.length).map V.str))) { s with heap := h'.push { cls := .type "list", data := .seq (us.drop ps.length).toArray }, toks := tk2 } :=
          I1.laid (t' := tk2) (fun b o e => Heap.get?_push_of_some _ e) (Nat.le_refl _) ⟨by rw [List.length_map, List.length_drop]; omega, _, _, dr1, Heap.get?_push_size _ rfl⟩
        exact binds hN (hr.app (.cons (v := V.ref h'.objs.size) hx rfl .nil)) I2 fun s' I' => hb.run pins s' _ _ D I' (h _ hf)
  · rw [if_neg hl] at h
    refine wpAny_matchCases_cons (PySem.W.kun_fewL pl.isList (by simp only [List.size_toArray]; omega) hst (by rw [lps]; omega) (by rw [lps]; simp only [List.size_toArray]; omega) ?_)
    exact hn.run pins _ σ H D p ws false (I.kept fun _ _ z => z) hp h
/-- match e: .. of a list of texts -/
def sMatch (K : PySem.W.Frag) (te : TE) (tc : List Str → TS) : TS := fun D σ H => te σ H fun x H1 => ∃ p ws, x = .ref p ∧ SqL K H1 p (ws.map V.str) ∧ tc ws D σ H1
theorem ps_match {e : Expr} {cs : List MatchCase} {pos : Pos} {te : TE} {tc : List Str → TS} (he : PE X e te) (hm : PM X cs tc) : PS X (.Match e cs pos) (sMatch X.K te tc) := by
  refine ⟨fun pins s σ H D I h => wpAny_Match (thn (he.run pins s σ H _ I h) fun u s1 ⟨x, H1, I1, r1, p, ws, ex, hp, q⟩ => ?_)⟩
  subst ex
  obtain rfl : u = Value.ref p := r1
  exact hm.run pins s1 σ H1 D p ws true I1 hp q
end
end UX

set_option Elab.async false
set_option linter.all false
set_option maxRecDepth 100000
set_option maxHeartbeats 4000000
/-! C.m(self, ..): a def read off a class; cls(..): the call of a local name that holds a class -/
namespace UX
open PySem PySem.Spec PyProof.Rows L2 UL UV UW ClX
/-- m, read off the class at C, is the def at f -/
structure CFn (K : PySem.W.Frag) (C : Addr) (m : Str) (f : Addr) : Prop where
  at_ : PySem.W.findCls K (.ref C) (.type "type") m = some (.val (.ref f))
  rd : CRead K C (.type "type")
  kp : PySem.W.keepIn K (.ref f) = true
/-- e.m(..), e the class at C, m a def -/
def tBMeth (C : Addr) (sp : Sp) (ta : TE) (t : TA) : TE := fun σ H Q => ta σ H fun x H1 => x = .ref C ∧ t σ H1 fun vs H2 => sp vs H2 Q (fun _ _ _ => False)
/-- cls(..), cls the class at C -/
def tMakeL (i : Nat) (C : Addr) (sp : Sp) (t : TA) : TE := fun σ H Q => σ[i]? = some (some (.ref C)) ∧ t σ H fun vs H1 => ∀ x dx, H1 x = none → H1 dx = none → dx ≠ x → sp (.ref x :: vs) (upd (upd H1 dx (.own x)) x (.ins C dx [])) (fun v H2 => v = .non ∧ Q (.ref x) H2) (fun _ _ _ => False)
section
variable {X : Cx} {k i : Nat} {C f : Addr} {fd : FuncData} {ps : List Str} {sp : Sp} {o e : Expr} {es : List Expr} {m x : Str} {p pos apos : Pos} {ta : TE} {t : TA} {pl : Sem Bool}
theorem pe_bmeth (he : PE X o ta) (c : CFn X.K C m f) (F : FnOk X.prog X.w X.K X.mg X.base (fun _ _ _ _ _ _ => False) k f fd ps sp) (hr : Room k X.A) (hb : Binds X.K fd ps []) (ha : PA X (e :: es) t)
    (hst : starEach (e :: es) X.env = (false, eval e X.env) :: starEach es X.env := by rfl) (hpl : (backTo pos (starEach es X.env)).any (·.1) = false := by rfl)
    (ht : eval (.Call (.Attribute o m apos) (e :: es) [] pos) X.env = (do
      let ov ← eval o X.env
      standAt apos.atName
      let (f, first) ← holding [ov] (getMethod ov m pl)
      callWith pos f first (backTo pos (starEach (e :: es) X.env)) (backToKw pos (keywordEach [] X.env))) := by rfl) :
    PE X (.Call (.Attribute o m apos) (e :: es) [] pos) (tBMeth C sp ta t) := by
  refine ⟨fun pins s σ H Q I h => ?_⟩
  refine PySem.W.methodCall_KW (pl := pl) (thn (he.run pins s σ H _ I h) fun u s1 ⟨x, H1, I1, rx, ex, q⟩ => ?_) ht
  subst ex
  obtain rfl : u = Value.ref C := rx
  refine PySem.W.method_cls I1.kIn c.rd.ga (PySem.W.cls_value I1.kIn c.rd.rd c.at_ (handed_of (v := V.ref f) (u := Value.ref f) rfl) ?_)
  refine PySem.W.callWith_K (first := []) (h₀ := X.base) I.ok.mod.kin c.kp (thn (ha.run pos pins _ σ H1 _ (I1.tok _) q) fun us s2 ⟨vs, H2, I2, r, q2⟩ => ⟨I2.kIn, ?_⟩) hst hpl
  exact run_fn (dvs := []) F hr hb .nil (fun _ _ _ _ _ _ _ z => z.elim) I2 r (by rw [List.append_nil]; exact q2)
theorem pe_makeL (M : Mk X.K C f) (F : FnOk X.prog X.w X.K X.mg X.base (fun _ _ _ _ _ _ => False) k f fd ps sp) (hr : Room (k + 1) X.A) (hN : X.N[i]? = some x) (hv : Vis X.env.scope x) (hb : Binds X.K fd ps []) (ha : PA X (e :: es) t)
    (hdb : (x == ("__debug__" : Str)) = false := by decide) (hcd : (x == ("__classdict__" : Str)) = false := by decide)
    (he : starEach (e :: es) X.env = (false, eval e X.env) :: starEach es X.env := by rfl) (hpl : (backTo pos (starEach es X.env)).any (·.1) = false := by rfl) : PE X (.Call (.Name x p) (e :: es) [] pos) (tMakeL i C sp t) := by
  refine ⟨fun pins s σ H Q I h => ?_⟩
  obtain ⟨hs, ht⟩ := h
  refine wpAny_Call_Name_kw (thn ((pe_var (pos := p) hN hv hdb hcd).run pins s σ H (fun v H1 => v = .ref C ∧ H1 = H) I ⟨.ref C, hs, rfl, rfl⟩) fun u s1 ⟨v, H1, I1, r1, q1⟩ => ?_)
  obtain ⟨rfl, rfl⟩ := q1
  cases r1
  refine PySem.W.callWith_K (h₀ := X.base) I.ok.mod.kin M.kp (thn (ha.run pos pins s1 σ _ _ I1 ht) fun us s2 ⟨vs, H2, I2, r, q⟩ => ⟨I2.kIn, ?_⟩) he hpl
  have q' : ∀ x dx, H2 x = none → H2 dx = none → dx ≠ x → sp (.ref x :: (vs ++ [])) (upd (upd H2 dx (.own x)) x (.ins C dx [])) (fun v H3 => v = .non ∧ Q (.ref x) H3) (fun _ _ _ => False) := fun x dx h1 h2 h3 => by
    rw [List.append_nil]
    exact q x dx h1 h2 h3
  exact run_make (dvs := []) (E := fun _ _ _ => False) M F hr hb .nil (fun _ _ _ _ _ _ _ z => z.elim) I2 r q'
end
end UX

set_option Elab.async false
set_option linter.all false
set_option maxRecDepth 100000
set_option maxHeartbeats 4000000
/-! for n, x in enumerate(list, start=k) -/
namespace UX
open PySem PySem.Spec PyProof.Rows L2 UL UV UW
theorem draws_from {prog : Program} {w : World} {A : Around} {it : Addr} {fp : List Addr} {n : Nat} {P : Nat → Value → Prop} {St : Nat → Heap → Prop} (D : Draws prog w A it fp n P St) (k : Nat) : Draws prog w A it fp (n + k) (fun j v => k ≤ j ∧ P (j - k) v) (fun j h => k ≤ j ∧ St (j - k) h) where
  live := fun _ _ st => D.live _ _ st.2
  frame := fun _ _ _ st hk => ⟨st.1, D.frame _ _ _ st.2 hk⟩
  item := fun j s Q E hj st hQ => D.item (j - k) s Q E (by have := st.1; omega) st.2 fun x h' tk p s1 sb => hQ x h' tk ⟨st.1, p⟩ ⟨by have := st.1; omega, by have := st.1; rw [show j + 1 - k = j - k + 1 by omega]; exact s1⟩ sb
  done := fun s Q E st hE => D.done s Q E (by have := st.2; rw [Nat.add_sub_cancel] at this; exact this) hE
/-- the list at a as it stands at each turn, each item in a new pair, counted from k -/
def IteS (K : PySem.W.Frag) (k : Nat) (a : Addr) : L2.It :=
  ⟨fun i H => ∃ (xs : List V) (x : V), SqL K H a xs ∧ xs[i]? = some x, fun i H v H' => ∃ T x, v = .ref T ∧ H T = none ∧ H' = upd H T (.tup [.int (i + k : Nat), x]) ∧ ∀ xs, SqL K H a xs → xs[i]? = some x, fun i H => ∃ xs : List V, SqL K H a xs ∧ xs.length ≤ i⟩
theorem turn_enumS {P : Program} {w : World} {K : PySem.W.Frag} {elts : List Expr} {kk : Nat} {tpos : Pos} (k : Nat) (a e it : Addr) :
    Turn P w K (.Tuple elts kk tpos) (IteS K k a) [e, it] e (fun i h => (∃ old, IsEnum h e it ((i + k : Nat) : Int) old) ∧ h.IsListIter it a i ∧ e ≠ it ∧ a ≠ it ∧ a ≠ e) where
  mem := by simp
  obj := fun i h st b hb => by
    obtain ⟨⟨old, he⟩, ⟨o, ho, hc, hd⟩, _⟩ := st
    have e' : b = e ∨ b = it := by simpa using hb
    rcases e' with z | z
    · rw [z]; exact ⟨_, he, fun v q => nomatch q⟩
    · rw [z]; exact ⟨o, ho, fun v q => by rw [hd] at q; cases q⟩
  keep := fun i h h' st kp => let ⟨⟨old, he⟩, hi, hne⟩ := st; ⟨⟨old, kp e (by simp) _ he⟩, hi.at fun o q => kp it (by simp) o q, hne⟩
  item := by
    intro X hP hw hK hc i pins s σ H E I hf st hg
    subst hP hw hK
    obtain ⟨⟨old, he⟩, hit, hne, hai, hae⟩ := st
    obtain ⟨xs, x, hq, hx⟩ := hg
    obtain ⟨its, rv, p, hz⟩ := I.list hq
    obtain ⟨u, hu, ru⟩ := rv.get hx
    have hel : e < s.heap.objs.size := Heap.lt_size he
    have hil : it < s.heap.objs.size := by obtain ⟨_, q, _⟩ := hit; exact Heap.lt_size q
    have hix : i < its.toArray.size := by have := (List.getElem?_eq_some_iff.mp hu).1; simpa using this
    have D := draws_from (Draws.list (prog := X.prog) (w := X.w) (A := X.A.in1) (I.ok.hd hc) it a hai its.toArray) k
    refine wpAny_pyNext_enum_itemD (i := i + k) D he ⟨by omega, by rw [Nat.add_sub_cancel]; exact ⟨hit, p.isList⟩⟩ (by omega) hne (by simp only [List.mem_cons, List.not_mem_nil, or_false]; exact fun z => z.elim hne fun z => hae z.symm) fun x' h' tk px ho hst hT hsz hk => ?_
    have hxu : x' = u := by
      have z := px.2
      rw [Nat.add_sub_cancel] at z
      have z2 : its[i]? = some x' := by simpa using z
      exact Option.some.inj (z2.symm.trans hu)
    subst hxu
    have hit' : h'.IsListIter it a (i + 1) := by
      have z := hst.2.1
      rw [show i + k + 1 - k = i + 1 by omega] at z
      exact z
    refine ⟨_, rfl, wpAny_letOwnedTupleGo_enum (s := { s with heap := h', toks := tk + 1 }) ho fun h'' he' sb => ?_⟩
    have hT2 : h''.get? s.heap.objs.size = some { cls := .type "tuple", data := .seq #[.int (i + k : Nat) tk, x'] } := (sb.2 _ (Nat.ne_of_gt hel)).trans hT
    have new : ObjOk X.prog X.w (upd H s.heap.objs.size (.tup [.int (i + k : Nat), x])) h'' s.heap.objs.size (.tup [.int (i + k : Nat), x]) :=
      ⟨by show 2 ≤ sizeLine; decide, [.int (i + k : Nat) tk, x'], .cons ⟨_, rfl⟩ (.cons ru .nil), ⟨_, hT2, rfl, _, rfl⟩⟩
    have I1 : Inv X pins σ (upd H s.heap.objs.size (.tup [.int (i + k : Nat), x])) { s with heap := h'', toks := tk + 1 } :=
      I.turnedNew (ch := [e, it]) (fun b ob hb q => (sb.2 b (fun z => hb (by simp [z]))).trans (hk b ob (fun z => hb (by simp [z])) (fun z => hb (by simp [z])) q)) hf (Nat.le_refl _) new
    refine ⟨.ref s.heap.objs.size, _, I1, rfl, ⟨_, x, rfl, I.hok.fresh (Nat.le_refl _), rfl, fun ys hy => by rw [I.list_inj hy hq]; exact hx⟩, ⟨⟨x', ?_⟩, hit'.at fun o q => (sb.2 it (Ne.symm hne)).trans q, hne, hai, hae⟩, fun b hb => ?_⟩
    · have e1 : ((i + 1 + k : Nat) : Int) = ((i + k : Nat) : Int) + 1 := by omega
      rw [e1]; exact he'
    · have hb' : b < s.heap.objs.size := by
        have e' : b = e ∨ b = it := by simpa using hb
        rcases e' with z | z
        · rw [z]; exact hel
        · rw [z]; exact hil
      rw [upd_ne (Nat.ne_of_lt hb')]
      exact (hf b hb).1
  done := by
    intro X hP hw hK hc i pins s σ H E I hf st hg
    subst hP hw hK
    obtain ⟨⟨old, he⟩, hit, hne, hai, hae⟩ := st
    obtain ⟨xs, hq, hx⟩ := hg
    obtain ⟨its, rv, p, hz⟩ := I.list hq
    obtain ⟨f0, f1, f2, f3, f4, f5⟩ := hf it (by simp)
    have hl := rv.length
    have D : Draws X.prog X.w X.A.in1 it [it, a] (i + k) (fun _ _ => False) (fun j h => j = i + k ∧ h.IsListIter it a i ∧ h.IsList a its.toArray) := {
      live := fun _ _ st => let ⟨o, ho, _⟩ := st.2.1; ⟨o, ho⟩
      frame := fun _ _ _ st kp => ⟨st.1, st.2.1.at fun o q => kp it (by simp) o q, st.2.2.at fun o q => kp a (by simp) o q⟩
      item := fun j s Q E hj st hQ => absurd st.1 (Nat.ne_of_lt hj)
      done := fun s Q E st hE => wpAny_nextOf_list_end (I.ok.hd hc) st.2.1 st.2.2 (by simp; omega) hE }
    exact wpAny_pyNext_enum_endD D he ⟨rfl, hit, p.isList⟩ fun h' eb => ⟨rfl, I.turned (t' := s.toks) (fun b o hb q => eb b o hb q) f0 f1 f3 f4 f5⟩
  self := fun A i s Q E st h => let ⟨⟨_, he⟩, _⟩ := st; wpAny_pyIter_enum he h
theorem cw_typeK {M : Model} {A : Around} {E : Value → Shared → Prop} {s : Shared} {pos : Pos} {T : String} {args : List (Bool × Sem Value)} {kws : List (Option Str × Sem Value)} {Q : Value → Shared → Prop} (hp : (args.any (·.1) || kws.any (·.1.isNone)) = false)
    (h : wpAny M A (evalArgs (.type T) true args kws) (fun a s₁ => wpAny M A (call (.type T) ([] ++ a.pos) a.kw) Q E s₁) E s) : wpAny M A (callWith pos (.type T) [] args kws) Q E s := by
  unfold callWith
  refine wpAny_bind (wpAny_holding (wpAny_mono h (fun a s₁ h₁ => wpAny_bind (wpAny_standAt ?_)) fun _ _ z => z))
  simp only [hp]
  exact wpAny_bind (wpAny_pure (wpAny_bind (wpAny_mono h₁ (fun r s₂ hr => wpAny_bind (wpAny_holding (wpAny_point (wpAny_pure hr)))) fun _ _ z => z)))
def iEnumS (K : PySem.W.Frag) (k : Nat) (ta : TA) : TI := fun σ H R => ta σ H fun vs H1 => ∃ a xs, vs = [.ref a] ∧ SqL K H1 a xs ∧ R (IteS K k a) H1
theorem pi_enumS {X : Cx} {e : Expr} {ta : TA} {p pos tpos cpos kpos : Pos} {elts : List Expr} {kk ck k : Nat} (hk : (k : Int) < 2 ^ 63) (hg : Gl X "enumerate") (hm : X.mg "enumerate" = none) (ha : PA X [e] ta)
    (hs : starEach [e] X.env = [(false, eval e X.env)] := by rfl) : PI X (.Tuple elts kk tpos) (.Call (.Name "enumerate" p) [e] [⟨some "start", .Constant (.int k) ck cpos, kpos⟩] pos) (iEnumS X.K k ta) := by
  refine ⟨fun pins s σ H R I h => ?_⟩
  refine wpAny_Call_Name_kw (ld_blt I hg hm boot_enumerate ?_)
  refine cw_typeK (by rw [hs]; rfl) (evalArgs_kw2 rfl (thn (ha.run pos pins s σ H _ I h) fun us s1 ⟨vs, H1, I1, r1, q1⟩ => ?_) hs)
  refine thn ((pk_cons (nm := some "start") (kpos := kpos) (pe_int (X := X) (i := (k : Int)) (j := ck) (pos := cpos)) pk_nil).run pos pins s1 σ H1 (fun zs H2 => zs = [.int k] ∧ H2 = H1) I1 (show _ ∧ _ from ⟨rfl, rfl⟩)) fun ws s2 ⟨zs, H2, I2, rz, e1, e2⟩ => ?_
  subst e1 e2
  obtain ⟨a, xs, ev, hq, q⟩ := q1
  subst ev
  obtain rfl := Vals.ref1 r1
  cases rz with
  | cons rk rn =>
    cases rn
    obtain ⟨tk, rfl⟩ := rk
    obtain ⟨its, rv, pl, hz⟩ := I2.list hq
    refine enum_begins_start (begins_list a its.toArray) pl.isList (by omega) hk fun h' he hit hsz hkp => wpAny_pyIter_enum he ?_
    have hlt : a < s2.heap.objs.size := by obtain ⟨o, z, _⟩ := pl.isList; exact Heap.lt_size z
    have I3 : Inv X pins σ H2 { s2 with heap := h' } := I2.kept (t' := s2.toks) hkp
    refine ⟨s2.heap.objs.size + 1, [s2.heap.objs.size + 1, s2.heap.objs.size], _, _, H2, rfl, I3, turn_enumS k a (s2.heap.objs.size + 1) s2.heap.objs.size, ⟨⟨.none, by rw [Nat.zero_add]; exact he⟩, ⟨_, hit, rfl, rfl⟩, Nat.succ_ne_self _, Nat.ne_of_lt hlt, Nat.ne_of_lt (Nat.lt_succ_of_lt hlt)⟩, fun b hb => ?_, q⟩
    have hle : s2.heap.objs.size ≤ b := by
      have e' : b = s2.heap.objs.size + 1 ∨ b = s2.heap.objs.size := by simpa using hb
      rcases e' with z | z
      · rw [z]; exact Nat.le_add_right _ _
      · rw [z]; exact Nat.le_refl _
    exact I2.fpOk hle (I2.hok.fresh hle)
theorem walk_enumS {K : PySem.W.Frag} {k : Nat} {a : Addr} {xs : List V} : L2.Walk (IteS K k a) xs.length (fun H => SqL K H a xs) (L2.YPair (fun i => some (.int (i + k : Nat))) (fun i => xs[i]?)) := by
  refine ⟨fun i _ hi q => ⟨xs, xs[i], q, by simp [hi]⟩, fun _ q => ⟨xs, q, Nat.le_refl _⟩, fun i H v H' _ q y => ?_⟩
  obtain ⟨T, x, h1, h2, h3, h4⟩ := y
  exact ⟨T, .int (i + k : Nat), x, h1, h2, h3, rfl, h4 xs q⟩
end UX

set_option Elab.async false
set_option linter.all false
set_option maxRecDepth 100000
set_option maxHeartbeats 4000000
/-! a base's def called by its class's name; a method of one of several classes; a classmethod by its promise -/
namespace UX
open PySem PySem.Spec PyProof.Rows L2 UL UV UW ClX
/-- C.m(self, ..) -/
structure Bn (P : Program) (w : World) (K : PySem.W.Frag) (mg : Str → Option Value) (base : Heap) (k : Nat) (C : Addr) (x m : Str) (sp : Sp) : Prop where
  ex : ∃ (f : Addr) (fd : FuncData) (ps : List Str), FnOk P w K mg base CX0 k f fd ps sp ∧ CFn K C m f ∧ Binds K fd ps [] ∧ mg x = some (.ref C)
/-- C.m(..), m a classmethod -/
structure CMn (P : Program) (w : World) (K : PySem.W.Frag) (mg : Str → Option Value) (base : Heap) (k : Nat) (C : Addr) (x m : Str) (sp : Sp) : Prop where
  ex : ∃ (q g : Addr) (mc : Value), CRead K C mc ∧ CMet K C mc m q g ∧ FnR P w K mg base CX0 k g sp ∧ mg x = some (.ref C)
def tBC (sp : Sp) (t : TA) : TE := fun σ H Q => t σ H fun vs H2 => sp vs H2 Q (fun _ _ _ => False)
/-- the i-th slot holds an object of one of the classes -/
def tMethA (i : Nat) (m : Str) (S : Addr → Sp → Prop) : TE := fun σ H Q => ∃ C sp, S C sp ∧ tMeth C m sp [] (fun _ _ _ => False) (tVar i) tNil σ H Q
section
variable {X : Cx} {k j i : Nat} {C : Addr} {sp : Sp} {e : Expr} {es : List Expr} {m x : Str} {p pos apos : Pos} {t : TA} {pl : Sem Bool}
theorem pe_b (d : Bn X.prog X.w X.K X.mg X.base k C x m sp) (hr : Room j X.A) (hk : k ≤ j) (hg : Gl X x) (ha : PA X (e :: es) t) (hdb : (x == ("__debug__" : Str)) = false := by decide)
    (hst : starEach (e :: es) X.env = (false, eval e X.env) :: starEach es X.env := by rfl) (hpl : (backTo pos (starEach es X.env)).any (·.1) = false := by rfl)
    (ht : eval (.Call (.Attribute (.Name x p) m apos) (e :: es) [] pos) X.env = (do
      let ov ← eval (.Name x p) X.env
      standAt apos.atName
      let (f, first) ← holding [ov] (getMethod ov m pl)
      callWith pos f first (backTo pos (starEach (e :: es) X.env)) (backToKw pos (keywordEach [] X.env))) := by rfl) : PE X (.Call (.Attribute (.Name x p) m apos) (e :: es) [] pos) (tBC sp t) := by
  obtain ⟨f, fd, ps, F, c, hb, hm⟩ := d.ex
  have g : PE X (.Name x p) (tC (.ref C)) := C8.pe_gc (v := .ref C) hg ⟨_, hm, rfl⟩ hdb
  refine ⟨fun pins s σ H Q I h => ?_⟩
  exact (pe_bmeth (pl := pl) g c F (hr.mono hk) hb ha hst hpl ht).run pins s σ H Q I ⟨rfl, h⟩
theorem pe_cm (d : CMn X.prog X.w X.K X.mg X.base k C x m sp) (hr : Room j X.A) (hk : k ≤ j) (hg : Gl X x) (ha : PA X (e :: es) t) (hdb : (x == ("__debug__" : Str)) = false := by decide)
    (hst : starEach (e :: es) X.env = (false, eval e X.env) :: starEach es X.env := by rfl) (hpl : (backTo pos (starEach es X.env)).any (·.1) = false := by rfl)
    (ht : eval (.Call (.Attribute (.Name x p) m apos) (e :: es) [] pos) X.env = (do
      let ov ← eval (.Name x p) X.env
      standAt apos.atName
      let (f, first) ← holding [ov] (getMethod ov m pl)
      callWith pos f first (backTo pos (starEach (e :: es) X.env)) (backToKw pos (keywordEach [] X.env))) := by rfl) : PE X (.Call (.Attribute (.Name x p) m apos) (e :: es) [] pos) (tBC (fun vs H Q E => sp (.ref C :: vs) H Q E) t) := by
  obtain ⟨q, g, mc, r, c, F, hm⟩ := d.ex
  have gl : PE X (.Name x p) (tC (.ref C)) := C8.pe_gc (v := .ref C) hg ⟨_, hm, rfl⟩ hdb
  refine ⟨fun pins s σ H Q I h => ?_⟩
  exact (pe_cmeth (pl := pl) (E := fun _ _ _ => False) gl r c F (hr.mono hk) (fun _ _ _ _ _ _ _ z => z.elim) ha hst hpl ht).run pins s σ H Q I ⟨rfl, h⟩
theorem pe_mA {S : Addr → Sp → Prop} (A : ∀ C sp, S C sp → Mn X.prog X.w X.K X.mg X.base CX0 k C m sp ∧ Cls X.K C) (hr : Room j X.A) (hk : k ≤ j) (he : PE X (.Name x p) (tVar i))
    (ht : eval (.Call (.Attribute (.Name x p) m apos) [] [] pos) X.env = (do
      let ov ← eval (.Name x p) X.env
      standAt apos.atName
      let (f, first) ← holding [ov] (getMethod ov m pl)
      callWith pos f first (backTo pos (starEach [] X.env)) (backToKw pos (keywordEach [] X.env))) := by rfl) : PE X (.Call (.Attribute (.Name x p) m apos) [] [] pos) (tMethA i m S) := by
  refine ⟨fun pins s σ H Q I h => ?_⟩
  obtain ⟨C, sp, hS, h⟩ := h
  obtain ⟨d, c⟩ := A C sp hS
  exact (pe_m' (pl := pl) (E := fun _ _ _ => False) d c hr hk (fun _ _ _ _ _ _ _ z => z.elim) he ht).run pins s σ H Q I h
theorem pe_makeLK {x0 : Str} (d : Kn X.prog X.w X.K X.mg X.base CX0 k C x0 sp) (hr : Room j X.A) (hk : k + 1 ≤ j) (hN : X.N[i]? = some x) (hv : Vis X.env.scope x) (ha : PA X (e :: es) t) (hdb : (x == ("__debug__" : Str)) = false := by decide) (hcd : (x == ("__classdict__" : Str)) = false := by decide)
    (he : starEach (e :: es) X.env = (false, eval e X.env) :: starEach es X.env := by rfl) (hpl : (backTo pos (starEach es X.env)).any (·.1) = false := by rfl) : PE X (.Call (.Name x p) (e :: es) [] pos) (tMakeL i C sp t) := by
  obtain ⟨f, fd, ps, F, M, hb, hm⟩ := d.ex
  exact pe_makeL M F (hr.mono hk) hN hv hb ha hdb hcd he hpl
theorem pm_starL {its : List Itm} {i : Nat} {x : Str} {q' q : Pos} {qs : List Pattern} {body : List Stmt} {cs : List MatchCase} {tb : TS} {tn : List Str → TS} (hN : X.N.Nodup) (hc : X.calm = true) (hq : qs = qs.dropLast ++ [Pattern.MatchStar (some x) q']) (ok : ItsOk X its qs.dropLast) (hx : NmOk X i x)
    (hb : PSs X body tb) (hn : PM X cs tn) (h0 : qs.dropLast.length ≠ 0) (hst : (qs.dropLast ++ [Pattern.MatchStar (some x) q']).findIdx? (·.isStar) = some qs.dropLast.length)
    (hw : ((qs.dropLast ++ [Pattern.MatchStar (some x) q']).all fun p => p.isWildcard || (p.isStar && p.names.isEmpty)) = false) : PM X (⟨.MatchSequence qs q, none, body⟩ :: cs) (sStar its i tb tn) := by
  rw [hq]
  exact pm_star hN hc ok hx hb hn h0 hst hw
end
section
variable {X : Cx}
/-- a tuple as tuple(..) lays it: no dict, no slots -/
def FT (H : Hp) (a : Addr) (xs : List V) : Prop := ∃ o, H a = some (.frz o (.tup xs)) ∧ o.dict = none ∧ o.slots = #[]
def cTupG (K : PySem.W.Frag) : List V → Hp → VK → Prop := fun xs H Q => ∃ p ys, xs = [.ref p] ∧ ((SqL K H p ys ∧ ∀ l o, H l = none → o.dict = none → o.slots = #[] → Q (.ref l) (upd H l (.frz o (.tup ys)))) ∨ (SqT K H p ys ∧ Q (.ref p) H))
theorem call_tupG : CallR X (.type "tuple") (cTupG X.K) := by
  intro pins s σ H xs us Q I r h
  obtain ⟨p, ys, rfl, h⟩ := h
  rcases h with ⟨hq, q⟩ | ⟨hq, q⟩
  · obtain rfl := Vals.ref1 r
    obtain ⟨its, r', pl, hz⟩ := I.list hq
    have hlen := r'.length
    refine call_tuple_list pl.isList (fun h' kp => ?_) (by simp only [List.size_toArray]; omega)
    have I1 : Inv X pins σ H { s with heap := h' } := I.kept (t' := s.toks) kp
    exact ⟨.ref h'.objs.size, _, I1.laid (t' := s.toks) (fun b o e => Heap.get?_push_of_some _ e) (Nat.le_refl _) (show ObjOk X.prog X.w _ _ _ (.frz { cls := .type "tuple", data := .seq its.toArray } (.tup ys)) from ⟨Heap.get?_push_size _ rfl, hz, its, r', IsTup.new _ _⟩), rfl, q _ _ (I1.hok.fresh (Nat.le_refl _)) rfl rfl⟩
  · exact call_tupA pins s σ H _ us Q I r ⟨p, ys, rfl, .inr ⟨hq, q⟩⟩
def rExtendT : V → List V → Hp → VK → Prop := fun x vs H Q => ∃ l b xs zs, x = .ref l ∧ vs = [.ref b] ∧ H l = some (.lst xs) ∧ FT H b zs ∧ xs.length + zs.length ≤ sizeLine ∧ Q .non (upd H l (.lst (xs ++ zs)))
theorem mt_extendT : MtM X "list.extend" rExtendT := by
  intro pins s σ H x vs v us Q I rx rv h
  obtain ⟨l, b, xs, zs, rfl, rfl, hH, ⟨o, hB, hd, hs⟩, hz, q⟩ := h
  cases rx
  obtain ⟨u, rfl, ru⟩ := rv.one
  cases ru
  obtain ⟨z, its, n, r, hl, e⟩ := I.lstM hH
  obtain ⟨e1, hl2, its2, r2, ht⟩ := I.hok b _ hB
  obtain ⟨o2, e2, hc2, n2, hd2⟩ := ht
  cases e1.symm.trans e2
  have r2l := r2.length
  obtain ⟨oc, od, dt, sl⟩ := o
  simp only at hd hs hc2 hd2
  subst hd hs hc2 hd2
  have hsz : its.toArray.size + its2.toArray.size ≤ sizeLine := by rw [List.size_toArray, List.size_toArray]; omega
  have hlong : ¬ (!its.toArray.isEmpty && Builtin.List.listTooLong (its.toArray.size + its2.toArray.size)) = true := by
    rw [notLongL hsz, Bool.and_false]
    exact Bool.false_ne_true
  refine call_meets F.slot_list_extend ⟨_, e, rfl⟩ F.entry_list_extend (F.args_list_extend_2 _ _) (AutoSeq1.list_extend_list_tuple_0 l its.toArray n b its2.toArray n2 hlong (by rw [List.size_toArray]; omega) (by omega)) ⟨e, e1, ?_⟩
  refine ⟨.non, _, I.lset (its' := its ++ its2) hH e (by simp) (r.append r2) (by rw [List.length_append]; omega), rfl, q⟩
end
end UX

set_option Elab.async false
set_option linter.all false
set_option maxRecDepth 100000
set_option maxHeartbeats 4000000
/-! k01: what the top leaves, by names -/
namespace U
open PySem L2 UL
def top (i : Nat) : Stmt := PySem.Challenge.pw_untoldrule_k12_plans_are_joined.main.body.getD i (.Pass ⟨0, 0, 0, 0⟩)
local macro_rules | `(tactic| walk_at "rd") => `(tactic| simp only [tSeq, tAsg, tOp, tCB, tCons, tNil, tVar, tC, rI, rI0, gName, tRet, L2.start, List.length_cons, List.length_nil, List.map_cons, List.map_nil, List.replicate, List.cons_append, List.nil_append, List.getElem?_cons_zero, List.getElem?_cons_succ, List.set_cons_zero, List.set_cons_succ, Option.some.injEq, exists_eq_left', exists_eq_left, V.int.injEq, V.bl.injEq, V.str.injEq, V.ref.injEq, V.ty.injEq, List.cons.injEq, and_true, true_and, reduceCtorEq, false_and, exists_false, or_false, false_or, exists_and_left, exists_and_right])
/-- names that the module does not take -/
structure Nm (mg : Str → Option Value) : Prop where
  n_int : mg "int" = none
  n_bool : mg "bool" = none
  n_str : mg "str" = none
  n_list : mg "list" = none
  n_tuple : mg "tuple" = none
  n_set : mg "set" = none
  n_len : mg "len" = none
  n_abs : mg "abs" = none
  n_all : mg "all" = none
  n_iter : mg "iter" = none
  n_range : mg "range" = none
  n_zip : mg "zip" = none
  n_isinstance : mg "isinstance" = none
/-- list or tuple -/
def ItA : Kd → PySem.W.Frag → Addr → It
  | .l, K, a => Itl K a
  | .t, K, a => Itt K a
def iAny (K : PySem.W.Frag) (te : TE) : TI := fun σ H R => iList K te σ H R ∨ iTup K te σ H R
theorem pi_any {X : Cx} {tg l : Expr} {tl : TE} (hl : PE X l tl) : PI X tg l (iAny X.K tl) :=
  ⟨fun pins s σ H R I h => h.elim (fun z => (pi_list hl).run pins s σ H R I z) fun z => (pi_tup hl).run pins s σ H R I z⟩
def SqA (K : PySem.W.Frag) (H : Hp) (a : Addr) (xs : List V) : Prop := ∃ k : Kd, k.Sq K H a xs
theorem iAny_var {K : PySem.W.Frag} {i : Nat} {σ : L2.St} {H : Hp} {R : It → Hp → Prop} : iAny K (tVar i) σ H R ↔ ∃ v a k, σ[i]? = some (some v) ∧ v = .ref a ∧ (∃ xs, Kd.Sq k K H a xs) ∧ R (ItA k K a) H := by
  constructor
  · rintro (⟨v, h, a, e, x, r⟩ | ⟨v, h, a, e, x, r⟩)
    · exact ⟨v, a, .l, h, e, x, r⟩
    · exact ⟨v, a, .t, h, e, x, r⟩
  · rintro ⟨v, a, k, h, e, x, r⟩
    cases k
    · exact .inl ⟨v, h, a, e, x, r⟩
    · exact .inr ⟨v, h, a, e, x, r⟩
theorem walk_any {K : PySem.W.Frag} {a : Addr} {xs : List V} : ∀ k : Kd, L2.Walk (ItA k K a) xs.length (fun H => k.Sq K H a xs) (L2.YAt xs)
  | .l => L2.walk_list
  | .t => L2.walk_tup
theorem Kd.same {k : Kd} {K : PySem.W.Frag} {a : Addr} {H H' : Hp} {xs : List V} (s : Same H H') (h : k.Sq K H a xs) : k.Sq K H' a xs := match k, h with
  | .l, h => UL.Same.sqL s h
  | .t, h => UL.Same.sqT s h
theorem Kd.len {k : Kd} {K : PySem.W.Frag} {a : Addr} {H : Hp} {Q : VK} {xs : List V} (h : k.Sq K H a xs) (q : Q (.int xs.length) H) : cLen K [.ref a] H Q := match k, h with
  | .l, h => lenL h q
  | .t, h => lenT h q
theorem Kd.or {k : Kd} {K : PySem.W.Frag} {a : Addr} {H : Hp} {xs : List V} (h : k.Sq K H a xs) : SqL K H a xs ∨ SqT K H a xs := match k, h with
  | .l, h => .inl h
  | .t, h => .inr h
theorem fj_any {K : PySem.W.Frag} {a : Addr} {xs : List V} {g : TG} {tb : TS} {D : Ends} {σ : L2.St} {H : Hp} (k : Kd) (Pv : Nat → L2.St → Hp → Prop) (h0 : Pv 0 σ H) (hl : ∀ i σ H, i ≤ xs.length → Pv i σ H → k.Sq K H a xs)
    (hs : ∀ i x σ H, xs[i]? = some x → Pv i σ H → g x σ H fun σ2 H2 => tb { D with nx := Pv (i + 1), ct := Pv (i + 1), bk := D.nx } σ2 H2) (hd : ∀ σ H, Pv xs.length σ H → D.nx σ H) : FJ (ItA k K a) g tb D σ H := match k, hl with
  | .l, hl => FJ.list Pv h0 hl hs hd
  | .t, hl => FJ.tup Pv h0 hl hs hd
/-- what isinstance asks of an own class -/
structure CI (K : PySem.W.Frag) (C : Addr) : Prop where
  ha : PySem.W.findIn K (.ref C) "__class__" = some (some (.builtin "object.__class__"))
  hn : PySem.W.specialIn K (.builtin "object.__class__") "__get__" = some (some (.builtin "getset_descriptor.__get__"))
  ht : PySem.W.takesIn K (.builtin "object.__class__") = some true
  hm : PySem.W.mroIn K C (.type "object") = some true
theorem CI.ty {K : PySem.W.Frag} {C a dx : Addr} {fs : List (Str × V)} {H : Hp} (i : CI K C) (c : Cls K C) (e : H a = some (.ins C dx fs)) : TyX K H (.ref a) (.ref C) := .base (.ins e c i.ha i.hn i.ht i.hm)
end U

set_option Elab.async false
set_option linter.all false
set_option maxRecDepth 100000
set_option maxHeartbeats 4000000
set_option pp.deepTerms true
set_option pp.maxSteps 400000
namespace U
open PySem PySem.Spec PyProof.Rows L2 UL UX
local macro_rules | `(tactic| walk_at "rd") => `(tactic| simp only [sMatch, tJs, tFmt, tBC, tMethA, tMakeL, iEnumS, tSeq, tAsg, tOp, tCB, tCons, tNil, tVar, tC, tB, tTest, tNot, tIfS, tNext, tYes, tUn, rU, tM0, tGFrom, tGThen, tG0, tYfLst, gcxK, tSubO, tProp, tListG, tMethG, tBMF, tFld, sFld, tMeth, tMake, tSl, tNoPart, tPart, tM1, gTup, gCons, gNil, tDrop, tFor_eq, tLc_eq, tLc2_eq, iRng1_eq, StX.tStar, iList, iTup, iStr, iAny_var, iZipB, tLenSetS, wipe, tVar, tAndV, tOrV, tNotV, tOr, tAnd, tLst, tTup, tBM, tBM0, tChain, tCall, cxK, noxK, addII, addSS, mulII, eqII, neII, neSS, cIntI, cAbsI, rI, rI0, rLt, rLe, rGt_, rGe_, rSub_, rMod, rPow, rDivW, rNeg, gName, tRet, L2.start, List.length_cons, List.length_nil, List.map_cons, List.map_nil, List.replicate, List.cons_append, List.nil_append, List.getElem?_cons_zero, List.getElem?_cons_succ, List.set_cons_zero, List.set_cons_succ, Option.some.injEq, exists_eq_left', exists_eq_left, V.int.injEq, V.bl.injEq, V.str.injEq, V.ref.injEq, V.ty.injEq, List.cons.injEq, and_true, true_and, reduceCtorEq, false_and, exists_false, or_false, false_or, exists_and_left, exists_and_right, List.append_nil, forall_eq, decide_eq_true_eq, Bool.not_eq_true, Nat.reduceAdd, Nat.reduceSub, List.replicate_zero, List.replicate_succ, Nat.zero_le, ite_true, ite_false, if_true, if_false])
section
variable {P : Program} {w : World} {K : PySem.W.Frag} {mg : Str → Option Value} {base : Heap}

abbrev abc : Str := "abcdefghijklmnopqrstuvwxyz"
def nmB (z : Str) : Bool := decide (1 ≤ z.length) && decide (z.length ≤ 8) && z.cps.toList.all fun c => decide (c ∈ abc.cps.toList)
theorem len_app (x y : Str) : (x ++ y).length = x.length + y.length := by show (x.cps ++ y.cps).size = _; simp; rfl
theorem nil_app (x : Str) : Str.empty ++ x = x := by
  show (⟨#[] ++ x.cps⟩ : Str) = x
  simp
def wrT (t f : Str) (xs : List Str) : List Str := (("write" : Str) :: t :: ("by" : Str) :: f :: (if xs = [] then [] else ("of" : Str) :: xs))
theorem sum_le {m : Nat} : ∀ {l : List Str}, (∀ x ∈ l, x.length ≤ m) → (l.map (·.length)).sum ≤ l.length * m
  | [], _ => by simp
  | x :: r, h => by
    have h1 := h x List.mem_cons_self
    have h2 := sum_le (l := r) fun y hy => h y (List.mem_cons_of_mem _ hy)
    rw [List.map_cons, List.sum_cons, List.length_cons, Nat.add_mul]
    omega
theorem FT.sq {H : Hp} {a : Addr} {xs : List V} (h : FT H a xs) : SqT K H a xs := let ⟨o, e, _⟩ := h; .inl (.inr ⟨o, e⟩)
theorem FT.same {H H' : Hp} {a : Addr} {xs : List V} (s : Same H H') (h : FT H a xs) : FT H' a xs := let ⟨o, e, d⟩ := h; ⟨o, s _ _ e, d⟩
theorem FT.but {H H' : Hp} {a p : Addr} {xs : List V} (s : But p H H') (n : a ≠ p) (h : FT H a xs) : FT H' a xs := let ⟨o, e, d⟩ := h; ⟨o, s _ _ e n, d⟩
theorem FT.ne {H : Hp} {a p : Addr} {xs : List V} (h : FT H a xs) (hp : H p = none) : a ≠ p := let ⟨_, e, _⟩ := h; ne_of_none e hp
theorem l_write : ("write" : Str).length = 5 := by decide +kernel
theorem l_by : ("by" : Str).length = 2 := by decide +kernel
theorem l_of : ("of" : Str).length = 2 := by decide +kernel
theorem l_sp : (" " : Str).length = 1 := by decide +kernel
theorem wr_len {t f : Str} {xs : List Str} (ht : t.length ≤ 1000) (hf : f.length ≤ 1000) (hx : ∀ x ∈ xs, x.length ≤ 1000) : ∀ x ∈ wrT t f xs, x.length ≤ 1000 := by
  intro x h
  unfold wrT at h
  rcases List.mem_cons.mp h with rfl | h
  · rw [l_write]; omega
  rcases List.mem_cons.mp h with rfl | h
  · exact ht
  rcases List.mem_cons.mp h with rfl | h
  · rw [l_by]; omega
  rcases List.mem_cons.mp h with rfl | h
  · exact hf
  by_cases e : xs = []
  · rw [if_pos e] at h; cases h
  · rw [if_neg e] at h
    rcases List.mem_cons.mp h with rfl | h
    · rw [l_of]; omega
    · exact hx x h
theorem wr_many {t f : Str} {xs : List Str} : (wrT t f xs).length ≤ xs.length + 5 := by
  unfold wrT
  by_cases e : xs = []
  · rw [if_pos e]; simp
  · rw [if_neg e]; simp
end
end U

set_option Elab.async false
set_option linter.all false
set_option maxRecDepth 100000
set_option maxHeartbeats 4000000
namespace U
open PySem PySem.Spec PyProof.Rows L2 UL UV UW NdefX
section
variable {P : Program} {w : World} {K : PySem.W.Frag} {mg : Str → Option Value} {base : Heap}
theorem ncK {CX : CXT} {N : List Str} {F : NF} {f : Addr} {A : Around} {outer : List Env} {s : Shared} {H : Hp} {E : XK} : (ncx CX P w K mg base N F f A outer s H E).K = K := rfl
end
local macro_rules | `(tactic| walk_at "rdx") => `(tactic| simp only [tCons, tNil, tJs, tC, tFmt, tFmtN, tVar, tOst, tSeq, startF, L2.start, List.length_cons, List.length_nil, List.map_cons, List.map_nil, List.replicate, List.cons_append, List.nil_append, List.getElem?_cons_zero, List.getElem?_cons_succ, Option.some.injEq, exists_eq_left', exists_eq_left, V.str.injEq, V.int.injEq, V.ref.injEq, reduceCtorEq, false_and, exists_false, or_false, false_or, and_true, true_and, exists_and_left, exists_and_right, Nat.reduceAdd, Nat.reduceSub, Nat.reduceLeDiff, ncK])
section
variable {P : Program} {w : World} {K : PySem.W.Frag} {mg : Str → Option Value} {base : Heap}
/-- an exception class as it stands, with its __init__ -/
structure XD (P : Program) (K : PySem.W.Frag) (mg : Str → Option Value) (C : Addr) (x qual : Str) (st : Stmt) : Prop where
  ex : ∃ (f c cc : Addr) (oc kV doc pm ct : Value) (od an : Option Addr) (osl : Array (Option Value)), K.lookup f = some ⟨oc, od, .func (PySem.W.fnX "__init__" qual (defArgs st) (defBody st) (defScope st) [("__class__", cc)] .none kV doc pm an (.ref c) ct), osl⟩ ∧ PySem.W.codeIn K (.ref c) qual = true ∧
    SupF P K mg C f c cc (PySem.W.fnX "__init__" qual (defArgs st) (defBody st) (defScope st) [("__class__", cc)] .none kV doc pm an (.ref c) ct) ∧ PySem.W.findIn K (.ref C) "__init__" = some (some (.ref f)) ∧ PySem.W.typeIn K (.ref f) = some (.type "function")
  ox : OexC K C
  gc : mg x = some (.ref C)
/-- .. and what its __init__ promises -/
structure Xn (P : Program) (w : World) (K : PySem.W.Frag) (mg : Str → Option Value) (base : Heap) (k : Nat) (C : Addr) (x : Str) (sp : Sp) : Prop where
  ex : ∃ (f : Addr) (fd : FuncData) (ps : List Str), FnOk P w K mg base CX0 k f fd ps sp ∧ PySem.W.findIn K (.ref C) "__init__" = some (some (.ref f)) ∧ PySem.W.typeIn K (.ref f) = some (.type "function") ∧ Binds K fd ps []
  ox : OexC K C
  gc : mg x = some (.ref C)
theorem pmk_x {X : Cx} {C : Addr} {x : Str} {sp : Sp} {k j : Nat} {e : Expr} {es : List Expr} {ta : TA} {p pos : Pos} (d : Xn X.prog X.w X.K X.mg X.base k C x sp) (hr : Room j X.A) (hk : k + 1 ≤ j) (hg : Gl X x) (ha : PA X (e :: es) ta)
    (hdb : (x == ("__debug__" : Str)) = false := by decide) (he : starEach (e :: es) X.env = (false, eval e X.env) :: starEach es X.env := by rfl) (hpl : (backTo pos (starEach es X.env)).any (·.1) = false := by rfl) : PMk X (.Call (.Name x p) (e :: es) [] pos) (tMkO C sp [] ta) := by
  obtain ⟨f, fd, ps, F, h1, h2, B⟩ := d.ex
  exact pmk_oex d.ox h1 h2 F (hr.mono hk) B .nil (fun _ _ _ _ _ _ _ h => h.elim) hg d.gc ha hdb he hpl
theorem log64 {i : Int} (h0 : -(2 ^ 64) < i) (h1 : i < 2 ^ 64) : i.natAbs.log2 < 1920 := by
  by_cases e : i.natAbs = 0
  · rw [e]; decide
  · have : i.natAbs < 2 ^ 64 := by omega
    have := (Nat.log2_lt e).mpr this
    omega
/-- the exception's record is gone, its dict stands -/
theorem exg1 {H : Hp} {a d : Addr} {o1 o2 o3 o4 : HO} (ha : H a = none) : upd (del (upd (upd (upd H a o1) d o2) a o3) a) d o4 = upd H d o4 := by
  funext b
  by_cases hb : b = d
  · rw [hb, upd_same, upd_same]
  · rw [upd_ne hb, upd_ne hb]
    by_cases h2 : b = a
    · rw [h2, del_same, ha]
    · rw [del_ne h2, upd_ne h2, upd_ne hb, upd_ne h2]
theorem isX {H : Hp} {Q : VK} {D a dx : Addr} {fs : List (Str × V)} {c : V} {cv : Value} {b : Bool} (ec : ExcC K D) (hd : H dx = some (.xd fs)) (hc : ∀ u, RelV c u → u = cv) (hk : PySem.W.kitOne K (.ref D) cv = some b) (q : Q (.bl b) H) : rIsX K a (.ref D) (some dx) [.ref a, c] H Q := ⟨D, dx, fs, c, cv, b, rfl, rfl, hd, ec, rfl, hc, hk, q⟩
end
end U


set_option Elab.async false
set_option linter.all false
set_option maxRecDepth 100000
set_option maxHeartbeats 4000000
set_option pp.deepTerms true
set_option pp.maxSteps 400000
namespace U
open PySem PySem.Spec PyProof.Rows L2 UL UX
local macro_rules | `(tactic| walk_at "rd") => `(tactic| simp only [sMatch, tJs, tFmt, tBC, tMethA, tMakeL, iEnumS, tSeq, tAsg, tOp, tCB, tCons, tNil, tVar, tC, tB, tTest, tNot, tIfS, tNext, tYes, tUn, rU, tM0, tGFrom, tGThen, tG0, tYfLst, gcxK, tSubO, tProp, tListG, tMethG, tBMF, tFld, sFld, tMeth, tMake, tSl, tNoPart, tPart, tM1, gTup, gCons, gNil, tDrop, tFor_eq, tLc_eq, tLc2_eq, iRng1_eq, StX.tStar, iList, iTup, iStr, iAny_var, iZipB, tLenSetS, wipe, tVar, tAndV, tOrV, tNotV, tOr, tAnd, tLst, tTup, tBM, tBM0, tChain, tCall, cxK, noxK, addII, addSS, mulII, eqII, neII, neSS, cIntI, cAbsI, rI, rI0, rLt, rLe, rGt_, rGe_, rSub_, rMod, rPow, rDivW, rNeg, gName, tRet, L2.start, List.length_cons, List.length_nil, List.map_cons, List.map_nil, List.replicate, List.cons_append, List.nil_append, List.getElem?_cons_zero, List.getElem?_cons_succ, List.set_cons_zero, List.set_cons_succ, Option.some.injEq, exists_eq_left', exists_eq_left, V.int.injEq, V.bl.injEq, V.str.injEq, V.ref.injEq, V.ty.injEq, List.cons.injEq, and_true, true_and, reduceCtorEq, false_and, exists_false, or_false, false_or, exists_and_left, exists_and_right, List.append_nil, forall_eq, decide_eq_true_eq, Bool.not_eq_true, Nat.reduceAdd, Nat.reduceSub, List.replicate_zero, List.replicate_succ, Nat.zero_le, ite_true, ite_false, if_true, if_false])
section
variable {P : Program} {w : World} {K : PySem.W.Frag} {mg : Str → Option Value} {base : Heap}

variable {R Wr B Pg : Addr}
abbrev s__law_mixed : Stmt := top 7
abbrev sc__law_mixed_N : List Str := ["_law_cell", "_law_k", "_law_first", "_law_second"]
theorem sc__law_mixed : FnScope sc__law_mixed_N ["_law_cell", "_law_k"] (defScope s__law_mixed) := ⟨rfl, rfl, rfl, by decide +kernel, rfl, by decide +kernel, by decide +kernel⟩
-- 0 _law_cell, 1 _law_k, 2 _law_first, 3 _law_second
def sp_mixed : Sp := fun vs H Q _ => ∃ c k : Int, vs = [.int c, .int k] ∧ 0 ≤ c ∧ c < 10 ^ 18 ∧ 0 ≤ k ∧ k < 1000 ∧ ∀ r : Int, 0 ≤ r → Q (.int r) H
theorem d_mixed (T : Nm mg) (D : TD K mg "_law_mixed" s__law_mixed) : Dn P w K mg base CX0 1 "_law_mixed" sp_mixed := by
  refine D.dn sc__law_mixed (fun _ _ _ _ _ _ us hl => match us, hl with | [_, _], _ => rfl) (fun vs H Q E h => ?_) (fun f cdv A outer s H vs Q E hr h => ?_)
  · obtain ⟨c, k, rfl, _⟩ := h; rfl
  · obtain ⟨c, k, rfl, h0, h1, h2, h3, q⟩ := h
    refine ⟨_, (pss_cons (ps_set (i := 2) sc__law_mixed.nd rfl (Or.inl rfl) (pe_op op_modA (pe_callTy call_intA (by rfl) T.n_int (by decide +kernel) (pa_cons (pe_op op_addA (pe_op op_addA (pe_op op_mulA (pv 0) pe_int) (pe_op op_mulA (pv 1) pe_int)) pe_int) pa_nil)) pe_int))
      (pss_cons (ps_set (i := 3) sc__law_mixed.nd rfl (Or.inl rfl) (pe_op op_modA (pe_callTy call_intA (by rfl) T.n_int (by decide +kernel) (pa_cons (pe_op op_addA (pe_op op_addA (pe_op op_mulA (pv 2) (pv 2)) (pe_op op_mulA (pv 1) pe_int)) pe_int) pa_nil)) pe_int))
      (pss_one (ps_ret (pe_op op_modA (pe_callTy call_intA (by rfl) T.n_int (by decide +kernel) (pa_cons (pe_op op_addA (pe_op op_mulA (pv 3) (pv 3)) (pv 2)) pa_nil)) pe_int))))), ?_⟩
    walk_at "rd"
    have e : ∀ a b : Int, 0 < b → 0 ≤ a % b ∧ a % b < b := fun a b hb => ⟨Int.emod_nonneg a (by omega), Int.emod_lt_of_pos a hb⟩
    refine ⟨.inl ⟨by omega, by omega⟩, .inl ⟨by omega, by omega⟩, by decide, .inl ?_, .inl ⟨by omega, by omega⟩, by decide, .inl ?_, by decide, q _ (e _ 99991 (by decide)).1⟩
    · have := e (c * 48271 + k * 69621 + 11) 65537 (by decide); omega
    · have := e ((c * 48271 + k * 69621 + 11) % 65537 * ((c * 48271 + k * 69621 + 11) % 65537) + k * 7919 + 3) 64007 (by decide); omega

abbrev s__law_draw : Stmt := top 9
abbrev sc__law_draw_N : List Str := ["_law_pool_here", "_law_many"]
theorem sc__law_draw : FnScope sc__law_draw_N ["_law_pool_here", "_law_many"] (defScope s__law_draw) := ⟨rfl, rfl, rfl, by decide +kernel, rfl, by decide +kernel, by decide +kernel⟩
-- 0 _law_pool_here, 1 _law_many
def sp_draw : Sp := fun vs H Q _ => ∃ (p : Addr) (m : Int), vs = [.ref p, .int m] ∧ 0 < m ∧ Pl H p ∧ ∀ r H', 0 ≤ r → r < m → Pl H' p → But p H H' → Q (.int r) H'
theorem d_draw (T : Nm mg) (D : TD K mg "_law_draw" s__law_draw) : Dn P w K mg base CX0 1 "_law_draw" sp_draw := by
  refine D.dn sc__law_draw (fun _ _ _ _ _ _ us hl => match us, hl with | [_, _], _ => rfl) (fun vs H Q E h => ?_) (fun f cdv A outer s H vs Q E hr h => ?_)
  · obtain ⟨p, m, rfl, _⟩ := h; rfl
  · obtain ⟨p, m, rfl, hm, ⟨ns, hp⟩, q⟩ := h
    refine ⟨_, (pss_cons (ps_if (pt_cmpR (op_eqA (hr.units)) (pv 0) (pe_lst pa_nil) (nomark _)) (pss_one (ps_ret pe_int)) pss_nil)
      (pss_one (ps_ret (pe_op op_modA (pe_callTy call_intA (by rfl) T.n_int (by decide +kernel) (pa_cons (pe_bm0 PySem.F.plainAttrs_list PySem.F.slot_list_pop PySem.F.type_list_pop mt_pop (pv 0)) pa_nil)) (pv 1))))), ?_⟩
    walk_at "rd"
    refine (fun p1 hp1 => eqL0 (xs := ns.map V.int) fl2_ints (.inl (.inl ?_)) (.inl (.inl upd_same)) ⟨_, rfl, ?_⟩)
    · rw [upd_ne (ne_of_none hp hp1)]; exact hp
    · have hp2 : upd H p1 (.lst []) p = some (.lst (ns.map V.int)) := by rw [upd_ne (ne_of_none hp hp1)]; exact hp
      rcases List.eq_nil_or_concat ns with rfl | ⟨L, y, rfl⟩
      · rw [if_pos (by simp)]
        exact q 0 _ (Int.le_refl 0) hm ⟨[], hp2⟩ (UL.Same.but (UL.Same.new hp1))
      · rw [if_neg (by simp)]
        refine ⟨.inl ⟨rfl, _, .inl (.inl hp2)⟩, p, _, .int y, rfl, rfl, hp2, by simp, cIntI.mpr ⟨y, rfl, hm, q _ _ (Int.emod_nonneg y (by omega)) (Int.emod_lt_of_pos y hm) ⟨L, ?_⟩ (But.trans (UL.Same.but (UL.Same.new hp1)) But.at_)⟩⟩
        rw [upd_same]; simp

abbrev s__law_pool : Stmt := top 8
abbrev sc__law_pool_N : List Str := ["_law_script", "_law_pool_here", "_law_at", "_law_left", "_law_k"]
theorem sc__law_pool : FnScope sc__law_pool_N ["_law_script"] (defScope s__law_pool) := ⟨rfl, rfl, rfl, by decide +kernel, rfl, by decide +kernel, by decide +kernel⟩
-- 0 _law_script, 1 _law_pool_here, 2 _law_at, 3 _law_left, 4 _law_k
def sp_pool : PySem.W.Frag → Sp := fun K vs H Q _ => ∃ (a : Addr) (ns : List Int), vs = [.ref a] ∧ SqL K H a (ns.map V.int) ∧ ns.length ≤ 63 ∧ ∀ p H', H p = none → Pl H' p → Same H H' → Q (.ref p) H'
theorem d_pool (T : Nm mg) (D : TD K mg "_law_pool" s__law_pool) (d__law_mixed : Dn P w K mg base CX0 1 "_law_mixed" sp_mixed) : Dn P w K mg base CX0 2 "_law_pool" (sp_pool K) := by
  refine D.dn sc__law_pool (fun _ _ _ _ _ _ us hl => match us, hl with | [_], _ => rfl) (fun vs H Q E h => ?_) (fun f cdv A outer s H vs Q E hr h => ?_)
  · obtain ⟨i, ns, rfl, _⟩ := h; rfl
  · obtain ⟨a, ns, rfl, ha, hn, q⟩ := h
    refine ⟨_, (pss_cons (ps_set (i := 1) sc__law_pool.nd rfl (Or.inl rfl) (pe_lst pa_nil))
      (pss_cons (ps_for PassesOwn.never rfl (pi_range1 (by rfl) T.n_range (pa_cons (pe_callB call_lenA (by rfl) T.n_len (by decide +kernel) (pa_cons (pv 0) pa_nil)) pa_nil)) (pg_name (i := 2) sc__law_pool.nd rfl (Or.inl rfl)) (pss_cons (ps_set (i := 3) sc__law_pool.nd rfl (Or.inl rfl) (pe_callB call_absA (by rfl) T.n_abs (by decide +kernel) (pa_cons (pe_callTy call_intA (by rfl) T.n_int (by decide +kernel) (pa_cons (pe_ix ix_seq (pv 0) (pv 2) (fun _ _ => rfl)) pa_nil)) pa_nil)))
      (pss_one (ps_if (pt_cmpR op_ltA (pv 3) (pe_op op_powA pe_int pe_int) (nomark _)) (pss_one (ps_for PassesOwn.never rfl (pi_range1 (by rfl) T.n_range (pa_cons pe_int pa_nil)) (pg_name (i := 4) sc__law_pool.nd rfl (Or.inl rfl)) (pss_one (ps_expr (pe_bm PySem.F.plainAttrs_list PySem.F.slot_list_append PySem.F.type_list_append mt_append (pv 1) (pa_cons (pe_d d__law_mixed hr (by decide) pass0 (by rfl) (pa_cons (pv 3) (pa_cons (pe_op op_addA (pe_op op_mulA pe_int (pv 2)) (pv 4)) pa_nil))) pa_nil)))))) (pss_one (ps_for PassesOwn.never rfl (pi_range1 (by rfl) T.n_range (pa_cons pe_int pa_nil)) (pg_name (i := 4) sc__law_pool.nd rfl (Or.inl rfl)) (pss_one (ps_if (pt_cmpR op_gtA (pv 3) pe_int (nomark _)) (pss_cons (ps_expr (pe_bm PySem.F.plainAttrs_list PySem.F.slot_list_append PySem.F.type_list_append mt_append (pv 1) (pa_cons (pe_op op_modA (pe_callTy call_intA (by rfl) T.n_int (by decide +kernel) (pa_cons (pv 3) pa_nil)) pe_int) pa_nil)))
      (pss_one (ps_set (i := 3) sc__law_pool.nd rfl (Or.inl rfl) (pe_op op_divA (pv 3) pe_int)))) pss_nil))))))))
      (pss_cons (ps_expr (pe_bm0 PySem.F.plainAttrs_list PySem.F.slot_list_reverse PySem.F.type_list_reverse mt_reverse (pv 1)))
      (pss_one (ps_ret (pv 1)))))), ?_⟩
    walk_at "rd"
    refine fun p hp => ?_
    have np : ∀ zs, Same H (upd H p (.lst zs)) := fun zs => UL.Same.new hp
    have haU : ∀ zs, SqL K (upd H p (.lst zs)) a (ns.map V.int) := fun zs => UL.Same.sqL (np zs) ha
    refine lenL (haU _) ⟨_, rfl, by omega, by simp; omega, FJ.rangeI (fun i σ' H' => ∃ ms : List Int, ms.length ≤ 60 * i ∧ (∃ x y z, σ' = [some (.ref a), some (.ref p), x, y, z]) ∧ H' = upd H p (.lst (ms.map V.int))) (by omega) ⟨[], Nat.zero_le _, ⟨_, _, _, rfl⟩, rfl⟩ (fun i σ' H' hi inv => ?_) fun σ' H' inv => ?_⟩
    · obtain ⟨ms, hm, ⟨x, y, z, rfl⟩, rfl⟩ := inv
      have hi2 : i < ns.length := by simpa using hi
      have hx : ns[i]? = some ns[i] := by simp [hi2]
      walk_at "rd"
      refine ixL (haU _) (atN (v := .int ns[i]) (by rw [List.getElem?_map, hx]; rfl)) ?_
      rw [cIntI, cAbsI]
      have habs : 0 ≤ (if ns[i] < 0 then -ns[i] else ns[i]) := by split <;> omega
      generalize (if ns[i] < 0 then -ns[i] else ns[i]) = av at habs
      refine ⟨⟨by decide, by decide, by decide⟩, av, rfl, ?_⟩
      have h10 : (10 : Int) ^ Int.toNat 18 = 10 ^ 18 := rfl
      rw [h10]
      by_cases hs : av < 10 ^ 18
      · rw [if_pos hs]
        refine ⟨by decide, by decide, FJ.rangeI (fun j σ' H' => ∃ m2 : List Int, m2.length ≤ 60 * i + j ∧ (∃ z, σ' = [some (.ref a), some (.ref p), some (.int i), some (.int av), z]) ∧ H' = upd H p (.lst (m2.map V.int))) (by decide) ⟨ms, hm, ⟨_, rfl⟩, rfl⟩ (fun j σ' H' hj inv => ?_) fun σ' H' inv => ?_⟩
        · obtain ⟨m2, hm2, ⟨z, rfl⟩, rfl⟩ := inv
          walk_at "rd"
          refine ⟨.inl ⟨rfl, _, .inl (.inl upd_same)⟩, .inr (by omega), av, _, rfl, habs, hs, by omega, by omega, fun r hr0 => ⟨p, _, _, rfl, rfl, upd_same, by rw [List.length_map, sizeLine_eq]; omega, m2 ++ [r], by simp; omega, ⟨_, rfl⟩, ?_⟩⟩
          rw [upd_upd, List.map_append]; rfl
        · obtain ⟨m2, hm2, ⟨z, rfl⟩, rfl⟩ := inv
          exact ⟨m2, by simp at hm2; omega, ⟨_, _, _, rfl⟩, rfl⟩
      · rw [if_neg hs]
        refine ⟨by decide, by decide, FJ.rangeI (fun j σ' H' => ∃ (m2 : List Int) (lv : Int), m2.length ≤ 60 * i + j ∧ 0 ≤ lv ∧ (∃ z, σ' = [some (.ref a), some (.ref p), some (.int i), some (.int lv), z]) ∧ H' = upd H p (.lst (m2.map V.int))) (by decide) ⟨ms, av, hm, habs, ⟨_, rfl⟩, rfl⟩ (fun j σ' H' hj inv => ?_) fun σ' H' inv => ?_⟩
        · obtain ⟨m2, lv, hm2, hlv, ⟨z, rfl⟩, rfl⟩ := inv
          walk_at "rd"
          by_cases h0 : 0 < lv
          · rw [if_pos h0]
            refine ⟨.inl ⟨rfl, _, .inl (.inl upd_same)⟩, by decide, p, _, _, rfl, rfl, upd_same, by rw [List.length_map, sizeLine_eq]; omega, ⟨by decide, by decide⟩, m2 ++ [lv % 1000], by simp; omega, lv / 1000, by omega, ⟨rfl, _, rfl⟩, ?_⟩
            rw [upd_upd, List.map_append]; rfl
          · rw [if_neg h0]
            exact ⟨m2, by omega, lv, hlv, ⟨rfl, _, rfl⟩, rfl⟩
        · obtain ⟨m2, lv, hm2, hlv, ⟨z, rfl⟩, rfl⟩ := inv
          exact ⟨m2, by simp at hm2; omega, ⟨_, _, _, rfl⟩, rfl⟩
    · obtain ⟨ms, hm, ⟨x, y, z, rfl⟩, rfl⟩ := inv
      walk_at "rd"
      refine ⟨.inl ⟨rfl, _, .inl (.inl upd_same)⟩, p, _, rfl, rfl, upd_same, ?_⟩
      exact q p _ hp ⟨ms.reverse, by rw [upd_upd, upd_same, List.map_reverse]⟩ (by rw [upd_upd]; exact np _)
end
end U

set_option Elab.async false
set_option linter.all false
set_option maxRecDepth 100000
set_option maxHeartbeats 4000000
set_option pp.deepTerms true
set_option pp.maxSteps 400000
namespace U
open PySem PySem.Spec PyProof.Rows L2 UL UX
local macro_rules | `(tactic| walk_at "rd") => `(tactic| simp only [sMatch, tJs, tFmt, tBC, tMethA, tMakeL, iEnumS, tSeq, tAsg, tOp, tCB, tCons, tNil, tVar, tC, tB, tTest, tNot, tIfS, tNext, tYes, tUn, rU, tM0, tGFrom, tGThen, tG0, tYfLst, gcxK, tSubO, tProp, tListG, tMethG, tBMF, tFld, sFld, tMeth, tMake, tSl, tNoPart, tPart, tM1, gTup, gCons, gNil, tDrop, tFor_eq, tLc_eq, tLc2_eq, iRng1_eq, StX.tStar, iList, iTup, iStr, iAny_var, iZipB, tLenSetS, wipe, tVar, tAndV, tOrV, tNotV, tOr, tAnd, tLst, tTup, tBM, tBM0, tChain, tCall, cxK, noxK, addII, addSS, mulII, eqII, neII, neSS, cIntI, cAbsI, rI, rI0, rLt, rLe, rGt_, rGe_, rSub_, rMod, rPow, rDivW, rNeg, gName, tRet, L2.start, List.length_cons, List.length_nil, List.map_cons, List.map_nil, List.replicate, List.cons_append, List.nil_append, List.getElem?_cons_zero, List.getElem?_cons_succ, List.set_cons_zero, List.set_cons_succ, Option.some.injEq, exists_eq_left', exists_eq_left, V.int.injEq, V.bl.injEq, V.str.injEq, V.ref.injEq, V.ty.injEq, List.cons.injEq, and_true, true_and, reduceCtorEq, false_and, exists_false, or_false, false_or, exists_and_left, exists_and_right, List.append_nil, forall_eq, decide_eq_true_eq, Bool.not_eq_true, Nat.reduceAdd, Nat.reduceSub, List.replicate_zero, List.replicate_succ, Nat.zero_le, ite_true, ite_false, if_true, if_false])
section
variable {P : Program} {w : World} {K : PySem.W.Frag} {mg : Str → Option Value} {base : Heap}

variable {R Wr B Pg : Addr}
def isNm (z : Str) : Prop := nmB z = true
def InL (z : Str) : Prop := ∀ c ∈ z.cps.toList, c ∈ abc.cps.toList
theorem abc_eq : abc.cps.toList = (List.range 26).map (97 + ·) := by decide +kernel
theorem abc_len : abc.length = 26 := by decide +kernel
theorem abc_at {i : Int} (h0 : 0 ≤ i) (h1 : i < 26) : atI abc.cps.toList i = some (97 + i.toNat) := by
  have e : ((i.toNat : Nat) : Int) = i := by omega
  rw [← e]
  refine atN ?_
  rw [abc_eq, List.getElem?_map, List.getElem?_range (by omega)]
  simp; omega
theorem abc_mem {n : Nat} (h : n < 26) : 97 + n ∈ abc.cps.toList := by
  rw [abc_eq]; exact List.mem_map.mpr ⟨n, List.mem_range.mpr h, rfl⟩
theorem inL_app {x y : Str} (hx : InL x) (hy : InL y) : InL (x ++ y) := fun c hc => by
  have : (x ++ y).cps.toList = x.cps.toList ++ y.cps.toList := by show (x.cps ++ y.cps).toList = _; simp
  rw [this] at hc
  rcases List.mem_append.mp hc with z | z
  · exact hx c z
  · exact hy c z
theorem inL_one {n : Nat} (h : n < 26) : InL ⟨#[97 + n]⟩ := fun c hc => by
  have : c = 97 + n := by simpa using hc
  rw [this]; exact abc_mem h
theorem inL_nil : InL Str.empty := fun c hc => by simp [Str.empty] at hc
theorem len_one (c : Nat) : (⟨#[c]⟩ : Str).length = 1 := rfl
/-- the text at one letter, then anything -/
theorem mid_inj {f b b' s s' : Str} {c c' : Nat} (h : ((f ++ ⟨#[c]⟩) ++ b) ++ s = ((f ++ ⟨#[c']⟩) ++ b') ++ s') : c = c' := by
  have e : ∀ (b s : Str) (c : Nat), (((f ++ ⟨#[c]⟩) ++ b) ++ s).cps.toList = f.cps.toList ++ (c :: (b.cps.toList ++ s.cps.toList)) := fun b s c => by
    show (((f.cps ++ #[c]) ++ b.cps) ++ s.cps).toList = _
    simp
  have h2 := congrArg (fun z : Str => z.cps.toList) h
  simp only [e] at h2
  have h3 := List.append_cancel_left h2
  exact (List.cons.inj h3).1
theorem app_nil (x : Str) : x ++ Str.empty = x := by
  show (⟨x.cps ++ #[]⟩ : Str) = x
  simp
theorem drawI {p : Addr} {m : Int} {H : Hp} {Q : VK} {E : XK} (hm : 0 < m) (hp : Pl H p) (q : ∀ r H', 0 ≤ r → r < m → Pl H' p → But p H H' → Q (.int r) H') : sp_draw [.ref p, .int m] H Q E := ⟨p, m, rfl, hm, hp, q⟩
theorem But.free' {H H' : Hp} {p q : Addr} (s : But p H H') (x : Pl H' p) (h : H' q = none) : H q = none := UL.But.free s x h
theorem But.tr {p : Addr} {H H1 H2 : Hp} (a : But p H H1) (b : But p H1 H2) : But p H H2 := UL.But.trans a b
theorem But.nw {p q : Addr} {H H' : Hp} {o : HO} (a : But p H H') (x : Pl H' p) (h : H' q = none) : But p H (upd H' q o) := But.tr a (UL.Same.but (UL.Same.new h))
/-- the names so far: one letter differs, what stands behind is of no account -/
def NU (fr bk : Str) (sh st : Int) (xs : List Str) : Prop := ∀ (j : Nat) x, xs[j]? = some x → ∃ s', InL s' ∧ s'.length ≤ 1 ∧ x = ((fr ++ ⟨#[97 + ((sh + st * j) % 26).toNat]⟩) ++ bk) ++ s'
theorem mod26 (i : Int) : (i % 26).toNat < 26 := by
  have h0 := Int.emod_nonneg i (show (26 : Int) ≠ 0 by decide)
  have h1 := Int.emod_lt_of_pos i (show (0 : Int) < 26 by decide)
  omega
theorem isNm_of {z : Str} (h1 : 1 ≤ z.length) (h2 : z.length ≤ 8) (h3 : InL z) : isNm z := by
  show nmB z = true
  simp only [nmB, decide_eq_true h1, decide_eq_true h2, Bool.true_and, List.all_eq_true]
  exact fun c hc => decide_eq_true (h3 c hc)
theorem NU.nm {fr bk : Str} {sh st : Int} {xs : List Str} (h : NU fr bk sh st xs) (hf : fr.length ≤ 3) (hb : bk.length ≤ 3) (hfi : InL fr) (hbi : InL bk) : ∀ z ∈ xs, isNm z := by
  intro z hz
  obtain ⟨j, hj⟩ := List.getElem?_of_mem hz
  obtain ⟨s', hs, hl, rfl⟩ := h j z hj
  refine isNm_of ?_ ?_ (inL_app (inL_app (inL_app hfi (inL_one (mod26 _))) hbi) hs) <;> simp only [len_app, len_one] <;> omega
theorem NU.snoc {fr bk : Str} {sh st : Int} {xs : List Str} (h : NU fr bk sh st xs) {s' : Str} (hs : InL s') (hl : s'.length ≤ 1) : NU fr bk sh st (xs ++ [((fr ++ ⟨#[97 + ((sh + st * xs.length) % 26).toNat]⟩) ++ bk) ++ s']) := fun j x hj => by
  by_cases hlt : j < xs.length
  · rw [List.getElem?_append_left hlt] at hj
    exact h j x hj
  · have : j = xs.length := by have := (List.getElem?_eq_some_iff.mp hj).1; simp at this; omega
    subst this
    simp at hj
    subst hj
    exact ⟨s', hs, hl, rfl⟩
theorem mulSI {H : Hp} {Q : VK} {z : Str} {n : Int} (h : n = 0 ∨ n = 1) (q : ∀ y : Str, (y = Str.empty ∨ y = z) → Q (.str y) H) : rMulA K (.str z) (.int n) H Q :=
  .inr (.inl ⟨z, n, rfl, rfl, h.elim (fun e => .inl ⟨e, q _ (.inl rfl)⟩) fun e => .inr ⟨e, q _ (.inr rfl)⟩⟩)
theorem mod26I (i : Int) : 0 ≤ i % 26 ∧ i % 26 < 26 := ⟨Int.emod_nonneg i (by decide), Int.emod_lt_of_pos i (by decide)⟩
theorem nm_read : isNm "read" := by show nmB _ = true; decide +kernel
theorem nm_as : isNm "as" := by show nmB _ = true; decide +kernel
theorem nm_write : isNm "write" := by show nmB _ = true; decide +kernel
theorem nm_by : isNm "by" := by show nmB _ = true; decide +kernel
theorem nm_of : isNm "of" := by show nmB _ = true; decide +kernel
abbrev s__law_names : Stmt := top 10
abbrev sc__law_names_N : List Str := ["_law_pool_here", "_law_count", "_law_letters", "_law_choice", "_law_shift", "_law_stride", "_law_front", "_law_k", "_law_back", "_law_names_here", "_law_name"]
theorem sc__law_names : FnScope sc__law_names_N ["_law_pool_here", "_law_count"] (defScope s__law_names) := ⟨rfl, rfl, rfl, by decide +kernel, rfl, by decide +kernel, by decide +kernel⟩
-- 0 _law_pool_here, 1 _law_count, 2 _law_letters, 3 _law_choice, 4 _law_shift, 5 _law_stride, 6 _law_front, 7 _law_k, 8 _law_back, 9 _law_names_here, 10 _law_name
theorem NU.nodup {fr bk : Str} {sh st : Int} {xs : List Str} (h : NU fr bk sh st xs) (hst : st = 1 ∨ st = 25 ∨ st = 7) (hl : xs.length ≤ 5) : xs.Nodup := by
  rw [List.Nodup, List.pairwise_iff_getElem]
  intro i j hi hj hij e
  obtain ⟨s1, _, _, e1⟩ := h i _ (List.getElem?_eq_getElem hi)
  obtain ⟨s2, _, _, e2⟩ := h j _ (List.getElem?_eq_getElem hj)
  rw [e1, e2] at e
  have m := mid_inj e
  rcases hst with rfl | rfl | rfl <;> omega
def sp_namesN : Sp := fun vs H Q _ => ∃ (p : Addr) (c : Nat), vs = [.ref p, .int c] ∧ Pl H p ∧ 1 ≤ c ∧ c ≤ 5 ∧ ∀ q H' (xs : List Str), xs.length = c → (∀ z ∈ xs, isNm z) → xs.Nodup → H q = none → H' q = some (.lst (xs.map V.str)) → Pl H' p → But p H H' → Q (.ref q) H'
theorem d_namesN (T : Nm mg) (D : TD K mg "_law_names" s__law_names) (d__law_draw : Dn P w K mg base CX0 1 "_law_draw" sp_draw) : Dn P w K mg base CX0 2 "_law_names" sp_namesN := by
  refine D.dn sc__law_names (fun _ _ _ _ _ _ us hl => match us, hl with | [_, _], _ => rfl) (fun vs H Q E h => ?_) (fun f cdv A outer s H vs Q E hr h => ?_)
  · obtain ⟨a, xs, rfl, _⟩ := h; rfl
  · obtain ⟨p, c, rfl, hp, h1, h3, q⟩ := h
    refine ⟨_, (pss_cons (ps_set (i := 2) sc__law_names.nd rfl (Or.inl rfl) pe_str)
      (pss_cons (ps_set (i := 3) sc__law_names.nd rfl (Or.inl rfl) (pe_d d__law_draw hr (by decide) pass0 (by rfl) (pa_cons (pv 0) (pa_cons pe_int pa_nil))))
      (pss_cons (ps_if (pt_cmpR (op_eqA (hr.units)) (pv 3) pe_int (nomark _)) (pss_one (ps_ret (pe_slice sl_list (pe_lst (pa_cons pe_str (pa_cons pe_str (pa_cons pe_str (pa_cons pe_str (pa_cons pe_str (pa_cons pe_str pa_nil))))))) po_none (po_some (pv 1))))) pss_nil)
      (pss_cons (ps_set (i := 4) sc__law_names.nd rfl (Or.inl rfl) (pe_d d__law_draw hr (by decide) pass0 (by rfl) (pa_cons (pv 0) (pa_cons pe_int pa_nil))))
      (pss_cons (ps_set (i := 5) sc__law_names.nd rfl (Or.inl rfl) (pe_ix ix_seq (pe_lst (pa_cons pe_int (pa_cons pe_int (pa_cons pe_int pa_nil)))) (pe_d d__law_draw hr (by decide) pass0 (by rfl) (pa_cons (pv 0) (pa_cons pe_int pa_nil))) (fun _ _ => rfl)))
      (pss_cons (ps_set (i := 6) sc__law_names.nd rfl (Or.inl rfl) pe_str)
      (pss_cons (ps_for PassesOwn.never rfl (pi_range1 (by rfl) T.n_range (pa_cons (pe_d d__law_draw hr (by decide) pass0 (by rfl) (pa_cons (pv 0) (pa_cons pe_int pa_nil))) pa_nil)) (pg_name (i := 7) sc__law_names.nd rfl (Or.inl rfl)) (pss_one (ps_set (i := 6) sc__law_names.nd rfl (Or.inl rfl) (pe_op op_addA (pv 6) (pe_ix ix_seq (pv 2) (pe_d d__law_draw hr (by decide) pass0 (by rfl) (pa_cons (pv 0) (pa_cons pe_int pa_nil))) (fun _ _ => rfl))))))
      (pss_cons (ps_set (i := 8) sc__law_names.nd rfl (Or.inl rfl) pe_str)
      (pss_cons (ps_for PassesOwn.never rfl (pi_range1 (by rfl) T.n_range (pa_cons (pe_d d__law_draw hr (by decide) pass0 (by rfl) (pa_cons (pv 0) (pa_cons pe_int pa_nil))) pa_nil)) (pg_name (i := 7) sc__law_names.nd rfl (Or.inl rfl)) (pss_one (ps_set (i := 8) sc__law_names.nd rfl (Or.inl rfl) (pe_op op_addA (pv 8) (pe_ix ix_seq (pv 2) (pe_d d__law_draw hr (by decide) pass0 (by rfl) (pa_cons (pv 0) (pa_cons pe_int pa_nil))) (fun _ _ => rfl))))))
      (pss_cons (ps_set (i := 9) sc__law_names.nd rfl (Or.inl rfl) (pe_lst pa_nil))
      (pss_cons (ps_for PassesOwn.never rfl (pi_range1 (by rfl) T.n_range (pa_cons (pv 1) pa_nil)) (pg_name (i := 7) sc__law_names.nd rfl (Or.inl rfl)) (pss_cons (ps_set (i := 10) sc__law_names.nd rfl (Or.inl rfl) (pe_op op_addA (pe_op op_addA (pv 6) (pe_ix ix_seq (pv 2) (pe_op op_modA (pe_callTy call_intA (by rfl) T.n_int (by decide +kernel) (pa_cons (pe_op op_addA (pv 4) (pe_op op_mulA (pv 5) (pv 7))) pa_nil)) pe_int) (fun _ _ => rfl))) (pv 8)))
      (pss_cons (ps_if (pt_cmpR (op_eqA (hr.units)) (pv 3) pe_int (nomark _)) (pss_one (ps_set (i := 10) sc__law_names.nd rfl (Or.inl rfl) (pe_op op_addA (pv 10) (pe_op op_mulA (pe_ix ix_seq (pv 2) (pv 7) (fun _ _ => rfl)) (pe_op op_modA (pv 7) pe_int))))) pss_nil)
      (pss_one (ps_expr (pe_bm PySem.F.plainAttrs_list PySem.F.slot_list_append PySem.F.type_list_append mt_append (pv 9) (pa_cons (pv 10) pa_nil)))))))
      (pss_one (ps_ret (pv 9)))))))))))))), ?_⟩
    walk_at "rd"
    refine drawI (by decide) hp fun ch H1 c0 c6 hp1 b1 => eqII.mpr ⟨_, rfl, ?_⟩
    by_cases h4 : ch = 4
    · rw [if_pos (by simp [h4])]
      refine ⟨by rw [sizeLine_eq]; decide, fun l hl => ⟨l, _, rfl, .inl (.inl upd_same), fun q0 hq0 => ?_⟩⟩
      have key : ∀ xs : List Str, (upd (upd H1 l (.lst [V.str (Str.ofString "read"), V.str (Str.ofString "as"), V.str (Str.ofString "write"), V.str (Str.ofString "by"), V.str (Str.ofString "of"), V.str (Str.ofString "program")])) q0 (.lst (xs.map V.str)) = upd (upd H1 l (.lst [V.str (Str.ofString "read"), V.str (Str.ofString "as"), V.str (Str.ofString "write"), V.str (Str.ofString "by"), V.str (Str.ofString "of"), V.str (Str.ofString "program")])) q0 (.lst (cutV [V.str (Str.ofString "read"), V.str (Str.ofString "as"), V.str (Str.ofString "write"), V.str (Str.ofString "by"), V.str (Str.ofString "of"), V.str (Str.ofString "program")] none (some (c : Int))))) → xs.length = c → (∀ z ∈ xs, isNm z) → xs.Nodup → Q (.ref q0) (upd (upd H1 l (.lst [V.str (Str.ofString "read"), V.str (Str.ofString "as"), V.str (Str.ofString "write"), V.str (Str.ofString "by"), V.str (Str.ofString "of"), V.str (Str.ofString "program")])) q0 (.lst (cutV [V.str (Str.ofString "read"), V.str (Str.ofString "as"), V.str (Str.ofString "write"), V.str (Str.ofString "by"), V.str (Str.ofString "of"), V.str (Str.ofString "program")] none (some (c : Int))))) := by
        intro xs e hl2 hn hnd
        rw [← e]
        have hp2 := Pl.put (o := .lst [V.str (Str.ofString "read"), V.str (Str.ofString "as"), V.str (Str.ofString "write"), V.str (Str.ofString "by"), V.str (Str.ofString "of"), V.str (Str.ofString "program")]) hp1 (hp1.ne hl)
        have b2 := But.nw (o := .lst [V.str (Str.ofString "read"), V.str (Str.ofString "as"), V.str (Str.ofString "write"), V.str (Str.ofString "by"), V.str (Str.ofString "of"), V.str (Str.ofString "program")]) b1 hp1 hl
        exact q q0 _ xs hl2 hn hnd (But.free' b2 hp2 hq0) upd_same (hp2.put (hp2.ne hq0)) (But.nw b2 hp2 hq0)
      have c15 : c = 1 ∨ c = 2 ∨ c = 3 ∨ c = 4 ∨ c = 5 := by omega
      rcases c15 with rfl | rfl | rfl | rfl | rfl
      · exact key ["read"] rfl rfl (by simp only [List.mem_singleton, forall_eq]; exact nm_read) (by decide +kernel)
      · exact key ["read", "as"] rfl rfl (by simp only [List.mem_cons, List.not_mem_nil, or_false, forall_eq_or_imp, forall_eq]; exact ⟨nm_read, nm_as⟩) (by decide +kernel)
      · exact key ["read", "as", "write"] rfl rfl (by simp only [List.mem_cons, List.not_mem_nil, or_false, forall_eq_or_imp, forall_eq]; exact ⟨nm_read, nm_as, nm_write⟩) (by decide +kernel)
      · exact key ["read", "as", "write", "by"] rfl rfl (by simp only [List.mem_cons, List.not_mem_nil, or_false, forall_eq_or_imp, forall_eq]; exact ⟨nm_read, nm_as, nm_write, nm_by⟩) (by decide +kernel)
      · exact key ["read", "as", "write", "by", "of"] rfl rfl (by simp only [List.mem_cons, List.not_mem_nil, or_false, forall_eq_or_imp, forall_eq]; exact ⟨nm_read, nm_as, nm_write, nm_by, nm_of⟩) (by decide +kernel)
    · rw [if_neg (by simp [h4])]
      refine drawI (by decide) hp1 fun sh H2 s0 s26 hp2 b2 => ⟨by rw [sizeLine_eq]; decide, fun l hl => ?_⟩
      have b02 := But.tr b1 b2
      refine drawI (by decide) (hp2.put (hp2.ne hl)) fun r3 H3 r0 r33 hp3 b3 => ?_
      have hl3 : H3 l = some (.lst [V.int 1, .int 25, .int 7]) := b3 _ _ upd_same (Ne.symm (hp2.ne hl))
      have b03 : But p H H3 := But.tr (But.nw b02 hp2 hl) b3
      have hstr : ∃ st : Int, atI [V.int 1, .int 25, .int 7] r3 = some (.int st) ∧ (st = 1 ∨ st = 25 ∨ st = 7) := by
        have : r3 = 0 ∨ r3 = 1 ∨ r3 = 2 := by omega
        rcases this with rfl | rfl | rfl
        · exact ⟨1, rfl, .inl rfl⟩
        · exact ⟨25, rfl, .inr (.inl rfl)⟩
        · exact ⟨7, rfl, .inr (.inr rfl)⟩
      obtain ⟨st, hat, hst⟩ := hstr
      refine ixL (.inl (.inl hl3)) hat (drawI (by decide) hp3 fun fn H4 f0 f4 hp4 b4 => ⟨fn, rfl, by omega, by omega, ?_⟩)
      have b04 := But.tr b03 b4
      refine FJ.rangeI (fun i σ' H' => ∃ fr : Str, fr.length ≤ i ∧ InL fr ∧ Pl H' p ∧ But p H H' ∧ ∃ z, σ' = [some (.ref p), some (.int c), some (.str abc), some (.int ch), some (.int sh), some (.int st), some (.str fr), z, none, none, none]) f0 ⟨Str.empty, Nat.le_refl _, inL_nil, hp4, b04, _, rfl⟩ (fun i σ' H' hi inv => ?_) fun σ' H' inv => ?_
      · obtain ⟨fr, hfl, hfi, hp5, b5, z, rfl⟩ := inv
        walk_at "rd"
        refine drawI (by decide) hp5 fun r H5 r0 r26 hp6 b6 => ixS (by rw [abc_len, sizeLine_eq]; decide) (abc_at r0 r26) (addSS.mpr ⟨by rw [len_one, sizeLine_eq]; omega, _, by rw [len_app, len_one]; omega, inL_app hfi (inL_one (by omega)), hp6, But.tr b5 b6, rfl, _, rfl⟩)
      · obtain ⟨fr, hfl, hfi, hp5, b5, z, rfl⟩ := inv
        walk_at "rd"
        refine drawI (by decide) hp5 fun bn H5 g0 g4 hp6 b6 => ⟨bn, rfl, by omega, by omega, ?_⟩
        have b06 := But.tr b5 b6
        refine FJ.rangeI (fun i σ' H' => ∃ bk : Str, bk.length ≤ i ∧ InL bk ∧ Pl H' p ∧ But p H H' ∧ ∃ z, σ' = [some (.ref p), some (.int c), some (.str abc), some (.int ch), some (.int sh), some (.int st), some (.str fr), z, some (.str bk), none, none]) g0 ⟨Str.empty, Nat.le_refl _, inL_nil, hp6, b06, _, rfl⟩ (fun i σ' H' hi inv => ?_) fun σ' H' inv => ?_
        · obtain ⟨bk, hbl, hbi, hp7, b7, z, rfl⟩ := inv
          walk_at "rd"
          refine drawI (by decide) hp7 fun r H8 r0 r26 hp8 b8 => ixS (by rw [abc_len, sizeLine_eq]; decide) (abc_at r0 r26) (addSS.mpr ⟨by rw [len_one, sizeLine_eq]; omega, _, by rw [len_app, len_one]; omega, inL_app hbi (inL_one (by omega)), hp8, But.tr b7 b8, rfl⟩)
        · obtain ⟨bk, hbl, hbi, hp7, b7, z, rfl⟩ := inv
          walk_at "rd"
          have hfl3 : fr.length ≤ 3 := by omega
          have hbl3 : bk.length ≤ 3 := by omega
          refine fun q0 hq0 => ⟨by omega, by omega, FJ.rangeI (fun i σ' H9 => ∃ xs : List Str, xs.length = i ∧ NU fr bk sh st xs ∧ H9 = upd H' q0 (.lst (xs.map V.str)) ∧ ∃ z w, σ' = [some (.ref p), some (.int c), some (.str abc), some (.int ch), some (.int sh), some (.int st), some (.str fr), z, some (.str bk), some (.ref q0), w]) (by omega) ⟨[], rfl, (fun j x h => nomatch h), rfl, _, _, rfl⟩ (fun i σ' H9 hi inv => ?_) fun σ' H9 inv => ?_⟩
          · obtain ⟨xs, hxl, hnu, rfl, z, w', rfl⟩ := inv
            walk_at "rd"
            subst hxl
            have m := mod26I (sh + st * xs.length)
            refine ⟨.inl (by omega), by decide, ixS (by rw [abc_len, sizeLine_eq]; decide) (abc_at m.1 m.2) (addSS.mpr ⟨by rw [len_one, sizeLine_eq]; omega, addSS.mpr ⟨by rw [len_app, len_one, sizeLine_eq]; omega, ?_⟩⟩)⟩
            have hup : upd H' q0 (.lst (xs.map V.str)) q0 = some (.lst (xs.map V.str)) := upd_same
            have hsz : (xs.map V.str).length < sizeLine := by rw [List.length_map, sizeLine_eq]; omega
            by_cases h2 : ch = 2
            · rw [if_pos h2]
              refine ixS (by rw [abc_len, sizeLine_eq]; decide) (abc_at (by omega) (by omega)) ⟨by decide, mulSI (by omega) fun y hy => addSS.mpr ?_⟩
              have hyl : y.length ≤ 1 ∧ InL y := by
                rcases hy with rfl | rfl
                · exact ⟨Nat.zero_le _, inL_nil⟩
                · exact ⟨Nat.le_refl _, inL_one (by omega)⟩
              refine ⟨by rw [len_app, len_app, len_one, sizeLine_eq]; omega, .inl ⟨rfl, _, .inl (.inl hup)⟩, q0, _, _, rfl, rfl, hup, hsz, _, by simp, hnu.snoc hyl.2 hyl.1, ?_, _, rfl⟩
              rw [upd_upd, List.map_append]; rfl
            · rw [if_neg h2]
              have e := hnu.snoc inL_nil (Nat.zero_le _)
              rw [app_nil] at e
              refine ⟨.inl ⟨rfl, _, .inl (.inl hup)⟩, q0, _, _, rfl, rfl, hup, hsz, _, by simp, e, ?_, _, rfl⟩
              rw [upd_upd, List.map_append]; rfl
          · obtain ⟨xs, hxl, hnu, rfl, z, w', rfl⟩ := inv
            walk_at "rd"
            have hnl : xs.length = c := by omega
            refine q q0 _ xs hnl (hnu.nm hfl3 hbl3 hfi hbi) (hnu.nodup hst (by omega)) (But.free' b7 hp7 hq0) upd_same ?_ ?_
            · exact hp7.put (hp7.ne hq0)
            · exact But.nw b7 hp7 hq0
def sp_names : Sp := fun vs H Q _ => ∃ (p : Addr) (c : Nat), vs = [.ref p, .int c] ∧ Pl H p ∧ 1 ≤ c ∧ c ≤ 5 ∧ ∀ q H' (xs : List Str), xs.length = c → (∀ z ∈ xs, isNm z) → H q = none → H' q = some (.lst (xs.map V.str)) → Pl H' p → But p H H' → Q (.ref q) H'
theorem d_names (T : Nm mg) (D : TD K mg "_law_names" s__law_names) (d__law_draw : Dn P w K mg base CX0 1 "_law_draw" sp_draw) : Dn P w K mg base CX0 2 "_law_names" sp_names := by
  obtain ⟨f, fd, ps, F, r⟩ := (d_namesN T D d__law_draw).ex
  exact ⟨f, fd, ps, F.imp fun vs H Q E ⟨p, c, e, hp, h1, h5, q⟩ => ⟨p, c, e, hp, h1, h5, fun q0 H' xs a1 a2 _ a4 a5 a6 a7 => q q0 H' xs a1 a2 a4 a5 a6 a7⟩, r⟩
end
end U

set_option Elab.async false
set_option linter.all false
set_option maxRecDepth 100000
set_option maxHeartbeats 4000000
/-! a classmethod that may raise, called in a try's body -/
namespace UX
open PySem PySem.Spec PyProof.Rows L2 UL UV UW ClX
/-- C.m(..), m a classmethod that may raise -/
structure CMnX (P : Program) (w : World) (K : PySem.W.Frag) (mg : Str → Option Value) (base : Heap) (CX : CXT) (k : Nat) (C : Addr) (x m : Str) (sp : Sp) : Prop where
  ex : ∃ (q g : Addr) (mc : Value), CRead K C mc ∧ CMet K C mc m q g ∧ FnR P w K mg base CX k g sp ∧ mg x = some (.ref C)
def tBCX (sp : Sp) (E : L2.St → XK) (t : TA) : TE := fun σ H Q => t σ H fun vs H2 => sp vs H2 Q (E σ)
section
variable {X : Cx} {CX : CXT} {k j i : Nat} {C : Addr} {sp : Sp} {E : L2.St → XK} {e : Expr} {es : List Expr} {m x : Str} {p pos apos : Pos} {t : TA} {pl : Sem Bool}
theorem run_fnRS {pins : List (Addr × Obj)} {σ : L2.St} {H : Hp} {s : Shared} {Q : VK} {f : Addr} {us : List Value} {vs : List V} {E0 : XK} (F : FnR X.prog X.w X.K X.mg X.base CX k f sp) (hr : Room k X.A) (hx : ∀ (s' : Shared) (e : Value), CX X.stack H s E0 e s' → X.xe e s')
    (I : L2.Inv X pins σ H s) (r : Vals vs us) (h : sp vs H Q E0) :
    codeAny (model X.prog X.w) X.A (.call (.ref f) ⟨us, []⟩) (fun r s' => match r with | .ok (.ret v) => EP X pins σ Q v s' | .ok _ => False | .error e => X.xe e s') s := by
  refine codeAny_mono (F X.A X.stack s H us vs Q E0 hr I.env0 r h) fun r s' hq => ?_
  cases r with
  | error e => exact hx s' e hq
  | ok fl =>
    cases fl with
    | ret u => exact I.after hq
    | next => exact False.elim hq
    | brk => exact False.elim hq
    | cont => exact False.elim hq
theorem pe_cmX (d : CMnX X.prog X.w X.K X.mg X.base CX k C x m sp) (hr : Room j X.A) (hk : k ≤ j) (hx : ∀ σ, PassesAt CX X σ (E σ)) (hg : Gl X x) (ha : PA X (e :: es) t) (hdb : (x == ("__debug__" : Str)) = false := by decide)
    (hst : starEach (e :: es) X.env = (false, eval e X.env) :: starEach es X.env := by rfl) (hpl : (backTo pos (starEach es X.env)).any (·.1) = false := by rfl)
    (ht : eval (.Call (.Attribute (.Name x p) m apos) (e :: es) [] pos) X.env = (do
      let ov ← eval (.Name x p) X.env
      standAt apos.atName
      let (f, first) ← holding [ov] (getMethod ov m pl)
      callWith pos f first (backTo pos (starEach (e :: es) X.env)) (backToKw pos (keywordEach [] X.env))) := by rfl) : PE X (.Call (.Attribute (.Name x p) m apos) (e :: es) [] pos) (tBCX (fun vs H Q E => sp (.ref C :: vs) H Q E) E t) := by
  obtain ⟨q, g, mc, r, c, F, hm⟩ := d.ex
  have gl : PE X (.Name x p) (tC (.ref C)) := C8.pe_gc (v := .ref C) hg ⟨_, hm, rfl⟩ hdb
  refine ⟨fun pins s σ H Q I h => ?_⟩
  refine PySem.W.methodCall_KW (pl := pl) (thn (gl.run pins s σ H (fun x H1 => x = V.ref C ∧ H1 = H) I ⟨rfl, rfl⟩) fun u s1 ⟨x, H1, I1, rx, ex, eH⟩ => ?_) ht
  subst ex eH
  obtain rfl : u = Value.ref C := rx
  refine getmethcm_ok I1 r c fun s2 I2 => ?_
  refine callwith_cm I2 (base_none I1 (Nat.le_refl _)) c.fi (thn (ha.run pos _ s2 σ _ _ I2 h) fun us s3 ⟨vs, H2, I3, rv, q2⟩ => ⟨⟨pin_at I3, I3.kIn⟩, ?_⟩) hst hpl
  have z : wpAny (model X.prog X.w) X.A (call (.ref s1.heap.objs.size) us) (EP X ((s1.heap.objs.size, PySem.W.methodObj (.ref g) (.ref C)) :: pins) σ Q) X.xe s3 :=
    wpAny_call (PySem.W.method_call (pin_at I3) (run_fnRS (us := .ref C :: us) (vs := .ref C :: vs) F (hr.mono hk) (fun s' e c => hx σ _ H2 s3 e s' I3 c) I3 (.cons rfl rv) q2))
  exact thn z fun _ _ y => unpinE y
end
/-- xs.insert(i, y) -/
def rInsert : V → List V → Hp → VK → Prop := fun x vs H Q => ∃ (l : Addr) (xs : List V) (i : Int) (y : V), x = .ref l ∧ vs = [.int i, y] ∧ H l = some (.lst xs) ∧ xs.length < sizeLine ∧ 0 ≤ i ∧ i < 2 ^ 63 ∧ Q .non (upd H l (.lst (xs.take i.toNat ++ [y] ++ xs.drop i.toNat)))
theorem mt_insertM {X : Cx} : MtR X "list.insert" rInsert := mt_insert
end UX

set_option Elab.async false
set_option linter.all false
set_option maxRecDepth 100000
set_option maxHeartbeats 4000000
set_option pp.deepTerms true
set_option pp.maxSteps 400000
namespace U
open PySem PySem.Spec PyProof.Rows L2 UL UX
local macro_rules | `(tactic| walk_at "rd") => `(tactic| simp only [sMatch, tJs, tFmt, tBC, tMethA, tMakeL, iEnumS, tSeq, tAsg, tOp, tCB, tCons, tNil, tVar, tC, tB, tTest, tNot, tIfS, tNext, tYes, tUn, rU, tM0, tGFrom, tGThen, tG0, tYfLst, gcxK, tSubO, tProp, tListG, tMethG, tBMF, tFld, sFld, tMeth, tMake, tSl, tNoPart, tPart, tM1, gTup, gCons, gNil, tDrop, tFor_eq, tLc_eq, tLc2_eq, iRng1_eq, StX.tStar, iList, iTup, iStr, iAny_var, iZipB, tLenSetS, wipe, tVar, tAndV, tOrV, tNotV, tOr, tAnd, tLst, tTup, tBM, tBM0, tChain, tCall, cxK, noxK, addII, addSS, mulII, eqII, neII, neSS, cIntI, cAbsI, rI, rI0, rLt, rLe, rGt_, rGe_, rSub_, rMod, rPow, rDivW, rNeg, gName, tRet, L2.start, List.length_cons, List.length_nil, List.map_cons, List.map_nil, List.replicate, List.cons_append, List.nil_append, List.getElem?_cons_zero, List.getElem?_cons_succ, List.set_cons_zero, List.set_cons_succ, Option.some.injEq, exists_eq_left', exists_eq_left, V.int.injEq, V.bl.injEq, V.str.injEq, V.ref.injEq, V.ty.injEq, List.cons.injEq, and_true, true_and, reduceCtorEq, false_and, exists_false, or_false, false_or, exists_and_left, exists_and_right, List.append_nil, forall_eq, decide_eq_true_eq, Bool.not_eq_true, Nat.reduceAdd, Nat.reduceSub, List.replicate_zero, List.replicate_succ, Nat.zero_le, ite_true, ite_false, if_true, if_false])
section
variable {P : Program} {w : World} {K : PySem.W.Frag} {mg : Str → Option Value} {base : Heap}

open UW
theorem nm_len {z : Str} (h : isNm z) : z.length ≤ 8 := by
  have h : nmB z = true := h
  simp only [nmB, Bool.and_eq_true, decide_eq_true_eq] at h
  exact h.1.2
theorem inV_str {z : Str} {kn : List Str} : inV (.str z) (kn.map V.str) = decide (z ∈ kn) := by
  induction kn with
  | nil => simp [inV]
  | cons y r ih =>
    have e : inV (.str z) ((y :: r).map V.str) = (eqV (.str y) (.str z) || inV (.str z) (r.map V.str)) := rfl
    rw [e, ih]
    by_cases h : z = y
    · subst h; simp [eqV]
    · have h2 : eqV (.str y) (.str z) = false := by simp [eqV, Ne.symm h]
      rw [h2]; simp [h]
theorem Same.tr {H H1 H2 : Hp} (a : Same H H1) (b : Same H1 H2) : Same H H2 := fun c o e => b c o (a c o e)
/-- a number of a written list, drawn -/
theorem pickL {p : Addr} {H : Hp} {R : VK} {E : XK} {ls : List Nat} {m : Int} (hp : Pl H p) (hn : ls ≠ []) (hs : ls.length ≤ 16) (hm : m = ls.length) (q : ∀ (c : Nat) H', c ∈ ls → Pl H' p → But p H H' → R (.int c) H') :
    ls.length ≤ sizeLine ∧ ∀ l, H l = none → sp_draw [.ref p, .int m] (upd H l (.lst (ls.map fun n => V.int (n : Nat)))) (fun y H2 => rIx K (.ref l) y H2 R) E := by
  have h1 : 1 ≤ ls.length := List.length_pos_iff.mpr hn
  refine ⟨by rw [sizeLine_eq]; omega, fun l hl => drawI (by omega) (hp.put (hp.ne hl)) fun r H1 r0 r3 hp1 b1 => ?_⟩
  have hl1 := b1 _ _ upd_same (Ne.symm (hp.ne hl))
  obtain ⟨n, rfl⟩ := Int.eq_ofNat_of_zero_le r0
  have hlt : n < ls.length := by omega
  exact ixL (.inl (.inl hl1)) (show atI _ ((n : Nat) : Int) = some (.int (ls[n] : Nat)) from atN (by rw [List.getElem?_map]; simp [hlt])) (q _ _ (List.getElem_mem hlt) hp1 (But.tr (UL.Same.but (UL.Same.new hl)) b1))
/-! ### splitting by one sign -/
theorem pre1 {s c : Nat} {r : List Nat} : _root_.TL.pre [s] (c :: r) = decide (c = s) := by
  show (List.take 1 (c :: r) == [s]) = _
  rw [Bool.eq_iff_iff]; simp
theorem spl1 (s : Nat) : ∀ (l acc : List Nat), s ∉ acc → _root_.TL.spl [s] 0 acc l ≠ [] ∧ (_root_.TL.spl [s] 0 acc l).length ≤ l.length + 1 ∧ (∀ p ∈ _root_.TL.spl [s] 0 acc l, s ∉ p ∧ p.length ≤ acc.length + l.length ∧ ∀ c ∈ p, c ∈ acc ∨ c ∈ l) ∧ _root_.TL.joinL [s] (_root_.TL.spl [s] 0 acc l) = acc ++ l
  | [], acc, h => by
    rw [_root_.TL.spl_nil]
    exact ⟨by simp, by simp, fun p hp => by rw [List.mem_singleton.mp hp]; exact ⟨h, by simp, fun c hc => .inl hc⟩, by show acc = _; simp⟩
  | c :: r, acc, h => by
    by_cases e : c = s
    · rw [_root_.TL.spl_hit (by rw [pre1]; exact decide_eq_true e)]
      obtain ⟨h1, h2, h3, h4⟩ := spl1 s r [] (by simp)
      show acc :: _root_.TL.spl [s] 0 [] r ≠ [] ∧ (acc :: _root_.TL.spl [s] 0 [] r).length ≤ _ ∧ (∀ p ∈ acc :: _root_.TL.spl [s] 0 [] r, _) ∧ _root_.TL.joinL [s] (acc :: _root_.TL.spl [s] 0 [] r) = _
      refine ⟨by simp, by simp only [List.length_cons]; omega, fun p hp => ?_, ?_⟩
      · rcases List.mem_cons.mp hp with rfl | hp
        · exact ⟨h, by omega, fun c hc => .inl hc⟩
        · obtain ⟨g1, g2, g3⟩ := h3 p hp
          refine ⟨g1, by simp only [List.length_cons, List.length_nil] at g2 ⊢; omega, fun d hd => .inr (List.mem_cons_of_mem _ ((g3 d hd).resolve_left (by simp)))⟩
      · cases hs : _root_.TL.spl [s] 0 [] r with
        | nil => exact absurd hs h1
        | cons q t =>
          show acc ++ ([s] ++ _root_.TL.joinL [s] (q :: t)) = _
          rw [← hs, h4, e]; simp
    · rw [_root_.TL.spl_miss (by rw [pre1]; exact decide_eq_false e)]
      obtain ⟨h1, h2, h3, h4⟩ := spl1 s r (acc ++ [c]) (by simp [h]; exact fun q => e q.symm)
      refine ⟨h1, by simp only [List.length_cons]; omega, fun p hp => ?_, by rw [h4]; simp⟩
      obtain ⟨g1, g2, g3⟩ := h3 p hp
      refine ⟨g1, by simp only [List.length_append, List.length_cons, List.length_nil] at g2 ⊢; omega, fun d hd => ?_⟩
      rcases g3 d hd with q | q
      · rcases List.mem_append.mp q with q | q
        · exact .inl q
        · rw [List.mem_singleton.mp q]; exact .inr List.mem_cons_self
      · exact .inr (List.mem_cons_of_mem _ q)
/-- a text of plain signs -/
def asc (z : Str) : Prop := ∀ c ∈ z.cps.toList, c < 128
theorem asc_ok {z : Str} (h : asc z) : PyData.strOk z = true := by
  show (z.cps.all (· < 0x110000)) = true
  rw [Array.all_eq_true_iff_forall_mem]
  intro c hc
  have := h c (by simpa using hc)
  exact decide_eq_true (by omega)
theorem split_ok {y : Str} {s : Nat} (ey : y.cps.toList = [s]) (hk : y.cps.all (· < 256) = true) (z : Str) : Txt.split z y ≠ [] ∧ (Txt.split z y).length ≤ z.length + 1 ∧ (∀ x ∈ Txt.split z y, s ∉ x.cps.toList ∧ x.length ≤ z.length ∧ ∀ c ∈ x.cps.toList, c ∈ z.cps.toList) ∧ Txt.join y (Txt.split z y) = z := by
  have e := _root_.TL.split_spl z y (by show y.cps.toList ≠ []; rw [ey]; simp) (_root_.TL.kind_ok hk)
  have e : (Txt.split z y).map _root_.TL.tl = _root_.TL.spl [s] 0 [] z.cps.toList := by rw [e]; show _root_.TL.spl y.cps.toList 0 [] z.cps.toList = _; rw [ey]
  obtain ⟨h1, h2, h3, h4⟩ := spl1 s z.cps.toList [] (by simp)
  rw [← e] at h1 h2 h3 h4
  have zl : z.cps.toList.length = z.length := by rw [Array.length_toList]; rfl
  refine ⟨fun q => h1 (by rw [q]; rfl), by rw [List.length_map] at h2; omega, fun x hx => ?_, ?_⟩
  · obtain ⟨g1, g2, g3⟩ := h3 (_root_.TL.tl x) (List.mem_map_of_mem hx)
    refine ⟨g1, ?_, fun c hc => (g3 c hc).resolve_left (by simp)⟩
    rw [_root_.TL.len_tl x]
    simp only [List.length_nil] at g2
    omega
  · refine _root_.TL.ext_tl ?_
    rw [_root_.TL.join_eq, _root_.TL.tl_join]
    show _root_.TL.joinL y.cps.toList _ = _
    rw [ey, h4]; rfl
theorem sp_eq : (" " : Str).cps.toList = [32] := by decide +kernel
theorem nl_eq : ("\n" : Str).cps.toList = [10] := by decide +kernel
theorem sp_all : (" " : Str).cps.all (· < 256) = true := by decide +kernel
theorem nl_all : ("\n" : Str).cps.all (· < 256) = true := by decide +kernel
/-- the words of a line -/
abbrev wds (z : Str) : List Str := Txt.split z " "
/-- the lines of a text -/
abbrev lns (z : Str) : List Str := Txt.split z "\n"
theorem lns_join {ls : List Str} (h : ls ≠ []) (h0 : ∀ l ∈ ls, 10 ∉ l.cps.toList) : lns (Txt.join "\n" ls) = ls := _root_.TL.split_join (y := "\n") (s := 10) (S := []) nl_eq nl_all h h0
theorem wds_join {ws : List Str} (h : ws ≠ []) (h0 : ∀ l ∈ ws, 32 ∉ l.cps.toList) : wds (Txt.join " " ws) = ws := _root_.TL.split_join (y := " ") (s := 32) (S := []) sp_eq sp_all h h0
theorem FJ.str {z : Str} {g : TG} {tb : TS} {D : Ends} {σ : L2.St} {H : Hp} (Pv : Nat → L2.St → Hp → Prop) (h0 : Pv 0 σ H)
    (hs : ∀ (i c : Nat) (σ : L2.St) (H : Hp), z.cps.toList[i]? = some c → Pv i σ H → g (.str ⟨#[c]⟩) σ H fun σ2 H2 => tb { D with nx := Pv (i + 1), ct := Pv (i + 1), bk := D.nx } σ2 H2) (hd : ∀ σ H, Pv z.length σ H → D.nx σ H) : FJ (Its z) g tb D σ H :=
  for_it walk_str Pv h0 (fun _ _ _ _ _ => trivial) (fun i v σ H H' hi p y => by
    obtain ⟨rfl, c, hc, rfl⟩ := y
    exact hs i c σ _ (by rw [Array.getElem?_toList]; exact hc) p) hd
theorem iRng2_eq {ta : TA} {σ : L2.St} {H : Hp} {R : It → Hp → Prop} : iRng2 ta σ H R = ta σ H fun vs H1 => ∃ i j : Int, vs = [.int i, .int j] ∧ (-(2 ^ 62) ≤ i ∧ i < 2 ^ 62 ∧ -(2 ^ 62) ≤ j ∧ j < 2 ^ 62) ∧ R (Itr i (j - i).toNat) H1 := rfl
theorem cutV_from (xs : List V) (n : Nat) : cutV xs (some (n : Int)) none = xs.drop n := by
  unfold cutV
  rw [HT.sIx_nat, HT.sIx_none]
  by_cases h : n ≤ xs.length
  · rw [Nat.min_eq_left h]; exact List.take_of_length_le (by rw [List.length_drop]; omega)
  · rw [Nat.min_eq_right (by omega), List.drop_eq_nil_of_le (Nat.le_refl _), List.drop_eq_nil_of_le (by omega)]; simp
theorem cutV_to (xs : List V) (n : Nat) : cutV xs none (some (n : Int)) = xs.take n := by
  unfold cutV
  rw [HT.sIx_nat, HT.sIx_none, List.drop_zero, Nat.sub_zero]
  by_cases h : n ≤ xs.length
  · rw [Nat.min_eq_left h]
  · rw [Nat.min_eq_right (by omega), List.take_of_length_le (Nat.le_refl _), List.take_of_length_le (by omega)]
abbrev W (ws : List Str) (i : Nat) : Str := ws.getD i Str.empty
theorem watW {ws : List Str} {i : Nat} (h : i < ws.length) : (ws.map V.str)[i]? = some (V.str (W ws i)) := by
  rw [List.getElem?_map, List.getElem?_eq_getElem h]
  show some (V.str _) = some (V.str (ws.getD i Str.empty))
  rw [List.getD_eq_getElem?_getD, List.getElem?_eq_getElem h]; rfl
theorem ixW {a : Addr} {ws : List Str} {H : Hp} {R5 : VK} (ha : SqL K H a (ws.map V.str)) (i : Nat) (h : i < ws.length) (q : R5 (.str (W ws i)) H) : rIx K (.ref a) (.int (i : Int)) H R5 := ixL ha (atN (watW h)) q
theorem memW {ws : List Str} {i : Nat} (h : i < ws.length) : W ws i ∈ ws := by
  show ws.getD i Str.empty ∈ ws
  rw [List.getD_eq_getElem?_getD, List.getElem?_eq_getElem h]; exact List.getElem_mem h
theorem flat_strs (xs : List Str) : (xs.map V.str).all flatV = true := by
  rw [List.all_eq_true]; intro x hx; obtain ⟨z, _, rfl⟩ := List.mem_map.mp hx; rfl
theorem flat_bls (xs : List Bool) : (xs.map V.bl).all flatV = true := by
  rw [List.all_eq_true]; intro x hx; obtain ⟨z, _, rfl⟩ := List.mem_map.mp hx; rfl
theorem inV_no {bs : List Bool} : inV (.bl false) (bs.map V.bl) = bs.any (!·) := by
  induction bs with
  | nil => simp [inV]
  | cons y r ih =>
    have e : inV (.bl false) ((y :: r).map V.bl) = (eqV (.bl y) (.bl false) || inV (.bl false) (r.map V.bl)) := rfl
    rw [e, ih, List.any_cons]
    cases y <;> simp [eqV]
/-- xs != [] -/
theorem neL0 {xs : List V} {a b : Addr} {H : Hp} {Q : VK} (hf : xs.all fl2 = true) (ha : SqL K H a xs) (hb : SqL K H b []) (q : Q (.bl (!decide (xs = []))) H) : rNeA K (.ref a) (.ref b) H Q :=
  .inr ⟨.list (xs.map dV), .list [], .lst ha (dV_all hf), .lst hb .nil, lst_shape hf, lst_shape (xs := []) rfl, by
    have e : PyData.eqv (.list (xs.map dV)) (.list []) = decide (xs = []) := by cases xs <;> simp [PyData.eqv, PyData.eqvAll]
    rw [e]; exact q⟩
theorem fl2_asc {ws : List Str} (h : ∀ x ∈ ws, asc x ∧ x.length ≤ 1000) : (ws.map V.str).all fl2 = true := fl2_strs fun z hz => asc_ok (h z hz).1
/-- xs[draw(len(xs))] -/
theorem drawAt {K : PySem.W.Frag} {p a : Addr} {H : Hp} {R : VK} {E : XK} {xs : List V} (hp : Pl H p) (ha : H a = some (.lst xs)) (nap : a ≠ p) (hn : xs ≠ []) (q : ∀ x H', x ∈ xs → Pl H' p → But p H H' → R x H') : cLen K [.ref a] H fun n H1 => sp_draw [.ref p, n] H1 (fun y H2 => rIx K (.ref a) y H2 R) E := by
  have h1 : 1 ≤ xs.length := List.length_pos_iff.mpr hn
  refine lenL (.inl (.inl ha)) (drawI (by omega) hp fun r H1 r0 r3 hp1 b1 => ?_)
  obtain ⟨n, rfl⟩ := Int.eq_ofNat_of_zero_le r0
  have hlt : n < xs.length := by omega
  exact ixL (.inl (.inl (b1 _ _ ha nap))) (atN (List.getElem?_eq_getElem hlt)) (q _ _ (List.getElem_mem hlt) hp1 b1)
end
end U

set_option Elab.async false
set_option linter.all false
set_option maxRecDepth 100000
set_option maxHeartbeats 4000000
/-! tuple(d); a class made in a try; what is never reached -/
namespace UX
open PySem PySem.Spec PyProof.Rows L2 UL UV UW PySem.W
section
variable {prog : Program} {w : World} {A : Around} {E : Value → Shared → Prop} {s : Shared} {r d : Addr} {n : Nat} {T : String} {P : Nat → Value → Prop} {OK : Heap → Prop}
theorem collect_kdl {Q : List Value → Shared → Prop} (K : KdlSrc prog w T r d n P OK) (hh : A.handled = none) (hok : OK s.heap) (hlen : n ≤ sizeLine)
    (hQ : ∀ (h' : Heap) (tk : Nat) (acc : Array Value), (∀ b o, s.heap.get? b = some o → h'.get? b = some o) → ItemsOf P acc n → Q acc.toList { s with heap := h', toks := tk }) :
    wpAny (model prog w) A (collect (.ref r)) Q E s := by
  unfold collect
  refine wpAny_bind (wpAny_runValue (codeAny_builtin F.entry_proto_collect ?_))
  rw [Around.under_plainId F.plain_proto_collect _]
  show wpAny _ A.in1 (newList [] >>= fun l => again (.builtin "list.__iadd__" ⟨[l, .ref r], []⟩)) _ _ s
  refine wpAny_bind (wpAny_newObj_type ?_)
  refine wpAny_pure ⟨plainId_quiet F.plain_list_iadd _, codeAny_builtin F.entry_list_iadd ?_⟩
  rw [Around.under_plainId F.plain_list_iadd _]
  show wpAny _ A.in1 (Builtin.List.listExtendWith (.ref s.heap.objs.size) (.ref r) (.ref s.heap.objs.size)) _ _ _
  have hS : (s.heap.push { cls := .type "list", data := .seq ([] : List Value).toArray }).get? s.heap.objs.size = some { cls := .type "list", data := .seq #[] 0 } := Heap.get?_push_size _ rfl
  have hok2 : OK (s.heap.push { cls := .type "list", data := .seq ([] : List Value).toArray }) := K.keep _ _ hok fun b _ o e => Heap.get?_push_of_some _ e
  obtain ⟨t1, t2⟩ := K.there _ hok
  refine wpAny_mono (kdl_extend (A := A) (R := fun rr s' => rr = .ok (.ret (.ref s.heap.objs.size)) ∧ ∃ (h' : Heap) (tk : Nat) (acc : Array Value) (c' : Nat), s' = { s with heap := h', toks := tk } ∧
      (∀ b o, s.heap.get? b = some o → h'.get? b = some o) ∧ h'.get? s.heap.objs.size = some { cls := .type "list", dict := none, data := .seq acc c', slots := #[] } ∧ ItemsOf P acc n)
    (s := { s with heap := s.heap.push { cls := .type "list", data := .seq ([] : List Value).toArray } }) K hh hok2 s.heap.objs.size (Nat.ne_of_gt t1) (Nat.ne_of_gt t2) _ 0 hS
    (fun h' tk acc c' hk e hi => ⟨rfl, h', tk, acc, c', rfl, fun b o q => hk b o (Nat.ne_of_lt (Heap.lt_size q)) (Heap.get?_push_of_some _ q), e, hi⟩) hlen) (fun fin s' h => ?_) (fun e s' h => ?_)
  · cases fin with
    | done f =>
      obtain ⟨e, h', tk, acc, c', rfl, hk, hS', hi⟩ := h
      cases e
      show wpAny _ A (load s.heap.objs.size >>= _) _ _ _
      exact wpAny_bind (wpAny_load hS' (wpAny_pure (hQ h' tk acc hk hi)))
    | again c' =>
      refine ⟨h.1, codeAny_mono h.2 fun rr s'' hr' => ?_⟩
      obtain ⟨rfl, h', tk, acc, c', rfl, hk, hS', hi⟩ := hr'
      show wpAny _ A (load s.heap.objs.size >>= _) _ _ _
      exact wpAny_bind (wpAny_load hS' (wpAny_pure (hQ h' tk acc hk hi)))
  · exact absurd h.1 (by simp)
theorem code_tuple_new_kdl {Q₁ : Value → Shared → Prop} (K : KdlSrc prog w T r d n P OK) (hh : A.handled = none) (hok : OK s.heap) (hlen : n ≤ sizeLine)
    (h : ∀ (h' : Heap) (tk : Nat) (acc : Array Value), (∀ b o, s.heap.get? b = some o → h'.get? b = some o) → ItemsOf P acc n →
      Q₁ (.ref h'.objs.size) { s with heap := h'.push { cls := .type "tuple", data := .seq acc }, toks := tk }) :
    codeAny (model prog w) A (.call (.builtin "tuple.__new__") ⟨[.type "tuple", .ref r], []⟩) (wants Q₁ E) s := by
  refine codeAny_of_tree ?_
  show wpAny _ A.in1 (do checkBuiltinCall "tuple.__new__" ⟨[.type "tuple", .ref r], []⟩; again (.builtin "tuple.__new__" ⟨[.type "tuple", .ref r], []⟩)) _ _ s
  refine wpAny_bind (wpAny_of_eq (F.newCall_tuple_1 _) (wpAny_pure ⟨plainId_quiet F.plain_tuple_new _, codeAny_builtin F.entry_tuple_new ?_⟩))
  rw [Around.under_plainId F.plain_tuple_new _]
  have hsub := sub_tuple_self
  have hinit := init_tuple_lookup
  have hmh := madeHere_tuple
  have hTI : s.TypeIs (.ref r) T := K.type s hok
  have hh1 : A.in1.handled = none := hh
  have hnt := K.notTuple
  wp_walk using wpAny_typeOf hTI, collect_kdl (A := A.in1) K hh1 hok hlen
  intro h' tk acc hk hacc
  show wpAny _ _ (Builtin.Tuple.tupleExact acc.toList.toArray >>= fun v => ret v) _ _ _
  unfold Builtin.Tuple.tupleExact
  refine wpAny_bind (wpAny_newObj_type ?_ (by show acc.toList.toArray.size ≤ sizeLine; simp only [Array.toArray_toList]; rw [hacc.1]; exact hlen))
  refine wpAny_pure ?_
  have e : acc.toList.toArray = acc := by simp
  rw [e]
  exact h h' tk acc hk hacc
theorem call_tuple_kdl {Q : Value → Shared → Prop} (K : KdlSrc prog w T r d n P OK) (hh : A.handled = none) (hok : OK s.heap) (hlen : n ≤ sizeLine)
    (hQ : ∀ (h' : Heap) (tk : Nat) (acc : Array Value), (∀ b o, s.heap.get? b = some o → h'.get? b = some o) → ItemsOf P acc n →
      Q (.ref h'.objs.size) { s with heap := h'.push { cls := .type "tuple", data := .seq acc }, toks := tk }) :
    wpAny (model prog w) A (call (.type "tuple") [.ref r]) Q E s := by
  refine callType_codes (Q₁ := fun obj s₁ => s₁.TypeIs obj "tuple" ∧ Q obj s₁) F.called_tuple (F.typeCall_tuple_1 _) F.entry_object_init
    (code_tuple_new_kdl (A := A.in1) K hh hok hlen fun h' tk acc hk hacc => ⟨⟨_, Heap.get?_push_size _ rfl, rfl⟩, hQ h' tk acc hk hacc⟩) fun obj s₁ h₁ => ?_
  exact ⟨h₁.1, F.args_object_init_2 obj _, object_init_meets F.called_tuple.init.lookup F.called_tuple.made (by decide) prog w A.in1 _ s₁ ⟨h₁.1, rfl, h₁.2⟩⟩
end
section
variable {X : Cx}
/-- tuple(d), d with plain keys: no dict, no slots -/
def cTupD : List V → Hp → VK → Prop := fun xs H Q => ∃ (a : Addr) (kvs : List (Key × V)), xs = [.ref a] ∧ Rd H a (.dK kvs) ∧ ∀ p o, H p = none → o.dict = none → o.slots = #[] → Q (.ref p) (upd H p (.frz o (.tup (kvs.map fun kv => kV kv.1))))
theorem call_tupD (hcalm : X.calm = true) : CallR X (.type "tuple") cTupD := by
  intro pins s σ H xs us Q I r q
  obtain ⟨a, kvs, ex, hd, q⟩ := q
  subst ex
  obtain ⟨u, eu, rx⟩ := vals1 r
  subst eu
  cases rx
  obtain ⟨z, lo, vs, rel, dd⟩ := dk_rd I.hok hd
  obtain ⟨ep, hat⟩ := dd.dictAt
  have ek : (kvs.map fun kv => kV kv.1) = vs.map fun p => kV p.1 := by
    have e := congrArg (List.map kV) rel.keys
    rw [List.map_map, List.map_map] at e
    exact e
  refine call_tuple_kdl (kdl_dict (knd := mixKind X.prog X.w) (kvs := vs) (ep := ep) lo) (I.ok.hd hcalm) hat (by rw [← rel.length]; exact z) fun h' tk acc hk hacc => ?_
  have hv : Vals (vs.map fun p => kV p.1) acc.toList := keys_at (by rw [Array.length_toList]; exact hacc.1) fun j v e => hacc.2 j v (by rw [← Array.getElem?_toList]; exact e)
  have I1 : Inv X pins σ H { s with heap := h', toks := tk } := I.kept (t' := tk) hk
  refine ⟨.ref h'.objs.size, _, I1.laid (t' := tk) (fun b o e => Heap.get?_push_of_some _ e) (Nat.le_refl _) (show ObjOk X.prog X.w _ _ _ (.frz { cls := .type "tuple", data := .seq acc } (.tup (kvs.map fun kv => kV kv.1))) from
    ⟨Heap.get?_push_size _ rfl, by rw [List.length_map]; exact z, acc.toList, by rw [ek]; exact hv, ?_⟩), rfl, q _ _ (I1.hok.fresh (Nat.le_refl _)) rfl rfl⟩
  have e : acc = acc.toList.toArray := by simp
  exact e ▸ IsTup.new _ _
end
section
variable {X : Cx}
theorem pe_never {e : Expr} : PE X e (fun _ _ _ => False) := ⟨fun _ _ _ _ _ _ h => h.elim⟩
variable {CX : CXT} {k j : Nat} {C f : Addr} {fd : FuncData} {ps : List Str} {sp : Sp} {E : L2.St → XK} {x : Str} {p pos : Pos} {e : Expr} {es : List Expr} {t : TA}
/-- C(e, ..) in a try's body -/
def tMakeX (C : Addr) (sp : Sp) (E : L2.St → XK) (t : TA) : TE := fun σ H Q => t σ H fun vs H1 => ∀ x dx, H1 x = none → H1 dx = none → dx ≠ x → sp (.ref x :: vs) (upd (upd H1 dx (.own x)) x (.ins C dx [])) (fun v H2 => v = .non ∧ Q (.ref x) H2) (E σ)
theorem pe_kX (d : Kn X.prog X.w X.K X.mg X.base CX k C x sp) (hr : Room j X.A) (hk : k + 1 ≤ j) (hx : ∀ σ, PassesAt CX X σ (E σ)) (hg : Gl X x) (ha : PA X (e :: es) t) (hdb : (x == ("__debug__" : Str)) = false := by decide)
    (he : starEach (e :: es) X.env = (false, eval e X.env) :: starEach es X.env := by rfl) (hpl : (backTo pos (starEach es X.env)).any (·.1) = false := by rfl) : PE X (.Call (.Name x p) (e :: es) [] pos) (tMakeX C sp E t) := by
  obtain ⟨f, fd, ps, F, M, hb, hm⟩ := d.ex
  refine ⟨fun pins s σ H Q I h => ?_⟩
  refine wpAny_Call_Name_kw (ld_glob I hg hm ?_ hdb)
  refine PySem.W.callWith_K (h₀ := X.base) I.ok.mod.kin M.kp (thn (ha.run pos pins s σ H _ I h) fun us s1 ⟨vs, H1, I1, r, q⟩ => ⟨I1.kIn, ?_⟩) he hpl
  have hq := q (s1.heap.objs.size + 1) s1.heap.objs.size (I1.hok.fresh (Nat.le_succ _)) (I1.hok.fresh (Nat.le_refl _)) (Nat.ne_of_lt (Nat.lt_succ_self _))
  have I2 := Inv.made (C := C) I1
  have r2 : Vals (V.ref (s1.heap.objs.size + 1) :: vs) (Value.ref (s1.heap.objs.size + 1) :: us) := .cons rfl r
  have hl : (Value.ref (s1.heap.objs.size + 1) :: us).length = ps.length := by
    rw [← r2.length]; exact F.len _ _ _ _ hq
  have bb := hb _ (Value.ref (s1.heap.objs.size + 1) :: us) I2.kIn (by rw [List.append_nil]; exact hl)
  rw [List.append_nil] at bb
  refine wpAny_call (make_map (f := f) I1.kIn M.makes M.init (beq_iff_eq.mp M.fn) (codeAny_mono (F.run _ X.stack _ _ ⟨Value.ref (s1.heap.objs.size + 1) :: us, []⟩ (Value.ref (s1.heap.objs.size + 1) :: us) _ _ (E σ) ((hr.mono hk).make C us [])
    (I2.env0.make C us []) bb r2 hq) fun r s' hq' => ?_))
  cases r with
  | error e => exact hx σ _ _ _ e s' I2 hq'
  | ok fl =>
    cases fl with
    | ret u =>
      obtain ⟨v, H', I3, rv, ev, q3⟩ := I2.after hq'
      subst ev
      exact ⟨rv, ⟨V.ref (s1.heap.objs.size + 1), H', I3, rfl, q3⟩⟩
    | next => exact False.elim hq'
    | brk => exact False.elim hq'
    | cont => exact False.elim hq'
end
/-- what a dict comprehension over J wants of its dict at D -/
def DJ (J : It) (g : TG) (tt : TT) (tk tv : TE) (vs : List Nat) (σ : L2.St) (D : Addr) (Qd : Hp → Prop) (H1 : Hp) : Prop := ∃ W : Nat → Nat → Hp → Prop, (∃ m, W 0 m (upd H1 D (.dK []))) ∧ ∀ i m H, W i m H →
  (J.stop i H ∧ Qd H) ∨ (J.go i H ∧ ∃ Nx : Hp → Prop, (∀ H', Nx H' → ∃ m', m' < m ∧ W (i + 1) m' H') ∧ ∀ x H', J.yld i H x H' → g x (wipe σ vs) H' fun σ2 H2 => wipe σ2 vs = wipe σ vs ∧ tt σ2 H2 fun b H3 =>
    if b = true then tk σ2 H3 fun y H4 => tv σ2 H4 fun z H5 => ∃ kvs k, y = kV k ∧ H5 D = some (.dK kvs) ∧ kvs.length < sizeLine ∧ Nx (upd H5 D (.dK (putK kvs k z))) else Nx H3)
theorem tDc_eq {wi : TI} {g : TG} {tt : TT} {tk tv : TE} {vs : List Nat} {σ : L2.St} {H : Hp} {Q : VK} : tDc wi g tt tk tv vs σ H Q = wi σ H fun J H1 => ∀ D, H1 D = none → DJ J g tt tk tv vs σ D (fun H2 => Q (.ref D) H2) H1 := rfl
theorem DJ.tup {K : PySem.W.Frag} {a : Addr} {xs : List V} {g : TG} {tt : TT} {tk tv : TE} {vs : List Nat} {σ : L2.St} {H1 : Hp} {D : Addr} {Qd : Hp → Prop} (Pv : Nat → Hp → Prop) (h0 : Pv 0 (upd H1 D (.dK []))) (hl : ∀ i H, i ≤ xs.length → Pv i H → SqT K H a xs)
    (hs : ∀ i x H, xs[i]? = some x → Pv i H → g x (wipe σ vs) H fun σ2 H2 => wipe σ2 vs = wipe σ vs ∧ tt σ2 H2 fun b H3 =>
      if b = true then tk σ2 H3 fun y H4 => tv σ2 H4 fun z H5 => ∃ kvs k, y = kV k ∧ H5 D = some (.dK kvs) ∧ kvs.length < sizeLine ∧ Pv (i + 1) (upd H5 D (.dK (putK kvs k z))) else Pv (i + 1) H3) (hd : ∀ H, Pv xs.length H → Qd H) : DJ (Itt K a) g tt tk tv vs σ D Qd H1 := dc_tup Pv h0 hl hs hd
/-- isinstance of a pinned exception without a dict -/
theorem call_isP0 {X : Cx} {a : Addr} {oe : Obj} {cls : Value} {d : Option Addr} (hp : (a, oe) ∈ X.pn) (hz : Zc cls d oe) (hf : ∃ vs, oe.data = .fields vs) : CallR X (.builtin "isinstance") (rIs0 X.K a cls d) := by
  intro pins s σ H xs us Q I r h
  obtain ⟨D, c, cv, b, rfl, rfl, ec, rfl, hcv, e, q⟩ := h
  obtain ⟨u1, u2, rfl, ru1, ru2⟩ := vals2 r
  cases ru1
  have e2 := hcv _ ru2
  subst e2
  obtain ⟨hget, _⟩ := I.pin (a, oe) (List.mem_append_left _ hp)
  obtain ⟨vs, hv⟩ := hf
  have J : PySem.W.InstAt s.heap a oe D none := by
    obtain ⟨oc, od, oda, osl⟩ := oe
    obtain ⟨h1, h2⟩ := hz
    dsimp only at h1 h2 hv
    subst h1 h2 hv
    exact ⟨hget, rfl, rfl, trivial⟩
  exact PySem.W.kia_one (PySem.W.handS_kitx_exc ec.hg ec.hk ec.hs ec.hd ec.ha ec.hn ec.ht ec.hm) I.kIn J e (fun z => nomatch z) fun tk => ⟨.bl b, H, I.kept (t' := tk) fun _ _ z => z, rfl, q⟩
theorem is0 {K : PySem.W.Frag} {H : Hp} {Q : VK} {D a : Addr} {c : V} {cv : Value} {b : Bool} (ec : ExcC K D) (hc : ∀ u, RelV c u → u = cv) (hk : PySem.W.kitOne K (.ref D) cv = some b) (q : Q (.bl b) H) : rIs0 K a (.ref D) none [.ref a, c] H Q := ⟨D, c, cv, b, rfl, rfl, ec, rfl, hc, hk, q⟩
end UX

set_option Elab.async false
set_option linter.all false
set_option maxRecDepth 100000
set_option maxHeartbeats 4000000
/-! a classmethod without arguments; own + and |; a classmethod with a star parameter -/
namespace UX
open PySem PySem.Spec PyProof.Rows L2 UL UV UW ClX
section
variable {X : Cx} {CX : CXT} {k j i : Nat} {C : Addr} {sp : Sp} {E : L2.St → XK} {ea eb : Expr} {op : Operator} {m x : Str} {p pos apos : Pos} {ta tb : TE} {pl : Sem Bool}
/-- C.m() -/
theorem pe_cmX0 (d : CMnX X.prog X.w X.K X.mg X.base CX k C x m sp) (hr : Room j X.A) (hk : k ≤ j) (hx : ∀ σ, PassesAt CX X σ (E σ)) (hg : Gl X x) (hdb : (x == ("__debug__" : Str)) = false := by decide)
    (ht : eval (.Call (.Attribute (.Name x p) m apos) [] [] pos) X.env = (do
      let ov ← eval (.Name x p) X.env
      standAt apos.atName
      let (f, first) ← holding [ov] (getMethod ov m pl)
      callWith pos f first (backTo pos (starEach [] X.env)) (backToKw pos (keywordEach [] X.env))) := by rfl) : PE X (.Call (.Attribute (.Name x p) m apos) [] [] pos) (tBCX (fun vs H Q E => sp (.ref C :: vs) H Q E) E tNil) := by
  obtain ⟨q, g, mc, r, c, F, hm⟩ := d.ex
  have gl : PE X (.Name x p) (tC (.ref C)) := C8.pe_gc (v := .ref C) hg ⟨_, hm, rfl⟩ hdb
  refine ⟨fun pins s σ H Q I h => ?_⟩
  refine PySem.W.methodCall_KW (pl := pl) (thn (gl.run pins s σ H (fun x H1 => x = V.ref C ∧ H1 = H) I ⟨rfl, rfl⟩) fun u s1 ⟨x, H1, I1, rx, ex, eH⟩ => ?_) ht
  subst ex eH
  obtain rfl : u = Value.ref C := rx
  refine getmethcm_ok I1 r c fun s2 I2 => ?_
  refine PySem.W.callWith_M0 (first := []) (K := X.K) (g := g) (self := .ref C) ⟨pin_at I2, I2.kIn⟩ c.fi ?_
  have z : wpAny (model X.prog X.w) X.A (call (.ref s1.heap.objs.size) []) (EP X ((s1.heap.objs.size, PySem.W.methodObj (.ref g) (.ref C)) :: pins) σ Q) X.xe s2 :=
    wpAny_call (PySem.W.method_call (pin_at I2) (run_fnRS (us := [.ref C]) (vs := [.ref C]) F (hr.mono hk) (fun s' e c => hx σ _ H1 s2 e s' I2 c) I2 (.cons rfl .nil) h))
  exact thn z fun _ _ y => unpinE y
/-- cls(..), cls the class at C, which may raise -/
def tMakeLX (i : Nat) (C : Addr) (sp : Sp) (E : XK) (t : TA) : TE := fun σ H Q => σ[i]? = some (some (.ref C)) ∧ t σ H fun vs H1 => ∀ x dx, H1 x = none → H1 dx = none → dx ≠ x → sp (.ref x :: vs) (upd (upd H1 dx (.own x)) x (.ins C dx [])) (fun v H2 => v = .non ∧ Q (.ref x) H2) E
theorem pe_makeLX {y : Str} {E : XK} {e : Expr} {es : List Expr} {t : TA} (d : Kn X.prog X.w X.K X.mg X.base CX k C y sp) (hr : Room j X.A) (hk : k + 1 ≤ j) (hN : X.N[i]? = some x) (hv : Vis X.env.scope x) (hx : Passes CX X E) (ha : PA X (e :: es) t)
    (hdb : (x == ("__debug__" : Str)) = false := by decide) (hcd : (x == ("__classdict__" : Str)) = false := by decide)
    (he : starEach (e :: es) X.env = (false, eval e X.env) :: starEach es X.env := by rfl) (hpl : (backTo pos (starEach es X.env)).any (·.1) = false := by rfl) : PE X (.Call (.Name x p) (e :: es) [] pos) (tMakeLX i C sp E t) := by
  obtain ⟨f, fd, ps, F, M, hb, hm⟩ := d.ex
  refine ⟨fun pins s σ H Q I h => ?_⟩
  obtain ⟨hs, ht⟩ := h
  refine wpAny_Call_Name_kw (thn ((pe_var (pos := p) hN hv hdb hcd).run pins s σ H (fun v H1 => v = .ref C ∧ H1 = H) I ⟨.ref C, hs, rfl, rfl⟩) fun u s1 ⟨v, H1, I1, r1, q1⟩ => ?_)
  obtain ⟨rfl, rfl⟩ := q1
  cases r1
  refine PySem.W.callWith_K (h₀ := X.base) I.ok.mod.kin M.kp (thn (ha.run pos pins s1 σ _ _ I1 ht) fun us s2 ⟨vs, H2, I2, r, q⟩ => ⟨I2.kIn, ?_⟩) he hpl
  have q' : ∀ x dx, H2 x = none → H2 dx = none → dx ≠ x → sp (.ref x :: (vs ++ [])) (upd (upd H2 dx (.own x)) x (.ins C dx [])) (fun v H3 => v = .non ∧ Q (.ref x) H3) E := fun x dx h1 h2 h3 => by
    rw [List.append_nil]
    exact q x dx h1 h2 h3
  exact run_make (dvs := []) M F (hr.mono hk) hb .nil hx I2 r q'
/-- inside a comprehension -/
theorem call_lenK (K : PySem.W.Frag) (h : X.K = K) : CallR X (.builtin "len") (cLen K) := h ▸ call_lenA
theorem ix_seqK (K : PySem.W.Frag) (h : X.K = K) : IxR X (rIx K) := h ▸ ix_seq
theorem op_eqK (K : PySem.W.Frag) (h : X.K = K) (hu : X.A.units + 64 < cLine) : OpR X (compareOp .Eq) (rEqA K) := h ▸ op_eqA hu
theorem op_neK (K : PySem.W.Frag) (h : X.K = K) (hu : X.A.units + 64 < cLine) : OpR X (compareOp .NotEq) (rNeA K) := h ▸ op_neA hu
/-- C.f, a constant of the class -/
structure CVn (K : PySem.W.Frag) (mg : Str → Option Value) (x f : Str) (v : V) : Prop where
  ex : ∃ (C : Addr) (mc u : Value), mg x = some (.ref C) ∧ CRead K C mc ∧ CVal K C mc f v u
theorem pe_cv {f : Str} {v : V} (d : CVn X.K X.mg x f v) (hg : Gl X x) (hdb : (x == ("__debug__" : Str)) = false := by decide) (hb : attributeBase (.Name x p) f X.env (eval (.Name x p) X.env) = eval (.Name x p) X.env := by rfl) : PE X (.Attribute (.Name x p) f pos) (tC v) := by
  obtain ⟨C, mc, u, hm, r, k⟩ := d.ex
  have gl : PE X (.Name x p) (tC (.ref C)) := C8.pe_gc (v := .ref C) hg ⟨_, hm, rfl⟩ hdb
  exact ⟨fun pins s σ H Q I h => (pe_cval (pos := pos) gl hb).run pins s σ H Q I ⟨C, mc, v, u, rfl, r, k, h⟩⟩
/-- own binary operator -/
structure BiO (K : PySem.W.Frag) (C f : Addr) (op : Operator) : Prop where
  sf : PySem.W.selfFirst K C = true
  at_ : PySem.W.findIn K (.ref C) (PySem.dunder op.info.2) = some (some (.ref f))
  is : PySem.W.isFn K (.ref f) = true
structure BOn (P : Program) (w : World) (K : PySem.W.Frag) (mg : Str → Option Value) (base : Heap) (CX : CXT) (k : Nat) (C : Addr) (op : Operator) (sp : Sp) : Prop where
  ex : ∃ (f : Addr) (fd : FuncData) (ps : List Str), FnOk P w K mg base CX k f fd ps sp ∧ BiO K C f op ∧ Binds K fd ps []
def tBinX (C : Addr) (sp : Sp) (E : L2.St → XK) (ta tb : TE) : TE := fun σ H Q => ta σ H fun x H1 => tb σ H1 fun y H2 => ∃ a dx fs b dy gs, x = .ref a ∧ y = .ref b ∧ H2 a = some (.ins C dx fs) ∧ H2 b = some (.ins C dy gs) ∧ sp [.ref a, .ref b] H2 Q (E σ)
theorem pe_binX (d : BOn X.prog X.w X.K X.mg X.base CX k C op sp) (hr : Room j X.A) (hk : k ≤ j) (hx : ∀ σ, PassesAt CX X σ (E σ)) (ha : PE X ea ta) (hb : PE X eb tb) : PE X (.BinOp ea op eb pos) (tBinX C sp E ta tb) := by
  obtain ⟨f, fd, ps, F, c, B⟩ := d.ex
  refine ⟨fun pins s σ H Q I h => wpAny_BinOp (binT ha hb I h fun v u s2 x y H2 I2 rx ry q => ?_)⟩
  obtain ⟨a, dx, fs, b, dy, gs, rfl, rfl, e1, e2, q⟩ := q
  cases rx
  cases ry
  obtain ⟨od, J⟩ := inst_of I2 e1
  obtain ⟨od', J'⟩ := inst_of I2 e2
  obtain ⟨m, hF⟩ := I2.fr
  refine PySem.W.binop_K hF I2.ok.mod.kin J J'.type c.sf c.at_ c.is ?_
  refine wpAny_mono (run_fnS (us := [.ref a, .ref b]) (vs := [.ref a, .ref b]) F (hr.mono hk) B (hx σ) I2 (.cons rfl (.cons rfl .nil)) q) (fun w s' z => ?_) fun _ _ x => x
  obtain ⟨z', H', I', rz, qz⟩ := z
  exact SlX.cmpback rz ⟨z', H', I', rz, qz⟩
end
section
variable {P : Program} {w : World} {K : PySem.W.Frag} {mg : Str → Option Value} {base : Heap}
/-- def f(p1, *pv), which may raise -/
theorem fun_starX {x qual : Str} {st : Stmt} {f : Addr} {fd : FuncData} {N : List Str} {p1 pv : Str} {k : Nat} {sp : Sp} (F : Fun K x qual st f fd) (S : FnScope N ([p1] ++ [pv]) (defScope st))
    (hb : ∀ (kV doc pm : Value) (an : Option Addr) (cdv ct : Value), (∀ a, bindArgs (PySem.W.fnOf x qual (defArgs st) (defBody st) (defScope st) .none kV doc pm an cdv ct) ⟨[a], []⟩ = (newTuple [] >>= fun t => pure [(p1, a), (pv, t)])) ∧
      (∀ a r rs, bindArgs (PySem.W.fnOf x qual (defArgs st) (defBody st) (defScope st) .none kV doc pm an cdv ct) ⟨a :: r :: rs, []⟩ = (newTuple (r :: rs) >>= fun t => pure [(p1, a), (pv, t)])))
    (hbody : ∀ (cdv : Value) (A : Around) (outer : List Env) (s : Shared) (H : Hp) (vs : List V) (Q : VK) (E : XK), Room k (A.deeper (envOfC qual (defScope st) s.heap.objs.size f cdv)) → sp vs H Q E →
      ∃ t, PSs (cxOf (L2.CX P w) P w K mg base N qual (defScope st) f cdv A outer s H E) (defBody st) t ∧ t { nx := fun _ H' => Q .non H', rt := Q } (start N vs) H) :
    FnR P w K mg base (L2.CX P w) (k + 1) f (fun vs H Q E => ∃ ws rest, vs = ws ++ rest ∧ ws.length = 1 ∧ rest.length ≤ sizeLine ∧ ∀ p, H p = Option.none → sp (ws ++ [V.ref p]) (upd H p (.tup rest)) Q E) := by
  obtain ⟨oc, od, kV, doc, pm, an, cdv, ct, osl, rfl, lk, hcd⟩ := F.ex
  exact StX.fn_star (ps := [p1]) lk hcd S StX.cxUp (fun us rest hl => StX.bind_star1 (B := fun l => bindArgs (PySem.W.fnOf x qual (defArgs st) (defBody st) (defScope st) .none kV doc pm an cdv ct) ⟨l, []⟩) (hb kV doc pm an cdv ct).1 (hb kV doc pm an cdv ct).2 us rest hl) fun A outer s H vs Q E hr hsp => hbody cdv A outer s H vs Q E hr hsp
end
end UX

set_option Elab.async false
set_option linter.all false
set_option maxRecDepth 100000
set_option maxHeartbeats 4000000
set_option pp.deepTerms true
set_option pp.maxSteps 400000
namespace U
open PySem PySem.Spec PyProof.Rows L2 UL UX
local macro_rules | `(tactic| walk_at "rd") => `(tactic| simp only [sMatch, tJs, tFmt, tBC, tMethA, tMakeL, iEnumS, tSeq, tAsg, tOp, tCB, tCons, tNil, tVar, tC, tB, tTest, tNot, tIfS, tNext, tYes, tUn, rU, tM0, tGFrom, tGThen, tG0, tYfLst, gcxK, tSubO, tProp, tListG, tMethG, tBMF, tFld, sFld, tMeth, tMake, tSl, tNoPart, tPart, tM1, gTup, gCons, gNil, tDrop, tFor_eq, tLc_eq, tLc2_eq, iRng1_eq, StX.tStar, iList, iTup, iStr, iAny_var, iZipB, tLenSetS, wipe, tVar, tAndV, tOrV, tNotV, tOr, tAnd, tLst, tTup, tBM, tBM0, tChain, tCall, cxK, noxK, addII, addSS, mulII, eqII, neII, neSS, cIntI, cAbsI, rI, rI0, rLt, rLe, rGt_, rGe_, rSub_, rMod, rPow, rDivW, rNeg, gName, tRet, L2.start, List.length_cons, List.length_nil, List.map_cons, List.map_nil, List.replicate, List.cons_append, List.nil_append, List.getElem?_cons_zero, List.getElem?_cons_succ, List.set_cons_zero, List.set_cons_succ, Option.some.injEq, exists_eq_left', exists_eq_left, V.int.injEq, V.bl.injEq, V.str.injEq, V.ref.injEq, V.ty.injEq, List.cons.injEq, and_true, true_and, reduceCtorEq, false_and, exists_false, or_false, false_or, exists_and_left, exists_and_right, List.append_nil, forall_eq, decide_eq_true_eq, Bool.not_eq_true, Nat.reduceAdd, Nat.reduceSub, List.replicate_zero, List.replicate_succ, Nat.zero_le, ite_true, ite_false, if_true, if_false])
section
variable {P : Program} {w : World} {K : PySem.W.Frag} {mg : Str → Option Value} {base : Heap}

open UV UW NdefX ClX
variable {IP C : Addr}
theorem pmk_0 {X : Cx} {C : Addr} {x : Str} {sp : Sp} {k j : Nat} {p pos : Pos} (d : Xn X.prog X.w X.K X.mg X.base k C x sp) (hr : Room j X.A) (hk : k + 1 ≤ j) (hg : Gl X x) (hdb : (x == ("__debug__" : Str)) = false := by decide) (hex : X.ex = [] := by rfl) : PMk X (.Call (.Name x p) [] [] pos) (tMk0 C sp) := by
  obtain ⟨f, fd, ps, F, h1, h2, B⟩ := d.ex
  exact made0 d.ox h1 h2 F hr hk B hex hg d.gc hdb
local macro_rules | `(tactic| walk_at "rdx") => `(tactic| simp only [tCons, tNil, tJs, tC, tFmt, tFmtN, tVar, tOst, tSeq, NdefX.startF, L2.start, List.length_cons, List.length_nil, List.map_cons, List.map_nil, List.replicate, List.cons_append, List.nil_append, List.getElem?_cons_zero, List.getElem?_cons_succ, Option.some.injEq, exists_eq_left', exists_eq_left, V.str.injEq, V.int.injEq, V.ref.injEq, reduceCtorEq, false_and, exists_false, or_false, false_or, and_true, true_and, exists_and_left, exists_and_right, Nat.reduceAdd, Nat.reduceSub, Nat.reduceLeDiff, ncK])
abbrev s_IP : Stmt := inClass (top 2) 0
theorem sc_IP : NScope ["self", "__class__"] ["self"] ["__class__"] (defScope s_IP) := nscope_by (by decide +kernel)
def sp_I0 : Addr → Sp := fun C vs H Q _ => ∃ a : Addr, vs = [.ref a] ∧ H a = some (exo a C none) ∧ Q .non H
theorem x_IP {C : Addr} (D : XD P K mg C "InvalidPlan" "InvalidPlan.__init__" s_IP) : Xn P w K mg base 1 C "InvalidPlan" (sp_I0 C) := by
  obtain ⟨f, c, cc, oc, kV, doc, pm, ct, od, an, osl, lk, hcd, F, h1, h2⟩ := D.ex
  refine ⟨⟨f, _, ["self"], fn_sup (N := ["self", "__class__"]) (ps := []) (pl := _) lk hcd sc_IP D.ox F (by decide +kernel) (fun vs H Q E h => ?_) (fun A outer s H vs Q E hr h => ?_), h1, h2, Binds.all fun us hl => match us, hl with | [_], _ => rfl⟩, D.ox, D.gc⟩
  · obtain ⟨a, rfl, _⟩ := h; rfl
  · obtain ⟨a, rfl, ha, q⟩ := h
    refine ⟨a, _, _, rfl, ha, pa_cons pe_str pa_nil, pss_nil, ?_⟩
    walk_at "rdx"
    exact ⟨ha, q⟩
/-- an exception without fields, at a later heap -/
def X0 (C : Addr) (H : Hp) (E : XK) : Prop := ∀ H', Same H H' → E (.ref C) none H'
theorem X0.same {C : Addr} {H H' : Hp} {E : XK} (h : X0 C H E) (s : Same H H') : X0 C H' E := fun H2 s2 => h H2 (Same.tr s s2)
theorem raise0 {IC : Addr} {H : Hp} {E : XK} {σ : L2.St} (h : X0 IC H E) : tMk0 IC (sp_I0 IC) σ H (fun cls d H' => E cls d H') := fun a ha => ⟨a, rfl, upd_same, rfl, upd_same, h _ fun b o e => by
  have n : b ≠ a := ne_of_none e ha
  rw [del_ne n, upd_ne n]; exact e⟩
/-! ### plans -/
structure PnT (K : PySem.W.Frag) (mg : Str → Option Value) (C : Addr) : Prop extends Nm mg where
  n_any : mg "any" = none
  c_Plan : ∃ u, mg "Plan" = some u ∧ RelV (.ref C) u
  cls : Cls K C
  a_lanes : NoAttr K C "lanes"
  cv_MOST_LANES : CVn K mg "Plan" "MOST_LANES" (.int 3)
  cv_MOST_NAMES : CVn K mg "Plan" "MOST_NAMES" (.int 4)
/-- a list or a tuple of the heap -/
def SqW (H : Hp) (a : Addr) (xs : List V) : Prop := Rd H a (.lst xs) ∨ Rd H a (.tup xs)
theorem SqW.sqA {H : Hp} {a : Addr} {xs : List V} (h : SqW H a xs) : SqA K H a xs := h.elim (fun h => ⟨.l, .inl h⟩) fun h => ⟨.t, .inl h⟩
theorem rd_same {H H' : Hp} {a : Addr} {o : HO} (h : Rd H a o) (s : Same H H') : Rd H' a o := h.elim (fun e => .inl (s _ _ e)) fun ⟨ob, e⟩ => .inr ⟨ob, s _ _ e⟩
theorem SqW.same {H H' : Hp} {a : Addr} {xs : List V} (h : SqW H a xs) (s : Same H H') : SqW H' a xs := h.elim (fun h => .inl (rd_same h s)) fun h => .inr (rd_same h s)
theorem rd_ne {H : Hp} {a p : Addr} {o : HO} (h : Rd H a o) (hp : H p = none) : a ≠ p := h.elim (fun e => ne_of_none e hp) fun ⟨_, e⟩ => ne_of_none e hp
theorem rd_but {H H' : Hp} {a p : Addr} {o : HO} (h : Rd H a o) (s : But p H H') (n : a ≠ p) : Rd H' a o := h.elim (fun e => .inl (s _ _ e n)) fun ⟨ob, e⟩ => .inr ⟨ob, s _ _ e n⟩
theorem cTupG_any {a : Addr} {xs : List V} {H : Hp} {Q : VK} (h : SqW H a xs) (q : ∀ t H', Rd H' t (.tup xs) → Same H H' → Q (.ref t) H') : cTupG K [.ref a] H Q := by
  rcases h with h | h
  · exact ⟨a, xs, rfl, .inl ⟨.inl h, fun l o hl _ _ => q l _ (.inr ⟨o, upd_same⟩) (UL.Same.new hl)⟩⟩
  · exact ⟨a, xs, rfl, .inr ⟨.inl h, q a H h fun _ _ z => z⟩⟩
/-- lanes: where each one stands, and its names -/
abbrev Ln := List (Addr × List Str)
def refs (ls : Ln) : List V := ls.map fun l => V.ref l.1
def LnH (H : Hp) (ls : Ln) : Prop := ∀ l ∈ ls, Rd H l.1 (.tup (l.2.map V.str))
def okP (ls : Ln) : Bool := decide (ls.length ≤ 3) && ls.all fun l => decide (l.2.length ≤ 4)
theorem LnH.same {H H' : Hp} {ls : Ln} (h : LnH H ls) (s : Same H H') : LnH H' ls := fun l hl => rd_same (h l hl) s
abbrev s_Plan___init__ : Stmt := inClass (top 4) 2
abbrev sc_Plan___init___N : List Str := ["self", "lanes", ".0", "names"]
theorem sc_Plan___init__ : FnScope sc_Plan___init___N ["self", "lanes"] (defScope s_Plan___init__) := ⟨rfl, rfl, rfl, by decide +kernel, rfl, by decide +kernel, by decide +kernel⟩
-- 0 self, 1 lanes, 2 .0, 3 names
def fsL (t : Addr) : List (Str × V) := [("lanes", .ref t)]
def sp_pinit (K : PySem.W.Frag) (C IP : Addr) : Sp := fun vs H Q E => ∃ (x l dx : Addr) (ls : Ln), vs = [.ref x, .ref l] ∧ H x = some (.ins C dx []) ∧ SqW H l (refs ls) ∧ LnH H ls ∧ ls.length ≤ 1000 ∧ (∀ l ∈ ls, l.2.length ≤ 1000) ∧
  (okP ls = true → ∀ H' t, H' x = some (.ins C dx (fsL t)) → Rd H' t (.tup (refs ls)) → But x H H' → Q .non H') ∧ (okP ls = false → X0 IP H E)
theorem m_pinit (T : PnT K mg C) (D : MD K C "__init__" "Plan.__init__" s_Plan___init__) (x_InvalidPlan : Xn P w K mg base 1 IP "InvalidPlan" (sp_I0 IP)) : Mn P w K mg base (L2.CX P w) 4 C "__init__" (sp_pinit K C IP) := by
  refine D.mx sc_Plan___init__ (fun _ _ _ _ _ _ us hl => match us, hl with | [_, _], _ => rfl) (fun vs H Q E h => ?_) (fun f cdv A outer s H vs Q E hr h => ?_)
  · obtain ⟨x, l, dx, ls, rfl, _⟩ := h; rfl
  · obtain ⟨x, l, dx, ls, rfl, hx, hl, hls, hn, hz, q, qx⟩ := h
    refine ⟨_, (pss_cons (ps_if (pw_or (pt_cmpR op_gtA (pe_callB call_lenA (by rfl) T.n_len (by decide +kernel) (pa_cons (pv 1) pa_nil)) (pe_cv T.cv_MOST_LANES (by rfl)) (nomark _)) (pw_or1 (pt_val (pe_callB (cr_any rfl) (by rfl) T.n_any (by decide +kernel) (pa_cons (pe_lc (own := [(".0", 2), ("names", 3)]) (g := (gName 3)) (tt := tYes) rfl sc_Plan___init__.nd (pi_any (pv 1)) (blkOk_by (N := sc_Plan___init___N) (sc := defScope s_Plan___init__) (by decide +kernel)) (fun _ _ _ _ _ => pg_name (i := 3) sc_Plan___init__.nd rfl (Or.inl rfl)) (fun _ _ _ _ _ => pts_nil) (fun _ _ _ _ _ => (pe_cmpR op_gtA (pe_callB (call_lenK K rfl) (by rfl) T.n_len (by decide +kernel) (pa_cons (pv 3) pa_nil)) (pe_cv T.cv_MOST_NAMES (by rfl)) (nomark _)))) pa_nil))))).pt (pss_one (ps_raise rfl (takes_of rfl rfl rfl rfl) (pmk_0 x_InvalidPlan hr (by decide) (by rfl)))) pss_nil)
      (pss_one (ps_fld (pv 0) (pe_callTy call_tupG (by rfl) T.n_tuple (by decide +kernel) (pa_cons (pv 1) pa_nil)) rfl))), ?_⟩
    walk_at "rd"
    have lr : (refs ls).length = ls.length := by unfold refs; rw [List.length_map]
    obtain ⟨k, hk⟩ := SqW.sqA (K := K) hl
    refine Kd.len hk ⟨_, rfl, ?_⟩
    rw [lr]
    by_cases c1 : 3 < ls.length
    · rw [if_pos (by omega)]
      exact raise0 (qx (by unfold okP; rw [decide_eq_false (by omega)]; rfl))
    rw [if_neg (by omega)]
    refine ⟨k, ⟨_, hk⟩, fun D hD => LJ.it (walk_any (xs := refs ls) k) (fun i H2 => H2 D = some (.lst (((ls.take i).map fun l => decide (4 < l.2.length)).map V.bl)) ∧ Same H H2) ⟨upd_same, UL.Same.new hD⟩ (fun i H2 _ inv => Kd.same inv.2 hk) (fun i y H2 H3 hi inv yy => ?_) fun H2 inv => ?_⟩
    · obtain ⟨hD2, s2⟩ := inv
      obtain ⟨rfl, hx⟩ := yy
      refine ⟨rfl, ?_⟩
      walk_at "rd"
      rw [lr] at hi
      have ex : y = V.ref ls[i].1 := by
        unfold refs at hx
        rw [List.getElem?_map, List.getElem?_eq_getElem hi] at hx; exact (Option.some.inj hx).symm
      subst ex
      have et : ls.take (i + 1) = ls.take i ++ [ls[i]] := by rw [List.take_add_one, List.getElem?_eq_getElem hi]; rfl
      refine lenT (.inl (rd_same (hls _ (List.getElem_mem hi)) s2)) ⟨_, rfl, _, hD2, by simp [sizeLine_eq]; omega, ?_, UL.Same.put s2 hD⟩
      rw [upd_same, et, List.map_append, List.map_append, List.length_map]
      congr 3
      simp only [List.map_cons, List.map_nil]
      congr 2
      exact decide_eq_decide.mpr (by omega)
    · obtain ⟨hD2, s2⟩ := inv
      rw [lr, List.take_length] at hD2
      refine ⟨D, _, rfl, .inl (.inl hD2), _, rfl, ?_⟩
      have e3 : (ls.map fun l => decide (4 < l.2.length)).any id = !(ls.all fun l => decide (l.2.length ≤ 4)) := by
        rw [List.any_map, List.not_all_eq_any_not]
        congr 1
        funext l
        show decide (4 < l.2.length) = !decide (l.2.length ≤ 4)
        rw [← decide_not]
        exact decide_eq_decide.mpr (by omega)
      rw [e3]
      cases c3 : ls.all fun l => decide (l.2.length ≤ 4) with
      | false =>
        rw [if_pos (by decide)]
        exact raise0 ((qx (by unfold okP; rw [c3, Bool.and_false])).same s2)
      | true =>
        rw [if_neg (by decide)]
        have q := q (by unfold okP; rw [c3, decide_eq_true (by omega)]; rfl)
        refine cTupG_any (hl.same s2) fun t H4 ht s4 => ⟨C, dx, [], s4 _ _ (s2 _ _ hx), T.cls, T.a_lanes, by decide, ?_⟩
        have hx4 := s4 _ _ (s2 _ _ hx)
        refine q _ t upd_same ?_ fun b o e n => ?_
        · rcases ht with e | ⟨ob, e⟩
          · exact .inl (by rw [upd_ne (fun z => by rw [z, hx4] at e; cases e)]; exact e)
          · exact .inr ⟨ob, by rw [upd_ne (fun z => by rw [z, hx4] at e; cases e)]; exact e⟩
        · rw [upd_ne n]; exact s4 _ _ (s2 _ _ e)
/-- a plan, as it stands -/
def PlO (C : Addr) (H : Hp) (a : Addr) (ls : Ln) : Prop := ∃ dx t, H a = some (.ins C dx (fsL t)) ∧ Rd H t (.tup (refs ls)) ∧ LnH H ls
theorem PlO.same {H H' : Hp} {a : Addr} {ls : Ln} (h : PlO C H a ls) (s : Same H H') : PlO C H' a ls := let ⟨dx, t, e, r, l⟩ := h; ⟨dx, t, s _ _ e, rd_same r s, l.same s⟩
theorem PlO.ne {H : Hp} {a p : Addr} {ls : Ln} (h : PlO C H a ls) (hp : H p = none) : a ≠ p := let ⟨_, _, e, _⟩ := h; ne_of_none e hp
/-- Plan(..) of lanes that stand -/
theorem made {H : Hp} {l : Addr} {ls : Ln} {Q : VK} {E : XK} (hl : SqW H l (refs ls)) (hls : LnH H ls) (hn : ls.length ≤ 1000) (hz : ∀ l ∈ ls, l.2.length ≤ 1000) (q : okP ls = true → ∀ x H', PlO C H' x ls → Same H H' → Q (.ref x) H') (qx : okP ls = false → X0 IP H E) {x dx : Addr} (hx : H x = none) (hdx : H dx = none) (ne : dx ≠ x) :
    sp_pinit K C IP [.ref x, .ref l] (upd (upd H dx (.own x)) x (.ins C dx [])) (fun v H2 => v = .non ∧ Q (.ref x) H2) E := by
  have sm : Same H (upd (upd H dx (.own x)) x (.ins C dx [])) := UL.Same.put (UL.Same.new hdx) hx
  refine ⟨x, l, dx, ls, rfl, upd_same, hl.same sm, hls.same sm, hn, hz, fun o H' t h1 h2 h3 => ⟨rfl, ?_⟩, fun o => (qx o).same sm⟩
  have s2 : Same H H' := fun b u e => h3 _ _ (sm _ _ e) (ne_of_none e hx)
  exact q o x H' ⟨dx, t, h1, h2, hls.same s2⟩ s2
abbrev s_Plan_of : Stmt := inClass (top 4) 3
abbrev sc_Plan_of_N : List Str := ["cls", "names"]
theorem sc_Plan_of : FnScope sc_Plan_of_N ["cls", "names"] (defScope s_Plan_of) := ⟨rfl, rfl, rfl, by decide +kernel, rfl, by decide +kernel, by decide +kernel⟩
-- 0 cls, 1 names
def sp_of (C IP : Addr) : Sp := fun vs H Q E => ∃ ns : List Str, vs = V.ref C :: ns.map V.str ∧ ns.length ≤ 1000 ∧ (ns.length ≤ 4 → ∀ x r H', PlO C H' x [(r, ns)] → Same H H' → Q (.ref x) H') ∧ (4 < ns.length → X0 IP H E)
theorem f_of (T : PnT K mg C) {f0 : Addr} {fd : FuncData} (F : Fun K "of" "Plan.of" s_Plan_of f0 fd) (K_Plan : Kn P w K mg base (L2.CX P w) 4 C "Plan" (sp_pinit K C IP)) : FnR P w K mg base (L2.CX P w) 6 f0 (sp_of C IP) := by
  refine (fun_starX (sp := fun vs H Q E => ∃ (p : Addr) (ns : List Str), vs = [.ref C, .ref p] ∧ Rd H p (.tup (ns.map V.str)) ∧ ns.length ≤ 1000 ∧ (ns.length ≤ 4 → ∀ x H', PlO C H' x [(p, ns)] → Same H H' → Q (.ref x) H') ∧ (4 < ns.length → X0 IP H E)) (p1 := "cls") (pv := "names") F sc_Plan_of (fun _ _ _ _ _ _ => ⟨fun _ => rfl, fun _ _ _ => rfl⟩) fun cdv A outer s H vs Q E hr h => ?_).imp fun vs H Q E h => ?_
  · obtain ⟨p, ns, rfl, hp, hn, q, qx⟩ := h
    refine ⟨_, (pss_one (ps_ret (pe_makeLX K_Plan hr (by decide) (i := 0) rfl (Or.inl rfl) (passes_call (takes_of rfl rfl rfl rfl) (fun _ _ _ _ h => h)) (pa_cons (pe_lst (pa_cons (pv 1) pa_nil)) pa_nil)))), ?_⟩
    walk_at "rd"
    unfold tMakeLX
    walk_at "rd"
    refine ⟨by rw [sizeLine_eq]; decide, fun l hl x dx hx hdx ne => made (ls := [(p, ns)]) (.inl (.inl upd_same)) (fun l h => by rw [List.mem_singleton.mp h]; exact rd_same hp (UL.Same.new hl)) (by simp) (fun l h => by rw [List.mem_singleton.mp h]; exact hn) (fun o x H' pl s => q ?_ x H' pl (Same.tr (UL.Same.new hl) s)) (fun o => (qx ?_).same (UL.Same.new hl)) hx hdx ne⟩
    · simp only [okP, List.all_cons, List.all_nil, Bool.and_true, Bool.and_eq_true, decide_eq_true_eq] at o
      exact o.2
    · simp only [okP, List.all_cons, List.all_nil, Bool.and_true, Bool.and_eq_false_iff, decide_eq_false_iff_not, List.length_cons, List.length_nil] at o
      omega
  · obtain ⟨ns, rfl, hn, q, qx⟩ := h
    refine ⟨[.ref C], ns.map V.str, rfl, rfl, by rw [List.length_map, sizeLine_eq]; omega, fun p hp => ⟨p, ns, rfl, .inl upd_same, hn, fun h x H' o s => q h x p H' o (Same.tr (UL.Same.new hp) s), fun h => (qx h).same (UL.Same.new hp)⟩⟩
abbrev s_Plan_empty : Stmt := inClass (top 4) 4
abbrev sc_Plan_empty_N : List Str := ["cls"]
theorem sc_Plan_empty : FnScope sc_Plan_empty_N ["cls"] (defScope s_Plan_empty) := ⟨rfl, rfl, rfl, by decide +kernel, rfl, by decide +kernel, by decide +kernel⟩
-- 0 cls
def sp_empty (C : Addr) : Sp := fun vs H Q E => vs = [.ref C] ∧ ∀ x H', PlO C H' x [] → Same H H' → Q (.ref x) H'
theorem f_empty (T : PnT K mg C) {f0 : Addr} {fd : FuncData} (F : Fun K "empty" "Plan.empty" s_Plan_empty f0 fd) (K_Plan : Kn P w K mg base (L2.CX P w) 4 C "Plan" (sp_pinit K C IP)) : FnOk P w K mg base (L2.CX P w) 6 f0 fd ["cls"] (sp_empty C) := by
  refine F.okX sc_Plan_empty (fun vs H Q E h => ?_) (fun cdv A outer s H vs Q E hr h => ?_)
  · obtain ⟨rfl, _⟩ := h; rfl
  · obtain ⟨rfl, q⟩ := h
    refine ⟨_, (pss_one (ps_ret (pe_makeLX K_Plan hr (by decide) (i := 0) rfl (Or.inl rfl) (passes_call (takes_of rfl rfl rfl rfl) (fun _ _ _ _ h => h)) (pa_cons (pe_lst pa_nil) pa_nil)))), ?_⟩
    walk_at "rd"
    unfold tMakeLX
    walk_at "rd"
    exact (fun l hl x dx hx hdx ne => made (ls := []) (IP := IP) (.inl (.inl upd_same)) (fun l h => nomatch h) (by decide) (fun l h => nomatch h) (fun o x H' pl s => q x H' pl (Same.tr (UL.Same.new hl) s)) (fun o => by cases o) hx hdx ne)
abbrev s_Plan___add__ : Stmt := inClass (top 4) 5
abbrev sc_Plan___add___N : List Str := ["self", "other"]
theorem sc_Plan___add__ : FnScope sc_Plan___add___N ["self", "other"] (defScope s_Plan___add__) := ⟨rfl, rfl, rfl, by decide +kernel, rfl, by decide +kernel, by decide +kernel⟩
-- 0 self, 1 other
def sp_add (C IP : Addr) : Sp := fun vs H Q E => ∃ (a b : Addr) (xs ys : Ln), vs = [.ref a, .ref b] ∧ PlO C H a xs ∧ PlO C H b ys ∧ xs.length ≤ 3 ∧ ys.length ≤ 3 ∧ (∀ l ∈ xs, l.2.length ≤ 4) ∧ (∀ l ∈ ys, l.2.length ≤ 4) ∧
  (∀ x y, xs = [x] → ys = [y] → x.2.length + y.2.length ≤ 4 → ∀ c r H', PlO C H' c [(r, x.2 ++ y.2)] → Same H H' → Q (.ref c) H') ∧
  ((∀ x y, xs = [x] → ys = [y] → 4 < x.2.length + y.2.length) → X0 IP H E)
theorem m_add (T : PnT K mg C) (D : MD K C "__add__" "Plan.__add__" s_Plan___add__) (x_InvalidPlan : Xn P w K mg base 1 IP "InvalidPlan" (sp_I0 IP)) (k_Plan : Kn P w K mg base (L2.CX P w) 4 C "Plan" (sp_pinit K C IP)) : Mn P w K mg base (L2.CX P w) 6 C "__add__" (sp_add C IP) := by
  refine D.mx sc_Plan___add__ (fun _ _ _ _ _ _ us hl => match us, hl with | [_, _], _ => rfl) (fun vs H Q E h => ?_) (fun f cdv A outer s H vs Q E hr h => ?_)
  · obtain ⟨a, b, xs, ys, rfl, _⟩ := h; rfl
  · obtain ⟨a, b, xs, ys, rfl, ha, hb, hx, hy, hx4, hy4, q, qx⟩ := h
    refine ⟨_, (pss_cons (ps_if (pw_or (pt_cmpR (op_neA (hr.units)) (pe_callB call_lenA (by rfl) T.n_len (by decide +kernel) (pa_cons (pe_fld (pv 0) (by rfl)) pa_nil)) pe_int (nomark _)) (pw_or1 (pt_cmpR (op_neA (hr.units)) (pe_callB call_lenA (by rfl) T.n_len (by decide +kernel) (pa_cons (pe_fld (pv 1) (by rfl)) pa_nil)) pe_int (nomark _)))).pt (pss_one (ps_raise rfl (takes_of rfl rfl rfl rfl) (pmk_0 x_InvalidPlan hr (by decide) (by rfl)))) pss_nil)
      (pss_one (ps_ret (pe_k k_Plan hr (by decide) (passes_call (takes_of rfl rfl rfl rfl) (fun _ _ _ _ h => h)) (by rfl) (pa_cons (pe_lst (pa_cons (pe_op op_addA (pe_ix ix_seq (pe_fld (pv 0) (by rfl)) pe_int (fun _ _ => rfl)) (pe_ix ix_seq (pe_fld (pv 1) (by rfl)) pe_int (fun _ _ => rfl))) pa_nil)) pa_nil))))), ?_⟩
    walk_at "rd"
    obtain ⟨da, ta, ha1, ha2, ha3⟩ := ha
    obtain ⟨db, tb, hb1, hb2, hb3⟩ := hb
    have lr : ∀ ls : Ln, (refs ls).length = ls.length := fun ls => by unfold refs; rw [List.length_map]
    refine ⟨C, da, _, ha1, T.cls, T.a_lanes, .ref ta, rfl, lenT (.inl ha2) (neII.mpr ⟨_, rfl, ?_⟩)⟩
    rw [lr]
    by_cases c1 : xs.length = 1
    · rw [if_neg (by simp [c1])]
      obtain ⟨x, rfl⟩ := List.length_eq_one_iff.mp c1
      refine ⟨C, db, _, hb1, T.cls, T.a_lanes, .ref tb, rfl, lenT (.inl hb2) (neII.mpr ⟨_, rfl, ?_⟩)⟩
      rw [lr]
      by_cases c2 : ys.length = 1
      · rw [if_neg (by simp [c2])]
        obtain ⟨y, rfl⟩ := List.length_eq_one_iff.mp c2
        refine ⟨C, da, _, ha1, T.cls, T.a_lanes, .ref ta, rfl, ixT (v := .ref x.1) (.inl ha2) (atN (n := 0) rfl) ⟨C, db, _, hb1, T.cls, T.a_lanes, .ref tb, rfl, ixT (v := .ref y.1) (.inl hb2) (atN (n := 0) rfl) ?_⟩⟩
        have hx1 := ha3 x List.mem_cons_self
        have hy1 := hb3 y List.mem_cons_self
        have lx := hx4 x List.mem_cons_self
        have ly := hy4 y List.mem_cons_self
        have key : ∀ (r : Addr) (H1 : Hp), Rd H1 r (.tup ((x.2 ++ y.2).map V.str)) → Same H H1 → 1 ≤ sizeLine ∧ ∀ (p : Addr), H1 p = none → ∀ (x_11 dx : Addr), upd H1 p (HO.lst [V.ref r]) x_11 = none → upd H1 p (HO.lst [V.ref r]) dx = none → dx ≠ x_11 →
            sp_pinit K C IP [V.ref x_11, V.ref p] (upd (upd (upd H1 p (HO.lst [V.ref r])) dx (HO.own x_11)) x_11 (HO.ins C dx [])) (fun v H2 => v = V.non ∧ Q (V.ref x_11) H2) E := fun r H1 hr1 s1 =>
          ⟨by rw [sizeLine_eq]; decide, fun l hl x' dx hx hdx ne => made (ls := [(r, x.2 ++ y.2)]) (.inl (.inl upd_same)) (fun l h => by rw [List.mem_singleton.mp h]; exact rd_same hr1 (UL.Same.new hl)) (by simp) (fun l h => by rw [List.mem_singleton.mp h, List.length_append]; omega)
            (fun o c H' pl s => q x y rfl rfl (by
              simp only [okP, List.all_cons, List.all_nil, Bool.and_true, Bool.and_eq_true, decide_eq_true_eq, List.length_append] at o
              exact o.2) c r H' pl (Same.tr s1 (Same.tr (UL.Same.new hl) s)))
            (fun o => (qx (fun x' y' ex ey => by
              cases ex
              cases ey
              simp only [okP, List.all_cons, List.all_nil, Bool.and_true, Bool.and_eq_false_iff, decide_eq_false_iff_not, List.length_cons, List.length_nil, List.length_append] at o
              omega)).same (Same.tr s1 (UL.Same.new hl))) hx hdx ne⟩
        refine .inr (.inr (.inl ⟨x.1, y.1, x.2.map V.str, y.2.map V.str, rfl, rfl, .inl hx1, .inl hy1, by rw [List.length_map, List.length_map, sizeLine_eq]; omega, fun e => ?_, fun e e2 => ?_, fun e e2 p hp => ?_⟩))
        · exact key y.1 H (by rw [List.map_append, e]; exact hy1) fun _ _ z => z
        · exact key x.1 H (by rw [List.map_append, e2, List.append_nil]; exact hx1) fun _ _ z => z
        · exact key p _ (.inl (by rw [List.map_append]; exact upd_same)) (UL.Same.new hp)
      · rw [if_pos (by simp; omega)]
        exact raise0 (qx fun x' y' _ e => absurd (by rw [e]; rfl) c2)
    · rw [if_pos (by simp; omega)]
      exact raise0 (qx fun x' y' e _ => absurd (by rw [e]; rfl) c1)
abbrev s_Plan___or__ : Stmt := inClass (top 4) 6
abbrev sc_Plan___or___N : List Str := ["self", "other"]
theorem sc_Plan___or__ : FnScope sc_Plan___or___N ["self", "other"] (defScope s_Plan___or__) := ⟨rfl, rfl, rfl, by decide +kernel, rfl, by decide +kernel, by decide +kernel⟩
-- 0 self, 1 other
def sp_or (C IP : Addr) : Sp := fun vs H Q E => ∃ (a b : Addr) (xs ys : Ln), vs = [.ref a, .ref b] ∧ PlO C H a xs ∧ PlO C H b ys ∧ xs.length ≤ 3 ∧ ys.length ≤ 3 ∧ (∀ l ∈ xs, l.2.length ≤ 4) ∧ (∀ l ∈ ys, l.2.length ≤ 4) ∧
  (xs.length + ys.length ≤ 3 → ∀ c H', PlO C H' c (xs ++ ys) → Same H H' → Q (.ref c) H') ∧ (3 < xs.length + ys.length → X0 IP H E)
theorem m_or (T : PnT K mg C) (D : MD K C "__or__" "Plan.__or__" s_Plan___or__) (k_Plan : Kn P w K mg base (L2.CX P w) 4 C "Plan" (sp_pinit K C IP)) : Mn P w K mg base (L2.CX P w) 6 C "__or__" (sp_or C IP) := by
  refine D.mx sc_Plan___or__ (fun _ _ _ _ _ _ us hl => match us, hl with | [_, _], _ => rfl) (fun vs H Q E h => ?_) (fun f cdv A outer s H vs Q E hr h => ?_)
  · obtain ⟨a, b, xs, ys, rfl, _⟩ := h; rfl
  · obtain ⟨a, b, xs, ys, rfl, ha, hb, hx, hy, hx4, hy4, q, qx⟩ := h
    refine ⟨_, (pss_one (ps_ret (pe_k k_Plan hr (by decide) (passes_call (takes_of rfl rfl rfl rfl) (fun _ _ _ _ h => h)) (by rfl) (pa_cons (pe_op op_addA (pe_fld (pv 0) (by rfl)) (pe_fld (pv 1) (by rfl))) pa_nil)))), ?_⟩
    walk_at "rd"
    obtain ⟨da, ta, ha1, ha2, ha3⟩ := ha
    obtain ⟨db, tb, hb1, hb2, hb3⟩ := hb
    have lr : ∀ ls : Ln, (refs ls).length = ls.length := fun ls => by unfold refs; rw [List.length_map]
    have hz : ∀ l ∈ xs ++ ys, l.2.length ≤ 4 := fun l h => (List.mem_append.mp h).elim (hx4 l) (hy4 l)
    have key : ∀ (p : Addr) (H1 : Hp), Rd H1 p (.tup (refs (xs ++ ys))) → Same H H1 → ∀ (x dx : Addr), H1 x = none → H1 dx = none → dx ≠ x → sp_pinit K C IP [V.ref x, V.ref p] (upd (upd H1 dx (HO.own x)) x (HO.ins C dx [])) (fun v H2 => v = V.non ∧ Q (V.ref x) H2) E := fun p H1 hp s x dx hx' hdx ne =>
      made (ls := xs ++ ys) (.inr hp) (fun l h => (List.mem_append.mp h).elim (fun h => rd_same (ha3 l h) s) fun h => rd_same (hb3 l h) s) (by rw [List.length_append]; omega) (fun l h => by have := hz l h; omega)
        (fun o x H' pl s' => q (by unfold okP at o; rw [Bool.and_eq_true, decide_eq_true_eq, List.length_append] at o; exact o.1) x H' pl (Same.tr s s'))
        (fun o => (qx (by
          unfold okP at o
          rw [Bool.and_eq_false_iff, decide_eq_false_iff_not, List.length_append] at o
          refine o.elim (fun h => by omega) fun h => ?_
          rw [List.all_eq_false] at h
          obtain ⟨l, hl, hn⟩ := h
          exact absurd (decide_eq_true (hz l hl)) hn)).same s) hx' hdx ne
    have er : refs (xs ++ ys) = refs xs ++ refs ys := by unfold refs; rw [List.map_append]
    refine ⟨C, da, _, ha1, T.cls, T.a_lanes, .ref ta, rfl, C, db, _, hb1, T.cls, T.a_lanes, .ref tb, rfl, .inr (.inr (.inl ⟨ta, tb, refs xs, refs ys, rfl, rfl, .inl ha2, .inl hb2, by rw [lr, lr, sizeLine_eq]; omega, fun e => ?_, fun e e2 => ?_, fun e e2 p hp => ?_⟩))⟩
    · exact key tb H (by rw [er, e]; exact hb2) fun _ _ z => z
    · exact key ta H (by rw [er, e2, List.append_nil]; exact ha2) fun _ _ z => z
    · exact key p _ (.inl (by rw [er]; exact upd_same)) (UL.Same.new hp)
end
end U

set_option Elab.async false
set_option linter.all false
set_option maxRecDepth 100000
set_option maxHeartbeats 4000000
set_option pp.deepTerms true
set_option pp.maxSteps 400000
namespace U
open PySem PySem.Spec PyProof.Rows L2 UL UX
local macro_rules | `(tactic| walk_at "rd") => `(tactic| simp only [sMatch, tJs, tFmt, tBC, tMethA, tMakeL, iEnumS, tSeq, tAsg, tOp, tCB, tCons, tNil, tVar, tC, tB, tTest, tNot, tIfS, tNext, tYes, tUn, rU, tM0, tGFrom, tGThen, tG0, tYfLst, gcxK, tSubO, tProp, tListG, tMethG, tBMF, tFld, sFld, tMeth, tMake, tSl, tNoPart, tPart, tM1, gTup, gCons, gNil, tDrop, tFor_eq, tLc_eq, tLc2_eq, iRng1_eq, StX.tStar, iList, iTup, iStr, iAny_var, iZipB, tLenSetS, wipe, tVar, tAndV, tOrV, tNotV, tOr, tAnd, tLst, tTup, tBM, tBM0, tChain, tCall, cxK, noxK, addII, addSS, mulII, eqII, neII, neSS, cIntI, cAbsI, rI, rI0, rLt, rLe, rGt_, rGe_, rSub_, rMod, rPow, rDivW, rNeg, gName, tRet, L2.start, List.length_cons, List.length_nil, List.map_cons, List.map_nil, List.replicate, List.cons_append, List.nil_append, List.getElem?_cons_zero, List.getElem?_cons_succ, List.set_cons_zero, List.set_cons_succ, Option.some.injEq, exists_eq_left', exists_eq_left, V.int.injEq, V.bl.injEq, V.str.injEq, V.ref.injEq, V.ty.injEq, List.cons.injEq, and_true, true_and, reduceCtorEq, false_and, exists_false, or_false, false_or, exists_and_left, exists_and_right, List.append_nil, forall_eq, decide_eq_true_eq, Bool.not_eq_true, Nat.reduceAdd, Nat.reduceSub, List.replicate_zero, List.replicate_succ, Nat.zero_le, ite_true, ite_false, if_true, if_false])
section
variable {P : Program} {w : World} {K : PySem.W.Frag} {mg : Str → Option Value} {base : Heap}

open UV UW NdefX ClX
variable {IP C WE : Addr}
abbrev s__law_is_number : Stmt := top 6
abbrev sc__law_is_number_N : List Str := ["_law_actual"]
theorem sc__law_is_number : FnScope sc__law_is_number_N ["_law_actual"] (defScope s__law_is_number) := ⟨rfl, rfl, rfl, by decide +kernel, rfl, by decide +kernel, by decide +kernel⟩
-- 0 _law_actual
def sp_isnum : Sp := fun vs H Q _ => ∃ i : Int, vs = [.int i] ∧ Q (.bl true) H
theorem d_isnum (T : Nm mg) (D : TD K mg "_law_is_number" s__law_is_number) : Dn P w K mg base CX0 1 "_law_is_number" sp_isnum := by
  refine D.dn sc__law_is_number (fun _ _ _ _ _ _ us hl => match us, hl with | [_], _ => rfl) (fun vs H Q E h => ?_) (fun f cdv A outer s H vs Q E hr h => ?_)
  · obtain ⟨i, rfl, _⟩ := h; rfl
  · obtain ⟨i, rfl, q⟩ := h
    refine ⟨_, (pss_one (ps_ret (pe_and (pe_callB call_isi (by rfl) T.n_isinstance (by decide +kernel) (pa_cons (pv 0) (pa_cons (pe_bltn (v := .ty "int") (by rfl) T.n_int (by decide +kernel) rfl) pa_nil))) (pe_one (pe_not (pe_callB call_isi (by rfl) T.n_isinstance (by decide +kernel) (pa_cons (pv 0) (pa_cons (pe_bltn (v := .ty "bool") (by rfl) T.n_bool (by decide +kernel) rfl) pa_nil)))))))), ?_⟩
    walk_at "rd"
    refine isiI (r := true) (by rfl) ⟨true, rfl, ?_⟩
    rw [if_pos rfl]
    exact isiI (r := false) (by rfl) ⟨false, rfl, q⟩
structure LnX (K : PySem.W.Frag) (mg : Str → Option Value) (C IP WE : Addr) : Prop extends PnT K mg C where
  n_ValueError : mg "ValueError" = none
  c_WeaveError : ∃ u, mg "WeaveError" = some u ∧ RelV (.ref WE) u
  g_IP : mg "InvalidPlan" = some (.ref IP)
  ecI : ExcC K IP
  ii : PySem.W.exmOne K (.ref IP) (.ref IP) = some true
  iw : PySem.W.kitOne K (.ref IP) (.ref WE) = some true
  iv : PySem.W.kitOne K (.ref IP) (.type "ValueError") = some true
/-- a model of a plan: a list of lists -/
def MoO (H : Hp) (a : Addr) (ms : Ln) : Prop := H a = some (.lst (refs ms)) ∧ ∀ l ∈ ms, H l.1 = some (.lst (l.2.map V.str))
theorem MoO.same {H H' : Hp} {a : Addr} {ms : Ln} (h : MoO H a ms) (s : Same H H') : MoO H' a ms := ⟨s _ _ h.1, fun l hl => s _ _ (h.2 l hl)⟩
def dueL (w : Bool) (xs ys : List (List Str)) : Option (List (List Str)) :=
  if w = true then (if 3 < xs.length + ys.length then none else some (xs ++ ys)) else
    match xs, ys with
    | [x], [y] => if 4 < x.length + y.length then none else some [x ++ y]
    | _, _ => none
abbrev nms (ls : Ln) : List (List Str) := ls.map (·.2)
theorem nms_one {ls : Ln} {x : List Str} (h : nms ls = [x]) : ∃ r, ls = [(r, x)] := by
  match ls, h with
  | [(r, y)], h => exact ⟨r, by cases h; rfl⟩
theorem refs_len (ls : Ln) : (refs ls).length = ls.length := by unfold refs; rw [List.length_map]
theorem nms_len (ls : Ln) : (nms ls).length = ls.length := List.length_map _
theorem due_or {xs ys : Ln} (h : xs.length + ys.length ≤ 3) : dueL true (nms xs) (nms ys) = some (nms (xs ++ ys)) := by
  unfold dueL; rw [if_pos rfl, if_neg (by rw [nms_len, nms_len]; omega)]; simp [nms]
theorem due_or0 {xs ys : Ln} (h : 3 < xs.length + ys.length) : dueL true (nms xs) (nms ys) = none := by
  unfold dueL; rw [if_pos rfl, if_pos (by rw [nms_len, nms_len]; omega)]
theorem due_add {x y : Addr × List Str} (h : x.2.length + y.2.length ≤ 4) : dueL false (nms [x]) (nms [y]) = some [x.2 ++ y.2] := by
  unfold dueL; rw [if_neg (by decide)]; simp only [nms, List.map_cons, List.map_nil]; rw [if_neg (by omega)]
theorem due_add0 {xs ys : Ln} (h : ∀ x y, xs = [x] → ys = [y] → 4 < x.2.length + y.2.length) : dueL false (nms xs) (nms ys) = none := by
  unfold dueL
  rw [if_neg (by decide)]
  match xs, ys, h with
  | [x], [y], h => simp only [nms, List.map_cons, List.map_nil]; rw [if_pos (h x y rfl rfl)]
  | [], _, _ => rfl
  | [_], [], _ => rfl
  | [_], _ :: _ :: _, _ => rfl
  | _ :: _ :: _, _, _ => rfl
theorem tyT {H : Hp} {t : Addr} {xs : List V} (h : Rd H t (.tup xs)) : TyX K H (.ref t) (.type "tuple") := h.elim (fun e => .base (.tup e)) fun ⟨_, e⟩ => .fTuple e
theorem isiT {H : Hp} {t : Addr} {xs : List V} {Q : VK} (h : Rd H t (.tup xs)) (q : Q (.bl true) H) : rIsi K [.ref t, .ty "tuple"] H Q := ⟨_, _, _, _, _, rfl, .ty "tuple", tyT h, by rfl, q⟩
abbrev s__law_of : Stmt := top 11
abbrev sc__law_of_N : List Str := ["_law_names_here", "e"]
theorem sc__law_of : FnScope sc__law_of_N ["_law_names_here"] (defScope s__law_of) := ⟨rfl, rfl, rfl, by decide +kernel, rfl, by decide +kernel, by decide +kernel⟩
-- 0 _law_names_here, 1 e
def sp_lof (C : Addr) : Sp := fun vs H Q _ => ∃ (a : Addr) (ns : List Str), vs = [.ref a] ∧ H a = some (.lst (ns.map V.str)) ∧ ns.length ≤ 5 ∧
  (ns.length ≤ 4 → ∀ r x q H', H' r = some (.lst [.ref x]) → PlO C H' x [(q, ns)] → Same H H' → Q (.ref r) H') ∧ (4 < ns.length → ∀ r H', H' r = some (.lst []) → Same H H' → Q (.ref r) H')
theorem d_lof (T : LnX K mg C IP WE) (D : TD K mg "_law_of" s__law_of) (CM_of : UX.CMnX P w K mg base (L2.CX P w) 6 C "Plan" "of" (sp_of C IP)) : Dn P w K mg base CX0 8 "_law_of" (sp_lof C) := by
  have nms_InvalidPlan : ∀ {X : Cx}, X.mg = mg → Gl X "InvalidPlan" → Names X "InvalidPlan" (.ref IP) := fun e g => ⟨g, by decide, .inl (by rw [e]; exact T.g_IP)⟩
  refine D.dn sc__law_of (fun _ _ _ _ _ _ us hl => match us, hl with | [_], _ => rfl) (fun vs H Q E h => ?_) (fun f cdv A outer s H vs Q E hr h => ?_)
  · obtain ⟨a, ns, rfl, _⟩ := h; rfl
  · obtain ⟨a, ns, rfl, ha, hn, q, qx⟩ := h
    refine ⟨_, (pss_one (ps_try_asMany rfl rfl takes0 (fun W pn xe tk po => (pss_cons (ps_if (pt_cmpR (op_eqK K rfl (hr.units)) (pe_callB (call_lenK K rfl) (by rfl) T.n_len (by decide +kernel) (pa_cons (pv 0) pa_nil)) pe_int (nomark _)) (pss_one (ps_ret (pe_lst (pa_cons (pe_cmX0 CM_of hr (by decide) (fun σ => passAt tk σ) (by rfl)) pa_nil)))) pss_nil)
      (pss_cons (ps_if (pt_cmpR (op_eqK K rfl (hr.units)) (pe_callB (call_lenK K rfl) (by rfl) T.n_len (by decide +kernel) (pa_cons (pv 0) pa_nil)) pe_int (nomark _)) (pss_one (ps_ret (pe_lst (pa_cons (pe_cmX CM_of hr (by decide) (fun σ => passAt tk σ) (by rfl) (pa_cons (pe_ix (ix_seqK K rfl) (pv 0) pe_int (fun _ _ => rfl)) pa_nil)) pa_nil)))) pss_nil)
      (pss_cons (ps_if (pt_cmpR (op_eqK K rfl (hr.units)) (pe_callB (call_lenK K rfl) (by rfl) T.n_len (by decide +kernel) (pa_cons (pv 0) pa_nil)) pe_int (nomark _)) (pss_one (ps_ret (pe_lst (pa_cons (pe_cmX CM_of hr (by decide) (fun σ => passAt tk σ) (by rfl) (pa_cons (pe_ix (ix_seqK K rfl) (pv 0) pe_int (fun _ _ => rfl)) (pa_cons (pe_ix (ix_seqK K rfl) (pv 0) pe_int (fun _ _ => rfl)) pa_nil))) pa_nil)))) pss_nil)
      (pss_cons (ps_if (pt_cmpR (op_eqK K rfl (hr.units)) (pe_callB (call_lenK K rfl) (by rfl) T.n_len (by decide +kernel) (pa_cons (pv 0) pa_nil)) pe_int (nomark _)) (pss_one (ps_ret (pe_lst (pa_cons (pe_cmX CM_of hr (by decide) (fun σ => passAt tk σ) (by rfl) (pa_cons (pe_ix (ix_seqK K rfl) (pv 0) pe_int (fun _ _ => rfl)) (pa_cons (pe_ix (ix_seqK K rfl) (pv 0) pe_int (fun _ _ => rfl)) (pa_cons (pe_ix (ix_seqK K rfl) (pv 0) pe_int (fun _ _ => rfl)) pa_nil)))) pa_nil)))) pss_nil)
      (pss_cons (ps_if (pt_cmpR (op_eqK K rfl (hr.units)) (pe_callB (call_lenK K rfl) (by rfl) T.n_len (by decide +kernel) (pa_cons (pv 0) pa_nil)) pe_int (nomark _)) (pss_one (ps_ret (pe_lst (pa_cons (pe_cmX CM_of hr (by decide) (fun σ => passAt tk σ) (by rfl) (pa_cons (pe_ix (ix_seqK K rfl) (pv 0) pe_int (fun _ _ => rfl)) (pa_cons (pe_ix (ix_seqK K rfl) (pv 0) pe_int (fun _ _ => rfl)) (pa_cons (pe_ix (ix_seqK K rfl) (pv 0) pe_int (fun _ _ => rfl)) (pa_cons (pe_ix (ix_seqK K rfl) (pv 0) pe_int (fun _ _ => rfl)) pa_nil))))) pa_nil)))) pss_nil)
      (pss_one (ps_ret (pe_lst (pa_cons (pe_cmX CM_of hr (by decide) (fun σ => passAt tk σ) (by rfl) (pa_cons (pe_ix (ix_seqK K rfl) (pv 0) pe_int (fun _ _ => rfl)) (pa_cons (pe_ix (ix_seqK K rfl) (pv 0) pe_int (fun _ _ => rfl)) (pa_cons (pe_ix (ix_seqK K rfl) (pv 0) pe_int (fun _ _ => rfl)) (pa_cons (pe_ix (ix_seqK K rfl) (pv 0) pe_int (fun _ _ => rfl)) (pa_cons (pe_ix (ix_seqK K rfl) (pv 0) pe_int (fun _ _ => rfl)) pa_nil)))))) pa_nil)))))))))) (.cons (i := 1) sc__law_of.nd rfl rfl (nms_InvalidPlan rfl (by rfl)) (fun a oe cls d pn hz hv => (pss_cons (ps_if (pw_or (pt_not (pt_val (pe_callB (call_is0 hz hv) (by rfl) T.n_isinstance (by decide +kernel) (pa_cons (pv 1) (pa_cons (C8.pe_gc (by rfl) T.c_WeaveError) pa_nil))))) (pw_or1 (pt_not (pt_val (pe_callB (call_is0 hz hv) (by rfl) T.n_isinstance (by decide +kernel) (pa_cons (pv 1) (pa_cons (pe_bltn (v := .ty "ValueError") (by rfl) T.n_ValueError (by decide +kernel) rfl) pa_nil))))))).pt (pss_one (ps_ret (pe_lst (pa_cons pe_int (pa_cons pe_int pa_nil))))) pss_nil)
      (pss_one (ps_ret (pe_lst pa_nil))))) .nil))), ?_⟩
    walk_at "rd"
    have fin : ∀ (ws : List V) (E : XK), ws = ns.map V.str → (4 < ns.length → X0 IP H E) → sp_of C IP (V.ref C :: ws) H (fun x H1 => 1 ≤ sizeLine ∧ ∀ p, H1 p = none → Q (V.ref p) (upd H1 p (.lst [x]))) E := fun ws E e hX =>
      ⟨ns, by rw [e], by omega, fun h4 x r H' o s => ⟨by rw [sizeLine_eq]; decide, fun p hp => q h4 p x r _ upd_same (o.same (UL.Same.new hp)) (Same.tr s (UL.Same.new hp))⟩, hX⟩
    rcases ns with _ | ⟨n0, _ | ⟨n1, _ | ⟨n2, _ | ⟨n3, _ | ⟨n4, _ | ⟨n5, r⟩⟩⟩⟩⟩⟩
    · refine lenL (.inl (.inl ha)) (eqII.mpr ⟨_, rfl, ?_⟩)
      rw [if_pos (by simp)]
      exact fin [] _ rfl fun h => absurd h (by simp)
    · refine lenL (.inl (.inl ha)) (eqII.mpr ⟨_, rfl, ?_⟩)
      rw [if_neg (by simp)]
      refine lenL (.inl (.inl ha)) (eqII.mpr ⟨_, rfl, ?_⟩)
      rw [if_pos (by simp)]
      unfold tBCX
      walk_at "rd"
      refine ixL (.inl (.inl ha)) (atN (n := 0) rfl) ?_
      exact fin _ _ rfl fun h => absurd h (by simp)
    · refine lenL (.inl (.inl ha)) (eqII.mpr ⟨_, rfl, ?_⟩)
      rw [if_neg (by simp)]
      refine lenL (.inl (.inl ha)) (eqII.mpr ⟨_, rfl, ?_⟩)
      rw [if_neg (by simp)]
      refine lenL (.inl (.inl ha)) (eqII.mpr ⟨_, rfl, ?_⟩)
      rw [if_pos (by simp)]
      unfold tBCX
      walk_at "rd"
      refine ixL (.inl (.inl ha)) (atN (n := 0) rfl) (ixL (.inl (.inl ha)) (atN (n := 1) rfl) ?_)
      exact fin _ _ rfl fun h => absurd h (by simp)
    · refine lenL (.inl (.inl ha)) (eqII.mpr ⟨_, rfl, ?_⟩)
      rw [if_neg (by simp)]
      refine lenL (.inl (.inl ha)) (eqII.mpr ⟨_, rfl, ?_⟩)
      rw [if_neg (by simp)]
      refine lenL (.inl (.inl ha)) (eqII.mpr ⟨_, rfl, ?_⟩)
      rw [if_neg (by simp)]
      refine lenL (.inl (.inl ha)) (eqII.mpr ⟨_, rfl, ?_⟩)
      rw [if_pos (by simp)]
      unfold tBCX
      walk_at "rd"
      refine ixL (.inl (.inl ha)) (atN (n := 0) rfl) (ixL (.inl (.inl ha)) (atN (n := 1) rfl) (ixL (.inl (.inl ha)) (atN (n := 2) rfl) ?_))
      exact fin _ _ rfl fun h => absurd h (by simp)
    · refine lenL (.inl (.inl ha)) (eqII.mpr ⟨_, rfl, ?_⟩)
      rw [if_neg (by simp)]
      refine lenL (.inl (.inl ha)) (eqII.mpr ⟨_, rfl, ?_⟩)
      rw [if_neg (by simp)]
      refine lenL (.inl (.inl ha)) (eqII.mpr ⟨_, rfl, ?_⟩)
      rw [if_neg (by simp)]
      refine lenL (.inl (.inl ha)) (eqII.mpr ⟨_, rfl, ?_⟩)
      rw [if_neg (by simp)]
      refine lenL (.inl (.inl ha)) (eqII.mpr ⟨_, rfl, ?_⟩)
      rw [if_pos (by simp)]
      unfold tBCX
      walk_at "rd"
      refine ixL (.inl (.inl ha)) (atN (n := 0) rfl) (ixL (.inl (.inl ha)) (atN (n := 1) rfl) (ixL (.inl (.inl ha)) (atN (n := 2) rfl) (ixL (.inl (.inl ha)) (atN (n := 3) rfl) ?_)))
      exact fin _ _ rfl fun h => absurd h (by simp)
    · refine lenL (.inl (.inl ha)) (eqII.mpr ⟨_, rfl, ?_⟩)
      rw [if_neg (by simp)]
      refine lenL (.inl (.inl ha)) (eqII.mpr ⟨_, rfl, ?_⟩)
      rw [if_neg (by simp)]
      refine lenL (.inl (.inl ha)) (eqII.mpr ⟨_, rfl, ?_⟩)
      rw [if_neg (by simp)]
      refine lenL (.inl (.inl ha)) (eqII.mpr ⟨_, rfl, ?_⟩)
      rw [if_neg (by simp)]
      refine lenL (.inl (.inl ha)) (eqII.mpr ⟨_, rfl, ?_⟩)
      rw [if_neg (by simp)]
      unfold tBCX
      walk_at "rd"
      refine ixL (.inl (.inl ha)) (atN (n := 0) rfl) (ixL (.inl (.inl ha)) (atN (n := 1) rfl) (ixL (.inl (.inl ha)) (atN (n := 2) rfl) (ixL (.inl (.inl ha)) (atN (n := 3) rfl) (ixL (.inl (.inl ha)) (atN (n := 4) rfl) ?_))))
      refine fin _ _ rfl fun h5 H' s => ?_
      refine ⟨true, T.ii, fun _ a2 ha2 => ?_, fun h => nomatch h⟩
      walk_at "rd"
      refine is0 T.ecI (fun _ r => r) T.iw ⟨true, rfl, ?_⟩
      rw [if_neg (by decide)]
      refine is0 T.ecI (fun _ r => r) T.iv ⟨true, rfl, ?_⟩
      rw [if_neg (by decide)]
      exact fun p hp => qx h5 p _ upd_same (Same.tr s (UL.Same.new hp))
    · simp only [List.length_cons] at hn; omega
abbrev s__law_joined : Stmt := top 12
abbrev sc__law_joined_N : List Str := ["_law_first", "_law_second", "_law_beside"]
theorem sc__law_joined : FnScope sc__law_joined_N ["_law_first", "_law_second", "_law_beside"] (defScope s__law_joined) := ⟨rfl, rfl, rfl, by decide +kernel, rfl, by decide +kernel, by decide +kernel⟩
-- 0 _law_first, 1 _law_second, 2 _law_beside
def sp_ljoin (C : Addr) : Sp := fun vs H Q _ => ∃ (a b : Addr) (w : Bool) (xs ys : Ln), vs = [.ref a, .ref b, .bl w] ∧ PlO C H a xs ∧ PlO C H b ys ∧ xs.length ≤ 3 ∧ ys.length ≤ 3 ∧ (∀ l ∈ xs, l.2.length ≤ 4) ∧ (∀ l ∈ ys, l.2.length ≤ 4) ∧
  (∀ Ls, dueL w (nms xs) (nms ys) = some Ls → ∀ r c zs H', H' r = some (.lst [.ref c]) → PlO C H' c zs → nms zs = Ls → Same H H' → Q (.ref r) H') ∧ (dueL w (nms xs) (nms ys) = none → ∀ r H', H' r = some (.lst []) → Same H H' → Q (.ref r) H')
theorem d_ljoin (T : LnX K mg C IP WE) (D : TD K mg "_law_joined" s__law_joined) (Bo_add : UX.BOn P w K mg base (L2.CX P w) 6 C .Add (sp_add C IP)) (Bo_or : UX.BOn P w K mg base (L2.CX P w) 6 C .BitOr (sp_or C IP)) : Dn P w K mg base CX0 8 "_law_joined" (sp_ljoin C) := by
  have nms_InvalidPlan : ∀ {X : Cx}, X.mg = mg → Gl X "InvalidPlan" → Names X "InvalidPlan" (.ref IP) := fun e g => ⟨g, by decide, .inl (by rw [e]; exact T.g_IP)⟩
  refine D.dn sc__law_joined (fun _ _ _ _ _ _ us hl => match us, hl with | [_, _, _], _ => rfl) (fun vs H Q E h => ?_) (fun f cdv A outer s H vs Q E hr h => ?_)
  · obtain ⟨a, b, w, xs, ys, rfl, _⟩ := h; rfl
  · obtain ⟨a, b, w, xs, ys, rfl, ha, hb, hx, hy, hx4, hy4, q, qx⟩ := h
    refine ⟨_, (pss_one (ps_try_only rfl rfl (nms_InvalidPlan rfl (by rfl)) takes0 (fun W pn xe tk po => (pss_cons (ps_if (pt_val (pv 2)) (pss_one (ps_ret (pe_lst (pa_cons (pe_binX Bo_or hr (by decide) (fun σ => passAt tk σ) (pv 0) (pv 1)) pa_nil)))) pss_nil)
      (pss_one (ps_ret (pe_lst (pa_cons (pe_binX Bo_add hr (by decide) (fun σ => passAt tk σ) (pv 0) (pv 1)) pa_nil)))))) (fun a oe cls d pn hz hv => (pss_one (ps_ret (pe_lst pa_nil)))))), ?_⟩
    walk_at "rd"
    obtain ⟨da, ta, ha1, ha2, ha3⟩ := ha
    obtain ⟨db, tb, hb1, hb2, hb3⟩ := hb
    cases w with
    | true =>
      rw [if_pos rfl]
      unfold tBinX
      walk_at "rd"
      refine ⟨⟨da, _, ha1⟩, ⟨db, _, hb1⟩, a, b, xs, ys, rfl, ⟨da, ta, ha1, ha2, ha3⟩, ⟨db, tb, hb1, hb2, hb3⟩, hx, hy, hx4, hy4, fun h c H' o s => ⟨by rw [sizeLine_eq]; decide, fun p hp => q _ (due_or h) p c (xs ++ ys) _ upd_same (o.same (UL.Same.new hp)) rfl (Same.tr s (UL.Same.new hp))⟩, fun h H' s => ?_⟩
      refine ⟨true, T.ii, fun _ a2 ha2 => ?_, fun h => nomatch h⟩
      walk_at "rd"
      exact fun p hp => qx (due_or0 h) p _ upd_same (Same.tr s (UL.Same.new hp))
    | false =>
      rw [if_neg (by decide)]
      unfold tBinX
      walk_at "rd"
      refine ⟨⟨da, _, ha1⟩, ⟨db, _, hb1⟩, a, b, xs, ys, rfl, ⟨da, ta, ha1, ha2, ha3⟩, ⟨db, tb, hb1, hb2, hb3⟩, hx, hy, hx4, hy4, fun x y ex ey h c r H' o s => ⟨by rw [sizeLine_eq]; decide, fun p hp => q [x.2 ++ y.2] (by rw [ex, ey]; exact due_add h) p c [(r, x.2 ++ y.2)] _ upd_same (o.same (UL.Same.new hp)) rfl (Same.tr s (UL.Same.new hp))⟩, fun h H' s => ?_⟩
      refine ⟨true, T.ii, fun _ a2 ha2 => ?_, fun h => nomatch h⟩
      walk_at "rd"
      exact fun p hp => qx (due_add0 h) p _ upd_same (Same.tr s (UL.Same.new hp))
abbrev s__law_due : Stmt := top 13
abbrev sc__law_due_N : List Str := ["_law_first", "_law_second", "_law_beside"]
theorem sc__law_due : FnScope sc__law_due_N ["_law_first", "_law_second", "_law_beside"] (defScope s__law_due) := ⟨rfl, rfl, rfl, by decide +kernel, rfl, by decide +kernel, by decide +kernel⟩
-- 0 _law_first, 1 _law_second, 2 _law_beside
def sp_ldue : Sp := fun vs H Q _ => ∃ (a b : Addr) (w : Bool) (xs ys : Ln), vs = [.ref a, .ref b, .bl w] ∧ MoO H a xs ∧ MoO H b ys ∧ xs.length ≤ 3 ∧ ys.length ≤ 3 ∧ (∀ l ∈ xs, l.2.length ≤ 4) ∧ (∀ l ∈ ys, l.2.length ≤ 4) ∧
  (∀ Ls, dueL w (nms xs) (nms ys) = some Ls → ∀ r zs H', H r = none → (∀ l ∈ zs, H l.1 = none ∨ l ∈ xs ∨ l ∈ ys) → MoO H' r zs → nms zs = Ls → Same H H' → Q (.ref r) H') ∧ (dueL w (nms xs) (nms ys) = none → Q .non H)
theorem d_ldue (T : LnX K mg C IP WE) (D : TD K mg "_law_due" s__law_due) : Dn P w K mg base CX0 1 "_law_due" sp_ldue := by
  refine D.dn sc__law_due (fun _ _ _ _ _ _ us hl => match us, hl with | [_, _, _], _ => rfl) (fun vs H Q E h => ?_) (fun f cdv A outer s H vs Q E hr h => ?_)
  · obtain ⟨a, b, w, xs, ys, rfl, _⟩ := h; rfl
  · obtain ⟨a, b, w, xs, ys, rfl, ha, hb, hx, hy, hx4, hy4, q, qx⟩ := h
    refine ⟨_, (pss_cons (ps_if (pt_val (pv 2)) (pss_cons (ps_if (pt_cmpR op_gtA (pe_op op_addA (pe_callB call_lenA (by rfl) T.n_len (by decide +kernel) (pa_cons (pv 0) pa_nil)) (pe_callB call_lenA (by rfl) T.n_len (by decide +kernel) (pa_cons (pv 1) pa_nil))) pe_int (nomark _)) (pss_one (ps_ret pe_non)) pss_nil)
      (pss_one (ps_ret (pe_op op_addA (pv 0) (pv 1))))) pss_nil)
      (pss_cons (ps_if (pw_or (pt_cmpR (op_neA (hr.units)) (pe_callB call_lenA (by rfl) T.n_len (by decide +kernel) (pa_cons (pv 0) pa_nil)) pe_int (nomark _)) (pw_or (pt_cmpR (op_neA (hr.units)) (pe_callB call_lenA (by rfl) T.n_len (by decide +kernel) (pa_cons (pv 1) pa_nil)) pe_int (nomark _)) (pw_or1 (pt_cmpR op_gtA (pe_op op_addA (pe_callB call_lenA (by rfl) T.n_len (by decide +kernel) (pa_cons (pe_ix ix_seq (pv 0) pe_int (fun _ _ => rfl)) pa_nil)) (pe_callB call_lenA (by rfl) T.n_len (by decide +kernel) (pa_cons (pe_ix ix_seq (pv 1) pe_int (fun _ _ => rfl)) pa_nil))) pe_int (nomark _))))).pt (pss_one (ps_ret pe_non)) pss_nil)
      (pss_one (ps_ret (pe_lst (pa_cons (pe_op op_addA (pe_ix ix_seq (pv 0) pe_int (fun _ _ => rfl)) (pe_ix ix_seq (pv 1) pe_int (fun _ _ => rfl))) pa_nil)))))), ?_⟩
    walk_at "rd"
    cases w with
    | true =>
      rw [if_pos rfl]
      refine lenL (.inl (.inl ha.1)) (lenL (.inl (.inl hb.1)) (addII.mpr ⟨_, rfl, ?_⟩))
      rw [refs_len, refs_len]
      by_cases c : 3 < xs.length + ys.length
      · rw [if_pos (by omega)]
        exact qx (due_or0 c)
      · rw [if_neg (by omega)]
        refine .inr (.inr (.inr ⟨a, b, refs xs, refs ys, rfl, rfl, ha.1, hb.1, by rw [refs_len, refs_len, sizeLine_eq]; omega, fun p hp => q _ (due_or (by omega)) p (xs ++ ys) _ hp (fun l hl => .inr (List.mem_append.mp hl)) ⟨by rw [upd_same]; unfold refs; rw [List.map_append], fun l hl => UL.Same.new hp _ _ ((List.mem_append.mp hl).elim (ha.2 l) (hb.2 l))⟩ rfl (UL.Same.new hp)⟩))
    | false =>
      rw [if_neg (by decide)]
      refine lenL (.inl (.inl ha.1)) (neII.mpr ⟨_, rfl, ?_⟩)
      rw [refs_len]
      by_cases c1 : xs.length = 1
      · rw [if_neg (by simp [c1])]
        obtain ⟨x, rfl⟩ := List.length_eq_one_iff.mp c1
        refine lenL (.inl (.inl hb.1)) (neII.mpr ⟨_, rfl, ?_⟩)
        rw [refs_len]
        by_cases c2 : ys.length = 1
        · rw [if_neg (by simp [c2])]
          obtain ⟨y, rfl⟩ := List.length_eq_one_iff.mp c2
          have hx1 := ha.2 x List.mem_cons_self
          have hy1 := hb.2 y List.mem_cons_self
          have lx := hx4 x List.mem_cons_self
          have ly := hy4 y List.mem_cons_self
          refine ixL (v := .ref x.1) (.inl (.inl ha.1)) (atN (n := 0) rfl) (lenL (.inl (.inl hx1)) (ixL (v := .ref y.1) (.inl (.inl hb.1)) (atN (n := 0) rfl) (lenL (.inl (.inl hy1)) (addII.mpr ⟨_, rfl, ?_⟩))))
          rw [List.length_map, List.length_map]
          by_cases c3 : 4 < x.2.length + y.2.length
          · rw [if_pos (by omega)]
            exact qx (due_add0 fun x' y' ex ey => by cases ex; cases ey; exact c3)
          · rw [if_neg (by omega)]
            refine ixL (v := .ref x.1) (.inl (.inl ha.1)) (atN (n := 0) rfl) (ixL (v := .ref y.1) (.inl (.inl hb.1)) (atN (n := 0) rfl) (.inr (.inr (.inr ⟨x.1, y.1, x.2.map V.str, y.2.map V.str, rfl, rfl, hx1, hy1, by rw [List.length_map, List.length_map, sizeLine_eq]; omega, fun r hr => ⟨by rw [sizeLine_eq]; decide, fun p hp => ?_⟩⟩))))
            have hp0 : H p = none := by
              have n : p ≠ r := fun e => by rw [e, upd_same] at hp; cases hp
              rw [upd_ne n] at hp; exact hp
            refine q _ (due_add (by omega)) p [(r, x.2 ++ y.2)] _ hp0 (fun l hl => .inl (by rw [List.mem_singleton.mp hl]; exact hr)) ⟨upd_same, fun l hl => ?_⟩ rfl (Same.tr (UL.Same.new hr) (UL.Same.new hp))
            rw [List.mem_singleton.mp hl]
            refine UL.Same.new hp _ _ ?_
            rw [upd_same, List.map_append]
        · rw [if_pos (by simp; omega)]
          exact qx (due_add0 fun x' y' _ e => absurd (by rw [e]; rfl) c2)
      · rw [if_pos (by simp; omega)]
        exact qx (due_add0 fun x' y' e _ => absurd (by rw [e]; rfl) c1)
abbrev s__law_has : Stmt := top 14
abbrev sc__law_has_N : List Str := ["_law_plan", "_law_lanes", "_law_k"]
theorem sc__law_has : FnScope sc__law_has_N ["_law_plan", "_law_lanes"] (defScope s__law_has) := ⟨rfl, rfl, rfl, by decide +kernel, rfl, by decide +kernel, by decide +kernel⟩
-- 0 _law_plan, 1 _law_lanes, 2 _law_k
def sp_lhas (C : Addr) : Sp := fun vs H Q _ => ∃ (a b : Addr) (xs ys : Ln), vs = [.ref a, .ref b] ∧ PlO C H a xs ∧ MoO H b ys ∧ xs.length ≤ 3 ∧ (∀ l ∈ xs, ∀ z ∈ l.2, PyData.strOk z = true) ∧ nms xs = nms ys ∧ ∀ H', Same H H' → Q (.bl true) H'
theorem d_lhas (T : LnX K mg C IP WE) (D : TD K mg "_law_has" s__law_has) : Dn P w K mg base CX0 1 "_law_has" (sp_lhas C) := by
  refine D.dn sc__law_has (fun _ _ _ _ _ _ us hl => match us, hl with | [_, _], _ => rfl) (fun vs H Q E h => ?_) (fun f cdv A outer s H vs Q E hr h => ?_)
  · obtain ⟨a, b, xs, ys, rfl, _⟩ := h; rfl
  · obtain ⟨a, b, xs, ys, rfl, ha, hb, hx, hz, he, q⟩ := h
    refine ⟨_, (pss_cons (ps_if (pw_or (pt_not (pt_val (pe_callB call_isi (by rfl) T.n_isinstance (by decide +kernel) (pa_cons (pe_fld (pv 0) (by rfl)) (pa_cons (pe_bltn (v := .ty "tuple") (by rfl) T.n_tuple (by decide +kernel) rfl) pa_nil))))) (pw_or1 (pt_cmpR (op_neA (hr.units)) (pe_callB call_lenA (by rfl) T.n_len (by decide +kernel) (pa_cons (pe_fld (pv 0) (by rfl)) pa_nil)) (pe_callB call_lenA (by rfl) T.n_len (by decide +kernel) (pa_cons (pv 1) pa_nil)) (nomark _)))).pt (pss_one (ps_ret pe_bl)) pss_nil)
      (pss_cons (ps_for PassesOwn.never rfl (pi_range1 (by rfl) T.n_range (pa_cons (pe_callB call_lenA (by rfl) T.n_len (by decide +kernel) (pa_cons (pv 1) pa_nil)) pa_nil)) (pg_name (i := 2) sc__law_has.nd rfl (Or.inl rfl)) (pss_one (ps_if (pw_or (pt_not (pt_val (pe_callB call_isi (by rfl) T.n_isinstance (by decide +kernel) (pa_cons (pe_ix ix_seq (pe_fld (pv 0) (by rfl)) (pv 2) (fun _ _ => rfl)) (pa_cons (pe_bltn (v := .ty "tuple") (by rfl) T.n_tuple (by decide +kernel) rfl) pa_nil))))) (pw_or1 (pt_cmpR (op_neA (hr.units)) (pe_callTy call_listA (by rfl) T.n_list (by decide +kernel) (pa_cons (pe_ix ix_seq (pe_fld (pv 0) (by rfl)) (pv 2) (fun _ _ => rfl)) pa_nil)) (pe_ix ix_seq (pv 1) (pv 2) (fun _ _ => rfl)) (nomark _)))).pt (pss_one (ps_ret pe_bl)) pss_nil)))
      (pss_one (ps_ret pe_bl)))), ?_⟩
    walk_at "rd"
    obtain ⟨da, ta, ha1, ha2, ha3⟩ := ha
    have ll : xs.length = ys.length := by rw [← nms_len xs, ← nms_len ys, he]
    refine ⟨C, da, _, ha1, T.cls, T.a_lanes, .ref ta, rfl, isiT ha2 ⟨true, rfl, ?_⟩⟩
    rw [if_neg (by decide)]
    refine ⟨C, da, _, ha1, T.cls, T.a_lanes, .ref ta, rfl, lenT (.inl ha2) (lenL (.inl (.inl hb.1)) (neII.mpr ⟨_, rfl, ?_⟩))⟩
    rw [refs_len, refs_len, if_neg (by simp [ll])]
    refine lenL (.inl (.inl hb.1)) ⟨_, rfl, by omega, by rw [refs_len]; omega, FJ.rangeI (fun i σ' H' => (∃ z, σ' = [some (.ref a), some (.ref b), z]) ∧ Same H H') (by omega) ⟨⟨_, rfl⟩, fun _ _ z => z⟩ (fun i σ' H' hi inv => ?_) fun σ' H' inv => ?_⟩
    · obtain ⟨⟨z, rfl⟩, s⟩ := inv
      walk_at "rd"
      rw [refs_len] at hi
      have hix : i < xs.length := by omega
      have hiy : i < ys.length := by omega
      have ex : (refs xs)[i]? = some (V.ref xs[i].1) := by unfold refs; rw [List.getElem?_map, List.getElem?_eq_getElem hix]; rfl
      have ey : (refs ys)[i]? = some (V.ref ys[i].1) := by unfold refs; rw [List.getElem?_map, List.getElem?_eq_getElem hiy]; rfl
      have e2 : ys[i].2 = xs[i].2 := by
        have h1 : (nms xs)[i]? = (nms ys)[i]? := by rw [he]
        rw [List.getElem?_map, List.getElem?_map, List.getElem?_eq_getElem hix, List.getElem?_eq_getElem hiy] at h1
        exact (Option.some.inj h1).symm
      have mx := List.getElem_mem hix
      have rx := rd_same (ha3 _ mx) s
      have ry := s _ _ (hb.2 _ (List.getElem_mem hiy))
      rw [e2] at ry
      refine ⟨C, da, _, s _ _ ha1, T.cls, T.a_lanes, .ref ta, rfl, ixT (.inl (rd_same ha2 s)) (atN ex) (isiT rx ⟨true, rfl, ?_⟩)⟩
      rw [if_neg (by decide)]
      refine ⟨C, da, _, s _ _ ha1, T.cls, T.a_lanes, .ref ta, rfl, ixT (.inl (rd_same ha2 s)) (atN ex) ⟨xs[i].1, _, rfl, .inr (.inl rx), fun l hl => ?_⟩⟩
      have sl : Same H' (upd H' l (.lst (xs[i].2.map V.str))) := UL.Same.new hl
      refine ixL (.inl (.inl (sl _ _ (s _ _ hb.1)))) (atN ey) (neLL (xs := xs[i].2.map V.str) (fl2_strs (hz _ mx)) (.inl (.inl upd_same)) (.inl (.inl (sl _ _ ry))) ⟨false, rfl, ?_⟩)
      rw [if_neg (by decide)]
      exact ⟨⟨_, rfl⟩, Same.tr s sl⟩
    · obtain ⟨⟨z, rfl⟩, s⟩ := inv
      walk_at "rd"
      exact q _ s
end
end U

set_option Elab.async false
set_option linter.all false
set_option maxRecDepth 100000
set_option maxHeartbeats 4000000
set_option pp.deepTerms true
set_option pp.maxSteps 400000
namespace U
open PySem PySem.Spec PyProof.Rows L2 UL UX
local macro_rules | `(tactic| walk_at "rd") => `(tactic| simp only [sMatch, tJs, tFmt, tBC, tMethA, tMakeL, iEnumS, tSeq, tAsg, tOp, tCB, tCons, tNil, tVar, tC, tB, tTest, tNot, tIfS, tNext, tYes, tUn, rU, tM0, tGFrom, tGThen, tG0, tYfLst, gcxK, tSubO, tProp, tListG, tMethG, tBMF, tFld, sFld, tMeth, tMake, tSl, tNoPart, tPart, tM1, gTup, gCons, gNil, tDrop, tFor_eq, tLc_eq, tLc2_eq, iRng1_eq, StX.tStar, iList, iTup, iStr, iAny_var, iZipB, tLenSetS, wipe, tVar, tAndV, tOrV, tNotV, tOr, tAnd, tLst, tTup, tBM, tBM0, tChain, tCall, cxK, noxK, addII, addSS, mulII, eqII, neII, neSS, cIntI, cAbsI, rI, rI0, rLt, rLe, rGt_, rGe_, rSub_, rMod, rPow, rDivW, rNeg, gName, tRet, L2.start, List.length_cons, List.length_nil, List.map_cons, List.map_nil, List.replicate, List.cons_append, List.nil_append, List.getElem?_cons_zero, List.getElem?_cons_succ, List.set_cons_zero, List.set_cons_succ, Option.some.injEq, exists_eq_left', exists_eq_left, V.int.injEq, V.bl.injEq, V.str.injEq, V.ref.injEq, V.ty.injEq, List.cons.injEq, and_true, true_and, reduceCtorEq, false_and, exists_false, or_false, false_or, exists_and_left, exists_and_right, List.append_nil, forall_eq, decide_eq_true_eq, Bool.not_eq_true, Nat.reduceAdd, Nat.reduceSub, List.replicate_zero, List.replicate_succ, Nat.zero_le, ite_true, ite_false, if_true, if_false])
section
variable {P : Program} {w : World} {K : PySem.W.Frag} {mg : Str → Option Value} {base : Heap}

open UV UW NdefX ClX
variable {IP C WE : Addr}
theorem neTT {H : Hp} {Q : VK} {a b : Addr} {xs : List V} (hf : xs.all fl2 = true) (ha : H a = some (.tup xs)) (hb : H b = some (.tup xs)) (q : Q (.bl false) H) : rNeA K (.ref a) (.ref b) H Q :=
  .inr ⟨.tuple (xs.map dV), .tuple (xs.map dV), .tup (.inl (.inl ha)) (dV_all hf), .tup (.inl (.inl hb)) (dV_all hf), lst_shape hf, lst_shape hf, by rw [PyData.eqv, dV_eqv]; exact q⟩
theorem nm_strOk {z : Str} (h : isNm z) : PyData.strOk z = true := by
  have h : nmB z = true := h
  simp only [nmB, Bool.and_eq_true, List.all_eq_true, decide_eq_true_eq] at h
  refine asc_ok fun c hc => ?_
  have h3 := h.2 c hc
  rw [abc_eq] at h3
  obtain ⟨n, hn, rfl⟩ := List.mem_map.mp h3
  have := List.mem_range.mp hn
  omega
/-- all but the addresses of S -/
def Sm (S : List Addr) (H H' : Hp) : Prop := ∀ c o, H c = some o → c ∉ S → H' c = some o
theorem Sm.same {S : List Addr} {H H' : Hp} (s : Same H H') : Sm S H H' := fun c o e _ => s c o e
theorem Sm.but {S : List Addr} {p : Addr} {H H' : Hp} (s : But p H H') (h : p ∈ S) : Sm S H H' := fun c o e n => s c o e fun z => n (z ▸ h)
theorem Sm.tr {S : List Addr} {H H1 H2 : Hp} (a : Sm S H H1) (b : Sm S H1 H2) : Sm S H H2 := fun c o e n => b c o (a c o e n) n
theorem Sm.at_ {S : List Addr} {p : Addr} {H : Hp} {o : HO} (h : p ∈ S) : Sm S H (upd H p o) := fun c u e n => by rw [upd_ne fun z => n (by rw [z]; exact h)]; exact e
/-- S are lists of the heap -/
def Lsts (S : List Addr) (H : Hp) : Prop := ∀ c ∈ S, ∃ xs, H c = some (.lst xs)
theorem rd_sm {S : List Addr} {H H' : Hp} {a : Addr} {xs : List V} (h : Rd H a (.tup xs)) (s : Sm S H H') (l : Lsts S H) : Rd H' a (.tup xs) := by
  have n : a ∉ S := fun z => by
    obtain ⟨ys, e⟩ := l a z
    rcases h with h | ⟨o, h⟩ <;> · rw [h] at e; cases e
  exact h.elim (fun e => .inl (s _ _ e n)) fun ⟨ob, e⟩ => .inr ⟨ob, s _ _ e n⟩
theorem PlO.sm {S : List Addr} {H H' : Hp} {a : Addr} {ls : Ln} (h : PlO C H a ls) (s : Sm S H H') (l : Lsts S H) : PlO C H' a ls := by
  obtain ⟨dx, t, e, r, g⟩ := h
  refine ⟨dx, t, s _ _ e fun z => ?_, rd_sm r s l, fun x hx => rd_sm (g x hx) s l⟩
  obtain ⟨ys, e2⟩ := l a z
  rw [e] at e2; cases e2
/-- .. of a model, off S -/
def MoS (S : List Addr) (H : Hp) (a : Addr) (ms : Ln) : Prop := MoO H a ms ∧ a ∉ S ∧ ∀ l ∈ ms, l.1 ∉ S
theorem MoS.sm {S : List Addr} {H H' : Hp} {a : Addr} {ms : Ln} (h : MoS S H a ms) (s : Sm S H H') : MoS S H' a ms := ⟨⟨s _ _ h.1.1 h.2.1, fun l hl => s _ _ (h.1.2 l hl) (h.2.2 l hl)⟩, h.2⟩
/-- lanes of a plan that may be -/
def okL (ls : Ln) : Prop := ls.length ≤ 3 ∧ (∀ l ∈ ls, l.2.length ≤ 4) ∧ ∀ l ∈ ls, ∀ z ∈ l.2, PyData.strOk z = true
def okN (ls : List (List Str)) : Prop := ls.length ≤ 3 ∧ (∀ l ∈ ls, l.length ≤ 4) ∧ ∀ l ∈ ls, ∀ z ∈ l, PyData.strOk z = true
theorem okL_of {ls : Ln} (h : okN (nms ls)) : okL ls := ⟨by have := h.1; rw [nms_len] at this; exact this, fun l hl => h.2.1 _ (List.mem_map_of_mem hl), fun l hl => h.2.2 _ (List.mem_map_of_mem hl)⟩
theorem okN_due {w : Bool} {xs ys Ls : List (List Str)} (hx : okN xs) (hy : okN ys) (h : dueL w xs ys = some Ls) : okN Ls := by
  unfold dueL at h
  cases w with
  | true =>
    rw [if_pos rfl] at h
    by_cases c : 3 < xs.length + ys.length
    · rw [if_pos c] at h; cases h
    · rw [if_neg c] at h
      cases h
      refine ⟨by rw [List.length_append]; omega, fun l hl => (List.mem_append.mp hl).elim (hx.2.1 l) (hy.2.1 l), fun l hl => (List.mem_append.mp hl).elim (hx.2.2 l) (hy.2.2 l)⟩
  | false =>
    rw [if_neg (by decide)] at h
    match xs, ys, hx, hy, h with
    | [x], [y], hx, hy, h =>
      simp only at h
      by_cases c : 4 < x.length + y.length
      · rw [if_pos c] at h; cases h
      · rw [if_neg c] at h
        cases h
        refine ⟨by simp, fun l hl => by rw [List.mem_singleton.mp hl, List.length_append]; omega, fun l hl z hz => ?_⟩
        rw [List.mem_singleton.mp hl] at hz
        exact (List.mem_append.mp hz).elim (hx.2.2 x List.mem_cons_self z) (hy.2.2 y List.mem_cons_self z)
/-- what stands between the law's rounds: pl the plans, ml their models -/
structure St (C : Addr) (H : Hp) (p wl pl ml : Addr) (xs : List Str) (ps ms : List (Addr × Ln)) : Prop where
  hp : Pl H p
  hw : H wl = some (.lst (xs.map V.str))
  h1 : H pl = some (.lst (ps.map fun q => V.ref q.1))
  h2 : H ml = some (.lst (ms.map fun q => V.ref q.1))
  nwp : wl ≠ p
  n12 : pl ≠ ml
  n1p : pl ≠ p
  n2p : ml ≠ p
  nw1 : wl ≠ pl
  nw2 : wl ≠ ml
  pp : ∀ q ∈ ps, PlO C H q.1 q.2
  mm : ∀ q ∈ ms, MoS [p, pl, ml] H q.1 q.2
  ok : ∀ q ∈ ps, okN (nms q.2)
  eq : ps.map (fun q => nms q.2) = ms.map fun q => nms q.2
  one : 1 ≤ ps.length
theorem St.lsts {H : Hp} {p wl pl ml : Addr} {xs : List Str} {ps ms : List (Addr × Ln)} (h : St C H p wl pl ml xs ps ms) : Lsts [p, pl, ml] H := fun c hc => by
  simp only [List.mem_cons, List.not_mem_nil, or_false] at hc
  rcases hc with rfl | rfl | rfl
  · obtain ⟨ns, e⟩ := h.hp; exact ⟨_, e⟩
  · exact ⟨_, h.h1⟩
  · exact ⟨_, h.h2⟩
/-- a later heap, plans and models as they were -/
theorem St.sm {H H' : Hp} {p wl pl ml : Addr} {xs : List Str} {ps ms : List (Addr × Ln)} (h : St C H p wl pl ml xs ps ms) (s : But p H H') (hp : Pl H' p) : St C H' p wl pl ml xs ps ms :=
  have s3 : Sm [p, pl, ml] H H' := Sm.but s List.mem_cons_self
  ⟨hp, s _ _ h.hw h.nwp, s _ _ h.h1 h.n1p, s _ _ h.h2 h.n2p, h.nwp, h.n12, h.n1p, h.n2p, h.nw1, h.nw2, fun q hq => (h.pp q hq).sm s3 h.lsts, fun q hq => (h.mm q hq).sm s3, h.ok, h.eq, h.one⟩
theorem St.same {H H' : Hp} {p wl pl ml : Addr} {xs : List Str} {ps ms : List (Addr × Ln)} (h : St C H p wl pl ml xs ps ms) (s : Same H H') : St C H' p wl pl ml xs ps ms := h.sm (UL.Same.but s) (let ⟨ns, e⟩ := h.hp; ⟨ns, s _ _ e⟩)
theorem upd_sw {H : Hp} {a b : Addr} {x y : HO} (n : a ≠ b) : upd (upd H a x) b y = upd (upd H b y) a x := by
  funext c
  by_cases h1 : c = a
  · subst h1; rw [upd_ne n, upd_same, upd_same]
  · by_cases h2 : c = b
    · subst h2; rw [upd_same, upd_ne h1, upd_same]
    · rw [upd_ne h2, upd_ne h1, upd_ne h1, upd_ne h2]
/-- what is free is not of S -/
theorem St.free {H : Hp} {p wl pl ml r : Addr} {xs : List Str} {ps ms : List (Addr × Ln)} (h : St C H p wl pl ml xs ps ms) (hr : H r = none) : r ∉ [p, pl, ml] := fun z => by
  obtain ⟨ys, e⟩ := h.lsts r z
  rw [hr] at e; cases e
/-- one more of each -/
theorem St.more {H : Hp} {p wl pl ml x m : Addr} {xs : List Str} {ps ms : List (Addr × Ln)} {a b : Ln} (h : St C H p wl pl ml xs ps ms) (hx : PlO C H x a) (hm : MoS [p, pl, ml] H m b) (e : nms a = nms b) (o : okN (nms a)) :
    St C (upd (upd H pl (.lst (ps.map (fun q => V.ref q.1) ++ [V.ref x]))) ml (.lst (ms.map (fun q => V.ref q.1) ++ [V.ref m]))) p wl pl ml xs (ps ++ [(x, a)]) (ms ++ [(m, b)]) := by
  have s3 : Sm [p, pl, ml] H (upd (upd H pl (.lst (ps.map (fun q => V.ref q.1) ++ [V.ref x]))) ml (.lst (ms.map (fun q => V.ref q.1) ++ [V.ref m]))) := Sm.tr (Sm.at_ (by simp)) (Sm.at_ (by simp))
  obtain ⟨ns, hp⟩ := h.hp
  refine ⟨⟨ns, ?_⟩, ?_, ?_, ?_, h.nwp, h.n12, h.n1p, h.n2p, h.nw1, h.nw2, fun q hq => ?_, fun q hq => ?_, fun q hq => ?_, ?_, ?_⟩
  · rw [upd_ne (Ne.symm h.n2p), upd_ne (Ne.symm h.n1p)]; exact hp
  · rw [upd_ne h.nw2, upd_ne h.nw1]; exact h.hw
  · rw [upd_ne h.n12, upd_same, List.map_append]; rfl
  · rw [upd_same, List.map_append]; rfl
  · rcases List.mem_append.mp hq with z | z
    · exact (h.pp q z).sm s3 h.lsts
    · rw [List.mem_singleton.mp z]; exact hx.sm s3 h.lsts
  · rcases List.mem_append.mp hq with z | z
    · exact (h.mm q z).sm s3
    · rw [List.mem_singleton.mp z]; exact hm.sm s3
  · rcases List.mem_append.mp hq with z | z
    · exact h.ok q z
    · rw [List.mem_singleton.mp z]; exact o
  · rw [List.map_append, List.map_append, h.eq]
    show _ ++ [nms a] = _ ++ [nms b]
    rw [e]
  · rw [List.length_append]; have := h.one; omega
abbrev s_law : Stmt := top 15
abbrev sc_law_N : List Str := ["_law_script", "_law_pool_here", "_law_words", "_law_limits", "_law_plans", "_law_models", "_law_k", "_law_names_here", "_law_told", "_law_one", "_law_two", "_law_beside", "_law_due_here", ".0", "_law_j"]
theorem sc_law : FnScope sc_law_N ["_law_script"] (defScope s_law) := ⟨rfl, rfl, rfl, by decide +kernel, rfl, by decide +kernel, by decide +kernel⟩
-- 0 _law_script, 1 _law_pool_here, 2 _law_words, 3 _law_limits, 4 _law_plans, 5 _law_models, 6 _law_k, 7 _law_names_here, 8 _law_told, 9 _law_one, 10 _law_two, 11 _law_beside, 12 _law_due_here, 13 .0, 14 _law_j
def sp_law : PySem.W.Frag → Sp := fun K vs H Q _ => ∃ (a : Addr) (ns : List Int), vs = [.ref a] ∧ SqL K H a (ns.map V.int) ∧ ns.length ≤ 63 ∧ ∀ H', Q (.bl true) H'
theorem ok_law (X : LnX K mg C IP WE) {f0 : Addr} {fd0 : FuncData} (F0 : Fun K "law" "law" s_law f0 fd0) (d__law_pool : Dn P w K mg base CX0 2 "_law_pool" (sp_pool K)) (d__law_draw : Dn P w K mg base CX0 1 "_law_draw" sp_draw) (d__law_names : Dn P w K mg base CX0 2 "_law_names" sp_names) (d__law_is_number : Dn P w K mg base CX0 1 "_law_is_number" sp_isnum)
    (CM_empty : UX.CMnX P w K mg base (L2.CX P w) 6 C "Plan" "empty" (sp_empty C)) (d__law_of : Dn P w K mg base CX0 8 "_law_of" (sp_lof C)) (d__law_joined : Dn P w K mg base CX0 8 "_law_joined" (sp_ljoin C)) (d__law_due : Dn P w K mg base CX0 1 "_law_due" sp_ldue) (d__law_has : Dn P w K mg base CX0 1 "_law_has" (sp_lhas C)) :
    FnOk P w K mg base CX0 30 f0 fd0 ["_law_script"] (sp_law K) := by
  have T := X.toPnT
  refine F0.ok sc_law (fun vs H Q E h => ?_) (fun cdv A outer s H vs Q E hr h => ?_)
  · obtain ⟨a, ns, rfl, _⟩ := h; rfl
  · obtain ⟨a, ns, rfl, ha, hn, q⟩ := h
    refine ⟨_, (pss_cons (ps_set (i := 1) sc_law.nd rfl (Or.inr rfl) (pe_d d__law_pool hr (by decide) pass0 (by rfl) (pa_cons (pv 0) pa_nil)))
      (pss_cons (ps_set (i := 2) sc_law.nd rfl (Or.inr rfl) (pe_d d__law_names hr (by decide) pass0 (by rfl) (pa_cons (pv 1) (pa_cons (pe_ix ix_seq (pe_lst (pa_cons pe_int (pa_cons pe_int (pa_cons pe_int (pa_cons pe_int pa_nil))))) (pe_d d__law_draw hr (by decide) pass0 (by rfl) (pa_cons (pv 1) (pa_cons pe_int pa_nil))) (fun _ _ => rfl)) pa_nil))))
      (pss_cons (ps_set (i := 3) sc_law.nd rfl (Or.inl rfl) (pe_tup (pa_cons (pe_cv T.cv_MOST_LANES (by rfl)) (pa_cons (pe_cv T.cv_MOST_NAMES (by rfl)) pa_nil))))
      (pss_cons (ps_if (pw_or (pt_cmpR (op_neA (hr.units)) (pv 3) (pe_tup (pa_cons pe_int (pa_cons pe_int pa_nil))) (nomark _)) (pw_or (pt_not (pt_val (pe_d d__law_is_number hr (by decide) pass0 (by rfl) (pa_cons (pe_ix ix_seq (pv 3) pe_int (fun _ _ => rfl)) pa_nil)))) (pw_or1 (pt_not (pt_val (pe_d d__law_is_number hr (by decide) pass0 (by rfl) (pa_cons (pe_ix ix_seq (pv 3) pe_int (fun _ _ => rfl)) pa_nil))))))).pt (pss_one (ps_ret pe_bl)) pss_nil)
      (pss_cons (ps_set (i := 4) sc_law.nd rfl (Or.inl rfl) (pe_lst (pa_cons (pe_cmX0 CM_empty hr (by decide) (fun σ => passAt takes0 σ) (by rfl)) pa_nil)))
      (pss_cons (ps_set (i := 5) sc_law.nd rfl (Or.inl rfl) (pe_lst (pa_cons (pe_lst pa_nil) pa_nil)))
      (pss_cons (ps_for PassesOwn.never rfl (pi_range1 (by rfl) T.n_range (pa_cons pe_int pa_nil)) (pg_name (i := 6) sc_law.nd rfl (Or.inl rfl)) (pss_cons (ps_setLc (i := 7) (own := [(".0", 13), ("_law_j", 14)]) (g := (gName 14)) (tt := tYes) rfl sc_law.nd rfl rfl (sw_true rfl rfl rfl (by decide +kernel)) (pi_range1 (by rfl) T.n_range (pa_cons (pv 6) pa_nil)) (blkOk_by (N := sc_law_N) (sc := defScope s_law) (by decide +kernel)) (fun _ _ _ _ _ => pg_name (i := 14) sc_law.nd rfl (Or.inl rfl)) (fun _ _ _ _ _ => pts_nil) (fun _ _ _ _ _ => (pe_ix (ix_seqK K rfl) (pv 2) (pe_d d__law_draw hr (by decide) pass0 (by rfl) (pa_cons (pv 1) (pa_cons (pe_callB (call_lenK K rfl) (by rfl) T.n_len (by decide +kernel) (pa_cons (pv 2) pa_nil)) pa_nil))) (fun _ _ => rfl))))
      (pss_cons (ps_set (i := 8) sc_law.nd rfl (Or.inl rfl) (pe_d d__law_of hr (by decide) pass0 (by rfl) (pa_cons (pv 7) pa_nil)))
      (pss_one (ps_if (pt_cmpR (op_eqA (hr.units)) (pv 6) pe_int (nomark _)) (pss_one (ps_if (pt_cmpR (op_neA (hr.units)) (pv 8) (pe_lst pa_nil) (nomark _)) (pss_one (ps_ret pe_bl)) pss_nil)) (pss_one (ps_if (pw_or (pt_cmpR (op_neA (hr.units)) (pe_callB call_lenA (by rfl) T.n_len (by decide +kernel) (pa_cons (pv 8) pa_nil)) pe_int (nomark _)) (pw_or1 (pt_not (pt_val (pe_d d__law_has hr (by decide) pass0 (by rfl) (pa_cons (pe_ix ix_seq (pv 8) pe_int (fun _ _ => rfl)) (pa_cons (pe_lst (pa_cons (pv 7) pa_nil)) pa_nil))))))).pt (pss_one (ps_ret pe_bl)) (pss_cons (ps_expr (pe_bm PySem.F.plainAttrs_list PySem.F.slot_list_append PySem.F.type_list_append mt_append (pv 4) (pa_cons (pe_ix ix_seq (pv 8) pe_int (fun _ _ => rfl)) pa_nil)))
      (pss_one (ps_expr (pe_bm PySem.F.plainAttrs_list PySem.F.slot_list_append PySem.F.type_list_append mt_append (pv 5) (pa_cons (pe_lst (pa_cons (pv 7) pa_nil)) pa_nil))))))))))))
      (pss_cons (ps_for PassesOwn.never rfl (pi_range1 (by rfl) T.n_range (pa_cons pe_int pa_nil)) (pg_name (i := 6) sc_law.nd rfl (Or.inl rfl)) (pss_cons (ps_set (i := 9) sc_law.nd rfl (Or.inl rfl) (pe_op op_modA (pe_callTy call_intA (by rfl) T.n_int (by decide +kernel) (pa_cons (pe_op op_addA (pe_d d__law_draw hr (by decide) pass0 (by rfl) (pa_cons (pv 1) (pa_cons (pe_callB call_lenA (by rfl) T.n_len (by decide +kernel) (pa_cons (pv 4) pa_nil)) pa_nil))) (pv 6)) pa_nil)) (pe_callB call_lenA (by rfl) T.n_len (by decide +kernel) (pa_cons (pv 4) pa_nil))))
      (pss_cons (ps_set (i := 10) sc_law.nd rfl (Or.inl rfl) (pe_op op_modA (pe_callTy call_intA (by rfl) T.n_int (by decide +kernel) (pa_cons (pe_op op_addA (pe_d d__law_draw hr (by decide) pass0 (by rfl) (pa_cons (pv 1) (pa_cons (pe_callB call_lenA (by rfl) T.n_len (by decide +kernel) (pa_cons (pv 4) pa_nil)) pa_nil))) pe_int) pa_nil)) (pe_callB call_lenA (by rfl) T.n_len (by decide +kernel) (pa_cons (pv 4) pa_nil))))
      (pss_cons (ps_set (i := 11) sc_law.nd rfl (Or.inl rfl) (pe_cmpR (op_eqA (hr.units)) (pe_d d__law_draw hr (by decide) pass0 (by rfl) (pa_cons (pv 1) (pa_cons pe_int pa_nil))) pe_int (nomark _)))
      (pss_cons (ps_set (i := 12) sc_law.nd rfl (Or.inl rfl) (pe_d d__law_due hr (by decide) pass0 (by rfl) (pa_cons (pe_ix ix_seq (pv 5) (pv 9) (fun _ _ => rfl)) (pa_cons (pe_ix ix_seq (pv 5) (pv 10) (fun _ _ => rfl)) (pa_cons (pv 11) pa_nil)))))
      (pss_cons (ps_set (i := 8) sc_law.nd rfl (Or.inl rfl) (pe_d d__law_joined hr (by decide) pass0 (by rfl) (pa_cons (pe_ix ix_seq (pv 4) (pv 9) (fun _ _ => rfl)) (pa_cons (pe_ix ix_seq (pv 4) (pv 10) (fun _ _ => rfl)) (pa_cons (pv 11) pa_nil)))))
      (pss_cons (ps_if (pw_or (pt_not (pt_val (pe_d d__law_has hr (by decide) pass0 (by rfl) (pa_cons (pe_ix ix_seq (pv 4) (pv 9) (fun _ _ => rfl)) (pa_cons (pe_ix ix_seq (pv 5) (pv 9) (fun _ _ => rfl)) pa_nil))))) (pw_or1 (pt_not (pt_val (pe_d d__law_has hr (by decide) pass0 (by rfl) (pa_cons (pe_ix ix_seq (pv 4) (pv 10) (fun _ _ => rfl)) (pa_cons (pe_ix ix_seq (pv 5) (pv 10) (fun _ _ => rfl)) pa_nil))))))).pt (pss_one (ps_ret pe_bl)) pss_nil)
      (pss_one (ps_if (pt_cmpR op_isNone (pv 12) pe_non (nomark _)) (pss_one (ps_if (pt_cmpR (op_neA (hr.units)) (pv 8) (pe_lst pa_nil) (nomark _)) (pss_one (ps_ret pe_bl)) pss_nil)) (pss_one (ps_if (pw_or (pt_cmpR (op_neA (hr.units)) (pe_callB call_lenA (by rfl) T.n_len (by decide +kernel) (pa_cons (pv 8) pa_nil)) pe_int (nomark _)) (pw_or1 (pt_not (pt_val (pe_d d__law_has hr (by decide) pass0 (by rfl) (pa_cons (pe_ix ix_seq (pv 8) pe_int (fun _ _ => rfl)) (pa_cons (pv 12) pa_nil))))))).pt (pss_one (ps_ret pe_bl)) (pss_cons (ps_expr (pe_bm PySem.F.plainAttrs_list PySem.F.slot_list_append PySem.F.type_list_append mt_append (pv 4) (pa_cons (pe_ix ix_seq (pv 8) pe_int (fun _ _ => rfl)) pa_nil)))
      (pss_one (ps_expr (pe_bm PySem.F.plainAttrs_list PySem.F.slot_list_append PySem.F.type_list_append mt_append (pv 5) (pa_cons (pv 12) pa_nil))))))))))))))))
      (pss_one (ps_ret pe_bl)))))))))), ?_⟩
    walk_at "rd"
    have z4 : (4 : Nat) ≤ sizeLine := by rw [sizeLine_eq]; decide
    have z2 : (2 : Nat) ≤ sizeLine := by rw [sizeLine_eq]; decide
    have z1 : (1 : Nat) ≤ sizeLine := by rw [sizeLine_eq]; decide
    refine ⟨a, ns, rfl, ha, hn, fun p H1 hp0 hp1 s1 => pickL (ls := [3, 2, 5, 4]) hp1 (by decide) (by decide) rfl fun c H2 hc hp2 b2 => ?_⟩
    have hc2 : 2 ≤ c ∧ c ≤ 5 := by
      simp only [List.mem_cons, List.not_mem_nil, or_false] at hc
      omega
    refine ⟨p, c, rfl, hp2, by omega, hc2.2, fun wl H3 xs hxl hnm hw0 hw hp3 b3 => ⟨z2, fun t ht => ⟨z2, fun t2 ht2 => neTT (xs := [.int 3, .int 4]) rfl (UL.Same.new ht2 _ _ upd_same) upd_same ⟨false, rfl, ?_⟩⟩⟩⟩
    have s34 : Same H3 (upd (upd H3 t (.tup [.int 3, .int 4])) t2 (.tup [.int 3, .int 4])) := Same.tr (UL.Same.new ht) (UL.Same.new ht2)
    have ht4 : (upd (upd H3 t (.tup [.int 3, .int 4])) t2 (.tup [.int 3, .int 4])) t = some (.tup [.int 3, .int 4]) := UL.Same.new ht2 _ _ upd_same
    generalize upd (upd H3 t (.tup [.int 3, .int 4])) t2 (.tup [.int 3, .int 4]) = H4 at s34 ht4 ⊢
    rw [if_neg (by decide)]
    refine ixT (.inl (.inl ht4)) (atN (n := 0) rfl) ⟨_, rfl, true, rfl, ?_⟩
    rw [if_neg (by decide)]
    refine ixT (.inl (.inl ht4)) (atN (n := 1) rfl) ⟨_, rfl, true, rfl, ?_⟩
    rw [if_neg (by decide)]
    unfold tBCX
    walk_at "rd"
    refine ⟨rfl, fun x H5 px s45 => ⟨z1, fun pl hpl q1 hq1 => ⟨z1, fun ml hml => ⟨by decide, by decide, ?_⟩⟩⟩⟩
    have wp : wl ≠ p := fun e => by
      obtain ⟨ns, e2⟩ := hp2
      rw [e, e2] at hw0; cases hw0
    have s35 : Same H3 H5 := Same.tr s34 s45
    obtain ⟨n3, hp3'⟩ := hp3
    have hp5 : H5 p = some (.lst (n3.map V.int)) := s35 _ _ hp3'
    have hw5 : H5 wl = some (.lst (xs.map V.str)) := s35 _ _ hw
    have sA : Same H5 (upd H5 pl (.lst [V.ref x])) := UL.Same.new hpl
    have sB : Same (upd H5 pl (.lst [V.ref x])) (upd (upd H5 pl (.lst [V.ref x])) q1 (.lst [])) := UL.Same.new hq1
    have sC : Same (upd (upd H5 pl (.lst [V.ref x])) q1 (.lst [])) (upd (upd (upd H5 pl (.lst [V.ref x])) q1 (.lst [])) ml (.lst [V.ref q1])) := UL.Same.new hml
    have s58 := Same.tr sA (Same.tr sB sC)
    have st0 : St C (upd (upd (upd H5 pl (.lst [V.ref x])) q1 (.lst [])) ml (.lst [V.ref q1])) p wl pl ml xs [(x, [])] [(q1, [])] := by
      have q1p : q1 ≠ p := fun e => by rw [e, sA _ _ hp5] at hq1; cases hq1
      have q1l : q1 ≠ pl := fun e => by rw [e, upd_same] at hq1; cases hq1
      have q1m : q1 ≠ ml := fun e => by rw [← e, upd_same] at hml; cases hml
      have mlp : ml ≠ p := fun e => by rw [e, sB _ _ (sA _ _ hp5)] at hml; cases hml
      have plm : pl ≠ ml := fun e => by rw [← e, sB _ _ upd_same] at hml; cases hml
      refine ⟨⟨n3, s58 _ _ hp5⟩, s58 _ _ hw5, sC _ _ (sB _ _ upd_same), upd_same, wp, plm, (fun e => by rw [e, hp5] at hpl; cases hpl), mlp, (fun e => by rw [← e, hw5] at hpl; cases hpl), (fun e => by rw [← e, sB _ _ (sA _ _ hw5)] at hml; cases hml), fun q hq => ?_, fun q hq => ?_, fun q hq => ?_, rfl, by simp⟩
      · rw [List.mem_singleton.mp hq]; exact px.same s58
      · rw [List.mem_singleton.mp hq]
        exact ⟨⟨sC _ _ upd_same, fun l hl => absurd hl (by simp)⟩, by simp [q1p, q1l, q1m], fun l hl => absurd hl (by simp)⟩
      · rw [List.mem_singleton.mp hq]
        exact ⟨by simp [nms], by simp [nms], by simp [nms]⟩
    have xs1 : xs.map V.str ≠ [] := fun e => by
      have := congrArg List.length e
      rw [List.length_map] at this
      simp only [List.length_nil] at this
      omega
    have xok : ∀ z ∈ xs, PyData.strOk z = true := fun z hz => nm_strOk (hnm z hz)
    generalize upd (upd (upd H5 pl (.lst [V.ref x])) q1 (.lst [])) ml (.lst [V.ref q1]) = H8 at st0 ⊢
    refine FJ.rangeI (fun i σ' H' => ∃ (ps ms : List (Addr × Ln)) (z6 z7 z8 z9 z10 z11 z12 z13 z14 : Option V), σ' = [some (.ref a), some (.ref p), some (.ref wl), some (.ref t), some (.ref pl), some (.ref ml), z6, z7, z8, z9, z10, z11, z12, z13, z14] ∧ St C H' p wl pl ml xs ps ms ∧ ps.length ≤ i + 1) (by decide) ⟨_, _, _, _, _, _, _, _, _, _, _, rfl, st0, by simp⟩ (fun i σ' H' hi inv => ?_) fun σ' H' inv => ?_
    · obtain ⟨ps, ms, z6, z7, z8, z9, z10, z11, z12, z13, z14, rfl, st, hl⟩ := inv
      walk_at "rd"
      have Dn0 : ∀ D, H' D = none → D ∉ [p, pl, ml] := fun D hD => st.free hD
      refine ⟨by omega, by omega, fun D hD => LJ.it walk_range (fun j H2 => ∃ nn : List Str, nn.length = j ∧ (∀ z ∈ nn, z ∈ xs) ∧ H2 D = some (.lst (nn.map V.str)) ∧ Pl H2 p ∧ But p H' H2) ⟨[], rfl, (fun z hz => absurd hz (by simp)), upd_same, st.hp.put (st.hp.ne hD), UL.Same.but (UL.Same.new hD)⟩ (fun _ _ _ _ => trivial) (fun j y H2 H3 hj e yy => ?_) fun H2 e => ?_⟩
      · obtain ⟨rfl, rfl⟩ := yy
        obtain ⟨nn, hnl, hnx, hD2, hp2', b2'⟩ := e
        refine ⟨rfl, ?_⟩
        walk_at "rd"
        have Dp : D ≠ p := fun e => Dn0 D hD (by simp [e])
        refine drawAt hp2' (b2' _ _ st.hw wp) wp xs1 fun x H4 hx hp4 b4 => ?_
        obtain ⟨z, hz, rfl⟩ := List.mem_map.mp hx
        refine ⟨_, b4 _ _ hD2 Dp, by rw [List.length_map, sizeLine_eq]; omega, nn ++ [z], by rw [List.length_append, hnl]; rfl, fun y hy => ?_, by rw [upd_same, List.map_append]; rfl, hp4.put (Ne.symm Dp), fun c o e n => ?_⟩
        · rcases List.mem_append.mp hy with h | h
          · exact hnx y h
          · rw [List.mem_singleton.mp h]; exact hz
        · rw [upd_ne (ne_of_none e hD)]; exact b4 _ _ (b2' _ _ e n) n
      · obtain ⟨nn, hnl, hnx, hD2, hp2', b2'⟩ := e
        have st2 := st.sm b2' hp2'
        have nok : ∀ z ∈ nn, PyData.strOk z = true := fun z hz => xok z (hnx z hz)
        refine ⟨D, nn, rfl, hD2, by omega, fun h4 r x q0 H3' hr px3 s3 => ?_, fun h5 r H3' hr s3 => ?_⟩
        · dsimp only
          rw [if_neg (by omega)]
          refine lenL (.inl (.inl hr)) (neII.mpr ⟨_, rfl, ?_⟩)
          rw [if_neg (by simp)]
          refine ixL (.inl (.inl hr)) (atN (n := 0) rfl) ⟨z1, fun m hm => ⟨x, m, [(q0, nn)], [(D, nn)], rfl, px3.same (UL.Same.new hm), ⟨upd_same, fun l hl => by rw [List.mem_singleton.mp hl]; exact UL.Same.new hm _ _ (s3 _ _ hD2)⟩, by simp, fun l hl => by rw [List.mem_singleton.mp hl]; exact nok, rfl, fun H6 s6 => ⟨true, rfl, ?_⟩⟩⟩
          rw [if_neg (by decide)]
          have s36 : Same H3' H6 := Same.tr (UL.Same.new hm) s6
          have st6 := (st2.same s3).same s36
          have hr6 := s36 _ _ hr
          refine ⟨.inl ⟨rfl, _, .inl (.inl st6.h1)⟩, ixL (.inl (.inl hr6)) (atN (n := 0) rfl) ⟨pl, _, _, rfl, rfl, st6.h1, by rw [List.length_map, sizeLine_eq]; omega, .inl ⟨rfl, _, .inl (.inl (show _ = some (HO.lst _) by rw [upd_ne (Ne.symm st6.n12)]; exact st6.h2))⟩, z1, fun m2 hm2 => ?_⟩⟩
          have m2p : pl ≠ m2 := fun e => by rw [← e, upd_same] at hm2; cases hm2
          have hm6 : H6 m2 = none := by rw [upd_ne (Ne.symm m2p)] at hm2; exact hm2
          have m2m : m2 ≠ ml := fun e => by rw [e, st6.h2] at hm6; cases hm6
          have st7 := st6.same (show Same H6 (upd H6 m2 (.lst [V.ref D])) from UL.Same.new hm6)
          have lm : ms.length = ps.length := by have := congrArg List.length st.eq; rw [List.length_map, List.length_map] at this; exact this.symm
          refine ⟨ml, _, _, rfl, rfl, (show _ = some (HO.lst _) by rw [upd_ne (Ne.symm m2m), upd_ne (Ne.symm st6.n12)]; exact st6.h2), by rw [List.length_map, sizeLine_eq]; omega, ⟨_, rfl⟩, ps ++ [(x, [(q0, nn)])], ⟨ms ++ [(m2, [(D, nn)])], ?_⟩, by rw [List.length_append]; simp only [List.length_cons, List.length_nil]; omega⟩
          rw [upd_sw m2p]
          refine st7.more ((px3.same s36).same (UL.Same.new hm6)) ⟨⟨upd_same, fun l hl => ?_⟩, st6.free hm6, fun l hl => ?_⟩ rfl ⟨by simp, fun l hl => ?_, fun l hl => ?_⟩
          · rw [List.mem_singleton.mp hl]; exact UL.Same.new hm6 _ _ (s36 _ _ (s3 _ _ hD2))
          · rw [List.mem_singleton.mp hl]; exact Dn0 D hD
          · rw [List.mem_singleton.mp hl]; exact h4
          · rw [List.mem_singleton.mp hl]; exact nok
        · dsimp only
          rw [if_pos (by omega)]
          refine fun p1 hp1 => neL0 (xs := []) rfl (.inl (.inl (UL.Same.new hp1 _ _ hr))) (.inl (.inl upd_same)) ⟨_, rfl, ?_⟩
          rw [if_neg (by simp)]
          exact ⟨⟨_, rfl⟩, ps, ⟨ms, (st2.same s3).same (UL.Same.new hp1)⟩, by omega⟩
    · obtain ⟨ps, ms, z6, z7, z8, z9, z10, z11, z12, z13, z14, rfl, st, hl⟩ := inv
      walk_at "rd"
      refine ⟨by decide, by decide, ?_⟩
      refine FJ.rangeI (fun i σ' H' => ∃ (ps ms : List (Addr × Ln)) (z6 z7 z8 z9 z10 z11 z12 z13 z14 : Option V), σ' = [some (.ref a), some (.ref p), some (.ref wl), some (.ref t), some (.ref pl), some (.ref ml), z6, z7, z8, z9, z10, z11, z12, z13, z14] ∧ St C H' p wl pl ml xs ps ms ∧ ps.length ≤ i + 7) (by decide) ⟨_, _, _, _, _, _, _, _, _, _, _, rfl, st, by simpa using hl⟩ (fun i σ' H' hi inv => ?_) fun σ' H' inv => ?_
      · obtain ⟨ps, ms, z6, z7, z8, z9, z10, z11, z12, z13, z14, rfl, st, hl⟩ := inv
        walk_at "rd"
        have n0 := st.one
        have lm : ms.length = ps.length := by have := congrArg List.length st.eq; rw [List.length_map, List.length_map] at this; exact this.symm
        have lp : (ps.map fun q => V.ref q.1).length = ps.length := List.length_map _
        have ix : ∀ v : Int, ∃ k : Nat, v % ((ps.map fun q => V.ref q.1).length : Int) = k ∧ ∃ a b, ps[k]? = some a ∧ ms[k]? = some b ∧ nms a.2 = nms b.2 ∧ a ∈ ps ∧ b ∈ ms := fun v => by
          have h0 := Int.emod_nonneg v (b := ((ps.map fun q => V.ref q.1).length : Int)) (by omega)
          have h1 := Int.emod_lt_of_pos v (b := ((ps.map fun q => V.ref q.1).length : Int)) (by omega)
          generalize v % ((ps.map fun q => V.ref q.1).length : Int) = u at h0 h1
          obtain ⟨k, rfl⟩ := Int.eq_ofNat_of_zero_le h0
          have k1 : k < ps.length := by omega
          have k2 : k < ms.length := by omega
          refine ⟨k, rfl, ps[k], ms[k], List.getElem?_eq_getElem k1, List.getElem?_eq_getElem k2, ?_, List.getElem_mem k1, List.getElem_mem k2⟩
          have h := congrArg (fun l => l[k]?) st.eq
          simp only [List.getElem?_map, List.getElem?_eq_getElem k1, List.getElem?_eq_getElem k2, Option.map_some] at h
          exact Option.some.inj h
        refine lenL (.inl (.inl st.h1)) (drawI (by omega) st.hp fun r1 H1 r10 r11 hp1' b1' => addII.mpr (cIntI.mpr ?_))
        have st1 := st.sm b1' hp1'
        refine lenL (.inl (.inl st1.h1)) ⟨_, rfl, _, rfl, by omega, lenL (.inl (.inl st1.h1)) (drawI (by omega) hp1' fun r2 H2 r20 r21 hp2' b2' => addII.mpr (cIntI.mpr ?_))⟩
        have st2 := st1.sm b2' hp2'
        refine lenL (.inl (.inl st2.h1)) ⟨_, rfl, _, rfl, by omega, drawI (by decide) hp2' fun r3 H3' r30 r31 hp3' b3' => eqII.mpr ?_⟩
        have st3 := st2.sm b3' hp3'
        obtain ⟨k1, e1, pa, ma, epa, ema, en1, ipa, ima⟩ := ix (r1 + ↑i)
        obtain ⟨k2, e2, pb, mb, epb, emb, en2, ipb, imb⟩ := ix (r2 + 1)
        rw [e1, e2]
        generalize decide (r3 = 0) = wv
        have i1 : ∀ {H : Hp} {Q : VK}, H ml = some (.lst (ms.map fun q => V.ref q.1)) → Q (.ref ma.1) H → rIx K (.ref ml) (.int (k1 : Int)) H Q := fun h q => ixL (.inl (.inl h)) (atN (by rw [List.getElem?_map, ema]; rfl)) q
        have i2 : ∀ {H : Hp} {Q : VK}, H ml = some (.lst (ms.map fun q => V.ref q.1)) → Q (.ref mb.1) H → rIx K (.ref ml) (.int (k2 : Int)) H Q := fun h q => ixL (.inl (.inl h)) (atN (by rw [List.getElem?_map, emb]; rfl)) q
        have j1 : ∀ {H : Hp} {Q : VK}, H pl = some (.lst (ps.map fun q => V.ref q.1)) → Q (.ref pa.1) H → rIx K (.ref pl) (.int (k1 : Int)) H Q := fun h q => ixL (.inl (.inl h)) (atN (by rw [List.getElem?_map, epa]; rfl)) q
        have j2 : ∀ {H : Hp} {Q : VK}, H pl = some (.lst (ps.map fun q => V.ref q.1)) → Q (.ref pb.1) H → rIx K (.ref pl) (.int (k2 : Int)) H Q := fun h q => ixL (.inl (.inl h)) (atN (by rw [List.getElem?_map, epb]; rfl)) q
        have oa := okL_of (st.ok _ ipa)
        have ob := okL_of (st.ok _ ipb)
        have oma : okL ma.2 := okL_of (by rw [← en1]; exact st.ok _ ipa)
        have omb : okL mb.2 := okL_of (by rw [← en2]; exact st.ok _ ipb)
        -- both plans are as they were
        have has2 : ∀ {H : Hp} {R : VK} {R2 : VK}, St C H p wl pl ml xs ps ms → (∀ H', Same H H' → R (.bl true) H') → sp_lhas C [.ref pa.1, .ref ma.1] H R E0 := fun {H R R2} s h => ⟨_, _, pa.2, ma.2, rfl, s.pp _ ipa, (s.mm _ ima).1, oa.1, oa.2.2, en1, h⟩
        have has3 : ∀ {H : Hp} {R : VK} {R2 : VK}, St C H p wl pl ml xs ps ms → (∀ H', Same H H' → R (.bl true) H') → sp_lhas C [.ref pb.1, .ref mb.1] H R E0 := fun {H R R2} s h => ⟨_, _, pb.2, mb.2, rfl, s.pp _ ipb, (s.mm _ imb).1, ob.1, ob.2.2, en2, h⟩
        refine i1 st3.h2 (i2 st3.h2 ⟨_, _, wv, ma.2, mb.2, rfl, (st3.mm _ ima).1, (st3.mm _ imb).1, oma.1, omb.1, oma.2.1, omb.2.1, fun Ls hd r zs H4' hr hzs mz ez s4 => ?_, fun hd => ?_⟩)
        · have st4 := st3.same s4
          have hd' := hd
          rw [← en1, ← en2] at hd'
          refine j1 st4.h1 (j2 st4.h1 ⟨_, _, wv, pa.2, pb.2, rfl, st4.pp _ ipa, st4.pp _ ipb, oa.1, ob.1, oa.2.1, ob.2.1, fun Ls2 hd2 r5 c zs5 H5' hr5 pc ez5 s5 => ?_, fun hd2 => by rw [hd'] at hd2; cases hd2⟩)
          have eL : Ls2 = Ls := by rw [hd'] at hd2; exact (Option.some.inj hd2).symm
          have st5 := st4.same s5
          refine j1 st5.h1 (i1 st5.h2 (has2 (R2 := Q) st5 fun H6 s6 => ⟨true, rfl, ?_⟩))
          rw [if_neg (by decide)]
          have st6 := st5.same s6
          refine j2 st6.h1 (i2 st6.h2 (has3 (R2 := Q) st6 fun H7 s7 => ⟨true, rfl, ?_⟩))
          rw [if_neg (by decide)]
          have st7 := st6.same s7
          have s57 := Same.tr s6 s7
          have s47 := Same.tr s5 s57
          refine ⟨rfl, _, rfl, ?_⟩
          rw [if_neg (by simp)]
          have hr7 := s57 _ _ hr5
          refine lenL (.inl (.inl hr7)) (neII.mpr ⟨_, rfl, ?_⟩)
          rw [if_neg (by simp)]
          have okz : okN (nms zs5) := by rw [ez5]; exact okN_due (st.ok _ ipa) (st.ok _ ipb) hd2
          have okz2 := okL_of okz
          have enz : nms zs5 = nms zs := by rw [ez5, ez, eL]
          refine ixL (.inl (.inl hr7)) (atN (n := 0) rfl) ⟨c, r, zs5, zs, rfl, pc.same s57, mz.same s47, okz2.1, okz2.2.2, enz, fun H8 s8 => ⟨true, rfl, ?_⟩⟩
          rw [if_neg (by decide)]
          have st8 := st7.same s8
          refine ⟨.inl ⟨rfl, _, .inl (.inl st8.h1)⟩, ixL (.inl (.inl (s8 _ _ hr7))) (atN (n := 0) rfl) ⟨pl, _, _, rfl, rfl, st8.h1, by rw [List.length_map, sizeLine_eq]; omega, .inl ⟨rfl, _, .inl (.inl (show _ = some (HO.lst _) by rw [upd_ne (Ne.symm st8.n12)]; exact st8.h2))⟩, ml, _, _, rfl, rfl, (show _ = some (HO.lst _) by rw [upd_ne (Ne.symm st8.n12)]; exact st8.h2), by rw [List.length_map, sizeLine_eq]; omega, ⟨_, rfl⟩, ps ++ [(c, zs5)], ⟨ms ++ [(r, zs)], ?_⟩, by rw [List.length_append]; simp only [List.length_cons, List.length_nil]; omega⟩⟩
          refine st8.more ((pc.same s57).same s8) ⟨(mz.same s47).same s8, st3.free hr, fun l hl => ?_⟩ enz okz
          rcases hzs l hl with h | h | h
          · exact st3.free h
          · exact (st3.mm _ ima).2.2 l h
          · exact (st3.mm _ imb).2.2 l h
        · have hd' := hd
          rw [← en1, ← en2] at hd'
          refine j1 st3.h1 (j2 st3.h1 ⟨_, _, wv, pa.2, pb.2, rfl, st3.pp _ ipa, st3.pp _ ipb, oa.1, ob.1, oa.2.1, ob.2.1, (fun Ls2 hd2 => by rw [hd'] at hd2; cases hd2), fun hd2 r5 H5' hr5 s5 => ?_⟩)
          have st5 := st3.same s5
          refine j1 st5.h1 (i1 st5.h2 (has2 (R2 := Q) st5 fun H6 s6 => ⟨true, rfl, ?_⟩))
          rw [if_neg (by decide)]
          have st6 := st5.same s6
          refine j2 st6.h1 (i2 st6.h2 (has3 (R2 := Q) st6 fun H7 s7 => ⟨true, rfl, ?_⟩))
          rw [if_neg (by decide)]
          have st7 := st6.same s7
          refine ⟨rfl, _, rfl, ?_⟩
          rw [if_pos (by simp)]
          refine fun p1 hp1 => neL0 (xs := []) rfl (.inl (.inl (UL.Same.new hp1 _ _ (s7 _ _ (s6 _ _ hr5))))) (.inl (.inl upd_same)) ⟨_, rfl, ?_⟩
          rw [if_neg (by simp)]
          exact ⟨⟨_, rfl⟩, ps, ⟨ms, st7.same (UL.Same.new hp1)⟩, by omega⟩
      · obtain ⟨ps, ms, z6, z7, z8, z9, z10, z11, z12, z13, z14, rfl, st, hl⟩ := inv
        walk_at "rd"
        exact q _
end
end U

set_option Elab.async false
set_option linter.all false
set_option maxRecDepth 100000
set_option maxHeartbeats 4000000
set_option pp.deepTerms true
set_option pp.maxSteps 400000
namespace U
open PySem PySem.Spec PyProof.Rows L2 UL UX
local macro_rules | `(tactic| walk_at "rd") => `(tactic| simp only [sMatch, tJs, tFmt, tBC, tMethA, tMakeL, iEnumS, tSeq, tAsg, tOp, tCB, tCons, tNil, tVar, tC, tB, tTest, tNot, tIfS, tNext, tYes, tUn, rU, tM0, tGFrom, tGThen, tG0, tYfLst, gcxK, tSubO, tProp, tListG, tMethG, tBMF, tFld, sFld, tMeth, tMake, tSl, tNoPart, tPart, tM1, gTup, gCons, gNil, tDrop, tFor_eq, tLc_eq, tLc2_eq, iRng1_eq, StX.tStar, iList, iTup, iStr, iAny_var, iZipB, tLenSetS, wipe, tVar, tAndV, tOrV, tNotV, tOr, tAnd, tLst, tTup, tBM, tBM0, tChain, tCall, cxK, noxK, addII, addSS, mulII, eqII, neII, neSS, cIntI, cAbsI, rI, rI0, rLt, rLe, rGt_, rGe_, rSub_, rMod, rPow, rDivW, rNeg, gName, tRet, L2.start, List.length_cons, List.length_nil, List.map_cons, List.map_nil, List.replicate, List.cons_append, List.nil_append, List.getElem?_cons_zero, List.getElem?_cons_succ, List.set_cons_zero, List.set_cons_succ, Option.some.injEq, exists_eq_left', exists_eq_left, V.int.injEq, V.bl.injEq, V.str.injEq, V.ref.injEq, V.ty.injEq, List.cons.injEq, and_true, true_and, reduceCtorEq, false_and, exists_false, or_false, false_or, exists_and_left, exists_and_right, List.append_nil, forall_eq, decide_eq_true_eq, Bool.not_eq_true, Nat.reduceAdd, Nat.reduceSub, List.replicate_zero, List.replicate_succ, Nat.zero_le, ite_true, ite_false, if_true, if_false])
section
variable {P : Program} {w : World} {K : PySem.W.Frag} {mg : Str → Option Value} {base : Heap}
open UV UW ClX
theorem td_mk {h : Heap} {x : Str} {st : Stmt} {f : Addr} {oc kV dc pm cd ct : Value} {od an : Option Addr} {sl : Array (Option Value)} (X : K.In h) (G : h.Ns mainGlobals mg) (a : PySem.W.nsIn K mainGlobals x = some (some (.ref f)))
    (l : K.lookup f = some ⟨oc, od, .func (PySem.W.fnOf x x (defArgs st) (defBody st) (defScope st) .none kV dc pm an cd ct), sl⟩) (c : PySem.W.codeIn K cd x = true) (k : PySem.W.keepIn K (.ref f) = true) : TD K mg x st := ⟨f, _, fun_mk l c k, PySem.W.mg_of X G a⟩
theorem md_mk {C : Addr} {m qual : Str} {st : Stmt} {f : Addr} {oc kV dc pm cd ct : Value} {od an : Option Addr} {sl : Array (Option Value)} (a : PySem.W.findIn K (.ref C) m = some (some (.ref f)))
    (l : K.lookup f = some ⟨oc, od, .func (PySem.W.fnOf m qual (defArgs st) (defBody st) (defScope st) .none kV dc pm an cd ct), sl⟩) (c : PySem.W.codeIn K cd qual = true) (i : PySem.W.isFn K (.ref f) = true) (k : PySem.W.keepIn K (.ref f) = true) : MD K C m qual st := ⟨f, _, fun_mk l c k, a, i, k⟩
theorem no_mk {h : Heap} {x : Str} (X : K.In h) (G : h.Ns mainGlobals mg) (a : PySem.W.nsIn K mainGlobals x = some none) : mg x = none := PySem.W.mg_none_of X G a
theorem gs_mk {h : Heap} {x z : Str} {t : Tok} (X : K.In h) (G : h.Ns mainGlobals mg) (a : PySem.W.nsIn K mainGlobals x = some (some (.str z t))) : ∃ u, mg x = some u ∧ RelV (.str z) u := ⟨_, PySem.W.mg_of X G a, _, rfl⟩
theorem gi_mk {h : Heap} {x : Str} {i : Int} {t : Tok} (X : K.In h) (G : h.Ns mainGlobals mg) (a : PySem.W.nsIn K mainGlobals x = some (some (.int i t))) : ∃ u, mg x = some u ∧ RelV (.int i) u := ⟨_, PySem.W.mg_of X G a, _, rfl⟩
theorem gr_mk {h : Heap} {x : Str} {a : Addr} (X : K.In h) (G : h.Ns mainGlobals mg) (e : PySem.W.nsIn K mainGlobals x = some (some (.ref a))) : ∃ u, mg x = some u ∧ RelV (.ref a) u := ⟨_, PySem.W.mg_of X G e, rfl⟩
theorem ga_mk {h : Heap} {x : Str} {a : Addr} (X : K.In h) (G : h.Ns mainGlobals mg) (e : PySem.W.nsIn K mainGlobals x = some (some (.ref a))) : mg x = some (.ref a) := PySem.W.mg_of X G e
theorem na_mk {C : Addr} {x : Str} (a : PySem.W.findIn K (.ref C) x = some none) : NoAttr K C x := a
theorem cfn_mk {C : Addr} {m : Str} {f : Addr} (a : PySem.W.findIn K (.ref C) m = some (some (.ref f))) (b : PySem.W.findCls K (.ref C) (.type "type") m = some (.val (.ref f))) (r : PySem.W.readsIn K C (.type "type") = true)
    (g : PySem.W.specialIn K (.ref C) "__getattribute__" = some (some (.builtin "type.__getattribute__"))) (k : PySem.W.keepIn K (.ref f) = true) : ∃ f, PySem.W.findIn K (.ref C) m = some (some (.ref f)) ∧ UX.CFn K C m f := ⟨f, a, b, ⟨r, g⟩, k⟩
theorem cm_mk {C : Addr} {m qual : Str} {st : Stmt} {q g : Addr} {rest : List Value} {oc kV dc pm cd ct : Value} {od an : Option Addr} {sl : Array (Option Value)} (b : PySem.W.findCls K (.ref C) (.type "type") m = some (.get (.builtin "classmethod.__get__") (.ref q) .none (.ref C))) (rc : PySem.W.recIn K q "classmethod" = some (.ref g :: rest))
    (r : PySem.W.readsIn K C (.type "type") = true) (ga : PySem.W.specialIn K (.ref C) "__getattribute__" = some (some (.builtin "type.__getattribute__"))) (fi : PySem.W.fnIn K g = true)
    (l : K.lookup g = some ⟨oc, od, .func (PySem.W.fnOf m qual (defArgs st) (defBody st) (defScope st) .none kV dc pm an cd ct), sl⟩) (c : PySem.W.codeIn K cd qual = true) (k : PySem.W.keepIn K (.ref g) = true) :
    ∃ q g fd, ClX.CRead K C (.type "type") ∧ ClX.CMet K C (.type "type") m q g ∧ Fun K m qual st g fd := ⟨q, g, _, ⟨r, ga⟩, ⟨b, ⟨rest, rc⟩, fi⟩, fun_mk l c k⟩
/-- C(..) from its __init__ -/
theorem kn_of {C : Addr} {x : Str} {k : Nat} {sp : Sp} (d : Mn P w K mg base CX0 k C "__init__" sp) (mk : PySem.W.makesIn K C = true) (kc : PySem.W.keepIn K (.ref C) = true) (gc : mg x = some (.ref C)) : Kn P w K mg base CX0 k C x sp := by
  obtain ⟨f, fd, ps, FO, M, B⟩ := d.ex
  exact ⟨f, fd, ps, FO, ⟨mk, M.at_, M.fn, kc⟩, B, gc⟩
/-- C.m(self, ..) from its def -/
theorem bn_of {C : Addr} {x m : Str} {k : Nat} {sp : Sp} (d : Mn P w K mg base CX0 k C m sp) (h : ∃ f, PySem.W.findIn K (.ref C) m = some (some (.ref f)) ∧ UX.CFn K C m f) (gc : mg x = some (.ref C)) : UX.Bn P w K mg base k C x m sp := by
  obtain ⟨f, fd, ps, FO, M, B⟩ := d.ex
  obtain ⟨f2, e, c⟩ := h
  have z := M.at_.symm.trans e
  cases z
  exact ⟨f, fd, ps, FO, c, B, gc⟩
theorem ox_mk {C : Addr} {nm q : Str} {N : Addr} {bs bm : List Value} {sn : List Str} {sub : List Value} {ab : Bool} {col : Option Bool} {dd : Option Addr} {k0 k1 k2 k3 k5 : Option Value} (l : K.lookup C = some (excClassObj nm q C N bs bm true sn sub ab col dd k0 k1 k2 k3 k5 "ValueError.__new__")) (hb : PySem.HandSPX.refsVE bm = true)
    (sa : PySem.W.findIn K (.ref C) "__setattr__" = some (some (.builtin "object.__setattr__"))) (e : PySem.W.subIn K (.ref C) (.type "BaseException") = some true) (t : PySem.W.typeIn K (.ref C) = some (.type "type")) (k : PySem.W.keepIn K (.ref C) = true) : OexC K C := ⟨⟨nm, q, N, bs, bm, sn, sub, ab, col, dd, k0, k1, k2, k3, k5, l, hb⟩, sa, e, t, k⟩
theorem xd_mk {h : Heap} {C : Addr} {x qual : Str} {st : Stmt} {f c cc : Addr} {oc kV doc pm ct : Value} {od an : Option Addr} {osl : Array (Option Value)} {ccl : Value} {cdd : Option Addr} {vs : Array Value} {ccs : Array (Option Value)} {file : Str} {tf : Tok} {cl : Value} {cld : Option Addr} {csl : Array (Option Value)} (X : K.In h) (G : h.Ns mainGlobals mg) (ox : OexC K C)
    (gc : PySem.W.nsIn K mainGlobals x = some (some (.ref C))) (fi : PySem.W.findIn K (.ref C) "__init__" = some (some (.ref f))) (lk : K.lookup f = some ⟨oc, od, .func (PySem.W.fnX "__init__" qual (defArgs st) (defBody st) (defScope st) [("__class__", cc)] .none kV doc pm an (.ref c) ct), osl⟩) (hcd : PySem.W.codeIn K (.ref c) qual = true)
    (ty : PySem.W.typeIn K (.ref f) = some (.type "function")) (par : ∃ ar, ((defArgs st).posonlyargs ++ (defArgs st).args).head? = some ar ∧ ar.arg = "self") (lc : K.lookup c = some ⟨ccl, cdd, .fields vs, ccs⟩) (v2 : vs[2]? = some (.str file tf)) (fl : ((P.main.file : Str) == file) = true) (top : (P.main.scope.names.lookup ("super" : Str)).isSome = false)
    (lcc : K.lookup cc = some ⟨cl, cld, .cell (some (.ref C)), csl⟩) (nos : PySem.W.nsIn K mainGlobals "super" = some none) (sub : PySem.W.mroIn K C (.ref C) = some true) (op : PySem.W.nsIn K cStatics "thirdparty.any" = some none) (al : PySem.W.ks_superIn K C C "__init__" = some (some wr)) : XD P K mg C x qual st :=
  ⟨⟨f, c, cc, oc, kV, doc, pm, ct, od, an, osl, lk, hcd, ⟨⟨oc, od, osl, lk⟩, par, ⟨ccl, cdd, vs, ccs, file, tf, lc, v2, fl⟩, top, ⟨cl, cld, csl, lcc⟩, PySem.W.mg_none_of X G nos, sub, op, al⟩, fi, ty⟩, ox, PySem.W.mg_of X G gc⟩
theorem kx_of {C : Addr} {x : Str} {k : Nat} {sp : Sp} (d : Mn P w K mg base (L2.CX P w) k C "__init__" sp) (mk : PySem.W.makesIn K C = true) (kc : PySem.W.keepIn K (.ref C) = true) (gc : mg x = some (.ref C)) : Kn P w K mg base (L2.CX P w) k C x sp := by
  obtain ⟨f, fd, ps, FO, M, B⟩ := d.ex
  exact ⟨f, fd, ps, FO, ⟨mk, M.at_, M.fn, kc⟩, B, gc⟩
theorem cv_mk {h : Heap} {C : Addr} {x f : Str} {i : Int} {t : Tok} (X : K.In h) (G : h.Ns mainGlobals mg) (e : PySem.W.nsIn K mainGlobals x = some (some (.ref C))) (b : PySem.W.findCls K (.ref C) (.type "type") f = some (.val (.int i t))) (r : PySem.W.readsIn K C (.type "type") = true)
    (ga : PySem.W.specialIn K (.ref C) "__getattribute__" = some (some (.builtin "type.__getattribute__"))) : UX.CVn K mg x f (.int i) := ⟨C, .type "type", _, PySem.W.mg_of X G e, ⟨r, ga⟩, ⟨b, t, rfl⟩⟩
theorem bo_of {C : Addr} {m : Str} {k : Nat} {sp : Sp} {op : Operator} (d : Mn P w K mg base (L2.CX P w) k C m sp) (sf : PySem.W.selfFirst K C = true) (e : PySem.dunder op.info.2 = m) : UX.BOn P w K mg base (L2.CX P w) k C op sp := by
  obtain ⟨f, fd, ps, FO, M, B⟩ := d.ex
  exact ⟨f, fd, ps, FO, ⟨sf, by rw [e]; exact M.at_, M.fn⟩, B⟩
/-- everything that the law wants of the module -/
structure All (P : Program) (K : PySem.W.Frag) (mg : Str → Option Value) (C IP WE : Addr) : Prop where
  xl : LnX K mg C IP WE
  xd : XD P K mg IP "InvalidPlan" "InvalidPlan.__init__" s_IP
  gC : mg "Plan" = some (.ref C)
  mkC : PySem.W.makesIn K C = true
  kcC : PySem.W.keepIn K (.ref C) = true
  sf : PySem.W.selfFirst K C = true
  d_law_mixed : TD K mg "_law_mixed" s__law_mixed
  d_law_pool : TD K mg "_law_pool" s__law_pool
  d_law_draw : TD K mg "_law_draw" s__law_draw
  d_law_names : TD K mg "_law_names" s__law_names
  d_law_is_number : TD K mg "_law_is_number" s__law_is_number
  d_law_of : TD K mg "_law_of" s__law_of
  d_law_joined : TD K mg "_law_joined" s__law_joined
  d_law_due : TD K mg "_law_due" s__law_due
  d_law_has : TD K mg "_law_has" s__law_has
  m_init : MD K C "__init__" "Plan.__init__" s_Plan___init__
  m_add : MD K C "__add__" "Plan.__add__" s_Plan___add__
  m_or : MD K C "__or__" "Plan.__or__" s_Plan___or__
  cm_of : ∃ q g fd, ClX.CRead K C (.type "type") ∧ ClX.CMet K C (.type "type") "of" q g ∧ Fun K "of" "Plan.of" s_Plan_of g fd
  cm_empty : ∃ q g fd, ClX.CRead K C (.type "type") ∧ ClX.CMet K C (.type "type") "empty" q g ∧ Fun K "empty" "Plan.empty" s_Plan_empty g fd
theorem law_of {C IP WE : Addr} (a : All P K mg C IP WE) {f0 : Addr} {fd0 : FuncData} (F0 : Fun K "law" "law" s_law f0 fd0) : FnOk P w K mg base CX0 30 f0 fd0 ["_law_script"] (sp_law K) := by
  have X := a.xl
  have T := X.toPnT
  have N := T.toNm
  have xI : Xn P w K mg base 1 IP "InvalidPlan" (sp_I0 IP) := x_IP a.xd
  have iP : Mn P w K mg base (L2.CX P w) 4 C "__init__" (sp_pinit K C IP) := m_pinit T a.m_init xI
  have kP : Kn P w K mg base (L2.CX P w) 4 C "Plan" (sp_pinit K C IP) := kx_of iP a.mkC a.kcC a.gC
  have cmo : UX.CMnX P w K mg base (L2.CX P w) 6 C "Plan" "of" (sp_of C IP) := by
    obtain ⟨q, g, fd, cr, cm, F⟩ := a.cm_of
    exact ⟨q, g, _, cr, cm, f_of T F kP, a.gC⟩
  have cme : UX.CMnX P w K mg base (L2.CX P w) 6 C "Plan" "empty" (sp_empty C) := by
    obtain ⟨q, g, fd, cr, cm, F⟩ := a.cm_empty
    have ok := f_empty T F kP
    have hb : Binds K fd ["cls"] [] := F.binds (ps := ["cls"]) (fun _ _ _ _ _ _ us hl => match us, hl with | [_], _ => rfl)
    exact ⟨q, g, _, cr, cm, (ok.raw hb .nil).imp fun vs H Q E h => by rw [List.append_nil]; exact h, a.gC⟩
  have ad : Mn P w K mg base (L2.CX P w) 6 C "__add__" (sp_add C IP) := m_add T a.m_add xI kP
  have orr : Mn P w K mg base (L2.CX P w) 6 C "__or__" (sp_or C IP) := m_or T a.m_or kP
  have bo1 : UX.BOn P w K mg base (L2.CX P w) 6 C .Add (sp_add C IP) := bo_of ad a.sf (by decide +kernel)
  have bo2 : UX.BOn P w K mg base (L2.CX P w) 6 C .BitOr (sp_or C IP) := bo_of orr a.sf (by decide +kernel)
  have hmix : Dn P w K mg base CX0 1 "_law_mixed" sp_mixed := d_mixed N a.d_law_mixed
  have hpool : Dn P w K mg base CX0 2 "_law_pool" (sp_pool K) := d_pool N a.d_law_pool hmix
  have hdraw : Dn P w K mg base CX0 1 "_law_draw" sp_draw := d_draw N a.d_law_draw
  have hnames : Dn P w K mg base CX0 2 "_law_names" sp_names := d_names N a.d_law_names hdraw
  have hnum : Dn P w K mg base CX0 1 "_law_is_number" sp_isnum := d_isnum N a.d_law_is_number
  exact ok_law X F0 hpool hdraw hnames hnum cme (d_lof X a.d_law_of cmo) (d_ljoin X a.d_law_joined bo1 bo2) (d_ldue X a.d_law_due) (d_lhas X a.d_law_has)
theorem fin_of {l : PySem.W.OpenLaw} {w : World} {h : Heap} {fa C IP WE : Addr} (X : K.In h) (G : h.Ns mainGlobals mg) (hfa : mg "law" = some (.ref fa)) (a : All l.prog K mg C IP WE)
    {f1 : Addr} {od1 an1 : Option Addr} {sl1 : Array (Option Value)} {oc1 kV1 dc1 pm1 cd1 ct1 : Value}
    (a1 : PySem.W.nsIn K mainGlobals "law" = some (some (.ref f1))) (l1 : K.lookup f1 = some ⟨oc1, od1, .func (PySem.W.fnOf "law" "law" (defArgs s_law) (defBody s_law) (defScope s_law) .none kV1 dc1 pm1 an1 cd1 ct1), sl1⟩) (c1 : PySem.W.codeIn K cd1 "law" = true) (k1 : PySem.W.keepIn K (.ref f1) = true) :
    ∃ fd : FuncData, (∀ (s : Shared) (v : Value), BindsTo s fd ⟨[v], []⟩ [("_law_script", v)]) ∧ ∀ base : Heap, K.In base → base.Ns mainGlobals mg → FnOk l.prog w K mg base CX0 30 fa fd ["_law_script"] (sp_law K) := by
  have e := hfa.symm.trans (PySem.W.mg_of X G a1)
  cases e
  have F1 := fun_mk (st := s_law) l1 c1 k1
  exact ⟨PySem.W.fnOf "law" "law" (defArgs s_law) (defBody s_law) (defScope s_law) .none kV1 dc1 pm1 an1 cd1 ct1, fun s v => .of_eq rfl, fun base _ _ => law_of a F1⟩
theorem walk {l : PySem.W.OpenLaw} {q : Program} {loose : List Str} {XP : (Str → Option Value) → Heap → Prop} {YP : World → Heap → Prop} {d : DefRec} {K : Params → PySem.W.Frag} (hn : l.most = some 63) (hdf : d.params.defaults = [])
    (hY : ∀ (w : World) (h : Heap), YP w h → (K w.params).In h)
    (F : ∀ (w : World) (mg : Str → Option Value) (fa : Addr) (h : Heap), (K w.params).In h → h.Ns mainGlobals mg → mg d.name = some (.ref fa) →
      ∃ fd : FuncData, (∀ (s : Shared) (u : Value), BindsTo s fd ⟨[u], []⟩ [("_law_script", u)]) ∧ ∀ base : Heap, (K w.params).In base → base.Ns mainGlobals mg → FnOk l.prog w (K w.params) mg base CX0 30 fa fd ["_law_script"] (sp_law (K w.params))) :
    PySem.W.WalkO q loose XP YP l.row.toRowW d [] (fun f vs => PySem.call f vs) :=
  L2.walk_of (n := 63) (k := 30) (x := "_law_script") (CX := fun _ => CX0) (sp := fun w => sp_law (K w.params)) hn (by decide) hdf ⟨rfl, by decide, by decide⟩ hY F (fun _ _ a ns hl _ hS => ⟨a, ns, rfl, hS, hl, fun _ => rfl⟩) fun _ _ _ _ _ z => z
end
end U

set_option Elab.async false
open PySem PySem.W PyProof.Rows
set_option maxRecDepth 100000 in
set_option maxHeartbeats 0 in
theorem PySem.Challenge.cw_untoldrule_k12_plans_are_joined_holds : PySem.Challenge.rw_untoldrule_k12_plans_are_joined.Holds := by
  w_on; o_law; k_head; (case hw => w_witness2)
  k_fill
  refine U.walk (l := PySem.Challenge.rw_untoldrule_k12_plans_are_joined) rfl rfl (fun w h Y => by first | exact PySem.W.kIn_of Y | exact PySem.W.km_in_of Y) ?F
  case F =>
    intro w mg fa h KX G hmg
    refine' U.fin_of KX G hmg (C := ?adr_C) (IP := ?adr_IP) (WE := ?adr_WE) { xl := { toPnT := { toNm := { n_int := ?n_int_1, n_bool := ?n_bool_3, n_str := ?n_str_5, n_list := ?n_list_7, n_tuple := ?n_tuple_9, n_set := ?n_set_11, n_len := ?n_len_13, n_abs := ?n_abs_15, n_all := ?n_all_17, n_iter := ?n_iter_19, n_range := ?n_range_21, n_zip := ?n_zip_23, n_isinstance := ?n_isinstance_25 }, n_any := ?n_any_27, c_Plan := ?c_Plan_29, cls := ⟨?cls_31, ?cls_32, ?cls_33, ?cls_34⟩, a_lanes := ?a_lanes_35, cv_MOST_LANES := ?cv_MOST_LANES_37, cv_MOST_NAMES := ?cv_MOST_NAMES_42 }, n_ValueError := ?n_ValueError_47, c_WeaveError := ?c_WeaveError_49, g_IP := ?g_IP_51, ecI := ⟨?ecI_53, ?ecI_54, ?ecI_55, ?ecI_56, ?ecI_57, ?ecI_58, ?ecI_59, ?ecI_60⟩, ii := ?ii_61, iw := ?iw_62, iv := ?iv_63 }, xd := ?xd_64, gC := ?gC_87, mkC := ?mkC_89, kcC := ?kcC_90, sf := ?sf_91, d_law_mixed := ?d_law_mixed_92, d_law_pool := ?d_law_pool_97, d_law_draw := ?d_law_draw_102, d_law_names := ?d_law_names_107, d_law_is_number := ?d_law_is_number_112, d_law_of := ?d_law_of_117, d_law_joined := ?d_law_joined_122, d_law_due := ?d_law_due_127, d_law_has := ?d_law_has_132, m_init := ?m_init_137, m_add := ?m_add_143, m_or := ?m_or_149, cm_of := ?cm_of_155, cm_empty := ?cm_empty_164 } ?a1 ?l1 ?k1 ?k2
    (case n_int_1 => refine' U.no_mk KX G ?zz_2; (case zz_2 => k_is))
    (case n_bool_3 => refine' U.no_mk KX G ?zz_4; (case zz_4 => k_is))
    (case n_str_5 => refine' U.no_mk KX G ?zz_6; (case zz_6 => k_is))
    (case n_list_7 => refine' U.no_mk KX G ?zz_8; (case zz_8 => k_is))
    (case n_tuple_9 => refine' U.no_mk KX G ?zz_10; (case zz_10 => k_is))
    (case n_set_11 => refine' U.no_mk KX G ?zz_12; (case zz_12 => k_is))
    (case n_len_13 => refine' U.no_mk KX G ?zz_14; (case zz_14 => k_is))
    (case n_abs_15 => refine' U.no_mk KX G ?zz_16; (case zz_16 => k_is))
    (case n_all_17 => refine' U.no_mk KX G ?zz_18; (case zz_18 => k_is))
    (case n_iter_19 => refine' U.no_mk KX G ?zz_20; (case zz_20 => k_is))
    (case n_range_21 => refine' U.no_mk KX G ?zz_22; (case zz_22 => k_is))
    (case n_zip_23 => refine' U.no_mk KX G ?zz_24; (case zz_24 => k_is))
    (case n_isinstance_25 => refine' U.no_mk KX G ?zz_26; (case zz_26 => k_is))
    (case n_any_27 => refine' U.no_mk KX G ?zz_28; (case zz_28 => k_is))
    (case c_Plan_29 => refine' U.gr_mk KX G ?zz_30; (case zz_30 => k_is))
    (case n_ValueError_47 => refine' U.no_mk KX G ?zz_48; (case zz_48 => k_is))
    (case c_WeaveError_49 => refine' U.gr_mk KX G ?zz_50; (case zz_50 => k_is))
    (case g_IP_51 => refine' U.ga_mk KX G ?zz_52; (case zz_52 => k_is))
    (case gC_87 => refine' U.ga_mk KX G ?zz_88; (case zz_88 => k_is))
    (case cls_31 => k_is)
    (case cls_32 => k_is)
    (case cls_33 => k_is)
    (case cls_34 => k_is)
    (case a_lanes_35 => refine' U.na_mk  ?zz_36; (case zz_36 => k_is))
    (case cv_MOST_LANES_37 => refine' U.cv_mk KX G ?zz_38 ?zz_39 ?zz_40 ?zz_41; (case zz_38 => k_is); (case zz_39 => k_is); (case zz_40 => k_is); (case zz_41 => k_is))
    (case cv_MOST_NAMES_42 => refine' U.cv_mk KX G ?zz_43 ?zz_44 ?zz_45 ?zz_46; (case zz_43 => k_is); (case zz_44 => k_is); (case zz_45 => k_is); (case zz_46 => k_is))
    (case ecI_53 => k_is)
    (case ecI_54 => k_is)
    (case ecI_55 => k_is)
    (case ecI_56 => k_is)
    (case ecI_57 => k_is)
    (case ecI_58 => k_is)
    (case ecI_59 => k_is)
    (case ecI_60 => k_is)
    (case ii_61 => kernel_rfl)
    (case iw_62 => kernel_rfl)
    (case iv_63 => kernel_rfl)
    (case xd_64 => refine' U.xd_mk KX G ?zx_ox_65 ?zx_gc_66 ?zx_fi_67 ?zx_lk_68 ?zx_hcd_69 ?zx_ty_70 ?zx_par_71 ?zx_lc_72 ?zx_v2_73 ?zx_fl_74 ?zx_top_75 ?zx_lcc_76 ?zx_nos_77 ?zx_sub_78 ?zx_op_79 ?zx_al_80; (case zx_gc_66 => k_is); (case zx_ox_65 => refine' U.ox_mk ?zo_81 ?zo_82 ?zo_83 ?zo_84 ?zo_85 ?zo_86; (case zo_81 => k_is); (case zo_82 => rfl); (case zo_83 => k_is); (case zo_84 => k_is); (case zo_85 => k_is); (case zo_86 => k_is)); (case zx_fi_67 => k_is); (case zx_lk_68 => k_is); (case zx_hcd_69 => k_is); (case zx_ty_70 => k_is); (case zx_par_71 => exact ⟨_, rfl, rfl⟩); (case zx_lc_72 => k_is); (case zx_v2_73 => rfl); (case zx_fl_74 => first | rfl | decide +kernel); (case zx_top_75 => first | rfl | decide +kernel); (case zx_lcc_76 => k_is); (case zx_nos_77 => k_is); (case zx_sub_78 => k_is); (case zx_op_79 => k_is); (case zx_al_80 => ks_is))
    (case mkC_89 => k_is)
    (case kcC_90 => k_is)
    (case sf_91 => k_is)
    (case d_law_mixed_92 => refine' U.td_mk KX G ?zz_93 ?zz_94 ?zz_95 ?zz_96; (case zz_93 => k_is); (case zz_94 => k_is); (case zz_95 => k_is); (case zz_96 => k_is))
    (case d_law_pool_97 => refine' U.td_mk KX G ?zz_98 ?zz_99 ?zz_100 ?zz_101; (case zz_98 => k_is); (case zz_99 => k_is); (case zz_100 => k_is); (case zz_101 => k_is))
    (case d_law_draw_102 => refine' U.td_mk KX G ?zz_103 ?zz_104 ?zz_105 ?zz_106; (case zz_103 => k_is); (case zz_104 => k_is); (case zz_105 => k_is); (case zz_106 => k_is))
    (case d_law_names_107 => refine' U.td_mk KX G ?zz_108 ?zz_109 ?zz_110 ?zz_111; (case zz_108 => k_is); (case zz_109 => k_is); (case zz_110 => k_is); (case zz_111 => k_is))
    (case d_law_is_number_112 => refine' U.td_mk KX G ?zz_113 ?zz_114 ?zz_115 ?zz_116; (case zz_113 => k_is); (case zz_114 => k_is); (case zz_115 => k_is); (case zz_116 => k_is))
    (case d_law_of_117 => refine' U.td_mk KX G ?zz_118 ?zz_119 ?zz_120 ?zz_121; (case zz_118 => k_is); (case zz_119 => k_is); (case zz_120 => k_is); (case zz_121 => k_is))
    (case d_law_joined_122 => refine' U.td_mk KX G ?zz_123 ?zz_124 ?zz_125 ?zz_126; (case zz_123 => k_is); (case zz_124 => k_is); (case zz_125 => k_is); (case zz_126 => k_is))
    (case d_law_due_127 => refine' U.td_mk KX G ?zz_128 ?zz_129 ?zz_130 ?zz_131; (case zz_128 => k_is); (case zz_129 => k_is); (case zz_130 => k_is); (case zz_131 => k_is))
    (case d_law_has_132 => refine' U.td_mk KX G ?zz_133 ?zz_134 ?zz_135 ?zz_136; (case zz_133 => k_is); (case zz_134 => k_is); (case zz_135 => k_is); (case zz_136 => k_is))
    (case m_init_137 => refine' U.md_mk  ?zz_138 ?zz_139 ?zz_140 ?zz_141 ?zz_142; (case zz_138 => k_is); (case zz_139 => k_is); (case zz_140 => k_is); (case zz_141 => k_is); (case zz_142 => k_is))
    (case m_add_143 => refine' U.md_mk  ?zz_144 ?zz_145 ?zz_146 ?zz_147 ?zz_148; (case zz_144 => k_is); (case zz_145 => k_is); (case zz_146 => k_is); (case zz_147 => k_is); (case zz_148 => k_is))
    (case m_or_149 => refine' U.md_mk  ?zz_150 ?zz_151 ?zz_152 ?zz_153 ?zz_154; (case zz_150 => k_is); (case zz_151 => k_is); (case zz_152 => k_is); (case zz_153 => k_is); (case zz_154 => k_is))
    (case cm_of_155 => refine' U.cm_mk  ?zz_156 ?zz_157 ?zz_158 ?zz_159 ?zz_160 ?zz_161 ?zz_162 ?zz_163; (case zz_156 => k_is); (case zz_157 => k_is); (case zz_158 => k_is); (case zz_159 => k_is); (case zz_160 => k_is); (case zz_161 => k_is); (case zz_162 => k_is); (case zz_163 => k_is))
    (case cm_empty_164 => refine' U.cm_mk  ?zz_165 ?zz_166 ?zz_167 ?zz_168 ?zz_169 ?zz_170 ?zz_171 ?zz_172; (case zz_165 => k_is); (case zz_166 => k_is); (case zz_167 => k_is); (case zz_168 => k_is); (case zz_169 => k_is); (case zz_170 => k_is); (case zz_171 => k_is); (case zz_172 => k_is))
    (case a1 => k_is); (case l1 => k_is); (case k1 => k_is); (case k2 => k_is)


import PyProof.Rows.All
import Wide.All
import OpenK.AllK
import Wide.FinOn
import HandS.ForMost
import HandS.ForExc
import HandS.Wide
import HandS.IsInst
import HandS.Property
import HandS.GenList
import HandS.GenYield
import HandS.Star
import HandS.StrMore
import HandS.Conv
import HandS.Flow
import HandS.TupAny
import HandS.TupMul
import HandS.Deep
import HandS.Evl
import HandS.RaiseMore
import HandS.Zip
import HandS.Walk
import HandS.TryMany
import HandS.ExcInit
import HandS.ExcSuper
import HandS.Strs
import HandS.OwnIter
import HandS.IterNext
import KE.GoesMore
import KE.GoesZip
import HandS.Codes
import HandS.WordsExc
import KE.KSuper
import HandS.Nested
import HandS.ExcIs
import HandS.ExcOwn
import HandS.RaiseFrom
import HandS.HotCalls
import HandS.FStr
import PyProof.FString2
import KE.KWithOwn
import HandS.Finally
import KE.KUnpackStar
import HandS.ClsMeth
import HandS.CallLocal
import KE.GoesEnumKw
import PySem.Challenge.RW_untoldrule_k09_systems_are_refused
import HandS.ExcField
import HandS.DictComp
import HandS.ListItems
import HandS.SlotsOwn
import HandS.BoundDict
import HandS.TupLe

set_option Elab.async false
set_option linter.all false
set_option maxRecDepth 100000
set_option maxHeartbeats 2000000
/-! rules of our own: text * int, tuple * int, len(set(texts)) -/
namespace UL
open PySem PySem.Spec PyProof.Rows L2

/-! ### text * 0, text * 1 -/
def rMulS : R2 := fun x y H Q => ∃ z n, x = .str z ∧ y = .int n ∧ ((n = 0 ∧ Q (.str Str.empty) H) ∨ (n = 1 ∧ Q (.str z) H))
theorem op_mulS {X : Cx} : OpR X (binaryOp .Mult) rMulS := by
  intro pins s σ H x y v u Q I rx ry h
  obtain ⟨z, n, rfl, rfl, h⟩ := h
  obtain ⟨t, rfl⟩ := rx
  obtain ⟨t', rfl⟩ := ry
  rcases h with ⟨rfl, q⟩ | ⟨rfl, q⟩
  · exact P.mul_str_none (by decide) (by decide) ⟨.str Str.empty, H, I.tok _, ⟨_, rfl⟩, q⟩
  · refine P.mul_str (by decide) (fun _ e => ?_) (fun _ e => ?_) ?_
    · simp at e
    · simp at e
    · rw [if_neg (by decide), if_pos (by simp)]
      exact ⟨.str z, H, I, ⟨_, rfl⟩, q⟩

/-! ### tuple * int -/
theorem tuple_mul1 (l : Addr) (items : Array Value) (n : Nat) (dd : Option Addr) (sl : Array (Option Value)) (x : Int) (u : Tok) (c0 : (decide (x < -(2 ^ 63)) || decide (x ≥ 2 ^ 63)) = false) (c1 : (items.isEmpty || x == 1) = true) :
    Meets (Builtin.«tuple.__mul__» ⟨[.ref l, .int x u], []⟩) (fun _ R s => s.heap.get? l = some { cls := .type "tuple", dict := dd, data := .seq items n, slots := sl } ∧
      R (.ok (.ret (Value.ref l))) s) :=
  .of_wp fun prog w A R s h => by
    obtain ⟨hp, g, d, tk, os⟩ := s
    obtain ⟨hl, h⟩ := h
    have f1 := AutoSeq1.idx_int
    wp_walk using wpAny_loadPart' hl
    repeat (first
      | (refine wpAny_ite_false (decide_eq_false (by rw [c0]; exact Bool.false_ne_true)) ?_; wp_walk using wpAny_loadPart' hl)
      | (refine wpAny_ite_true (decide_eq_true c1) ?_; wp_walk using wpAny_loadPart' hl))
    exact ⟨_, rfl, h⟩
/-- the answer is a tuple of the items so often: a new one, or the same -/
def rRepU (K : PySem.W.Frag) : R2 := fun x y H Q => ∃ l k xs, x = .ref l ∧ y = .int k ∧ SqT K H l xs ∧ xs ≠ [] ∧ 1 ≤ k ∧ k ≤ 1000 ∧ xs.length ≤ 1000 ∧ (k = 1 → Q (.ref l) H) ∧ (2 ≤ k → ∀ p, H p = none → Q (.ref p) (upd H p (.tup (List.replicate k.toNat xs).flatten)))
theorem op_repU {X : Cx} : OpR X (binaryOp .Mult) (rRepU X.K) := by
  intro pins s σ H x y v u Q I rx ry h
  obtain ⟨l, k, xs, rfl, rfl, hT, hne, h1, h2, hz, q1, q2⟩ := h
  by_cases hk : k = 1
  · subst hk
    cases rx
    obtain ⟨t, rfl⟩ := ry
    obtain ⟨its, r, ⟨⟨cls, dd, data, sl⟩, ho, hc, n, hd⟩, hs⟩ := I.tuple hT
    simp only at hc hd
    subst hc hd
    have c0 : (decide ((1 : Int) < -(2 ^ 63)) || decide ((1 : Int) ≥ 2 ^ 63)) = false := by decide
    have c1 : (its.toArray.isEmpty || (1 : Int) == 1) = true := by simp
    refine wpAny_binaryOp_repeat_ref (T := "tuple") (U := "int") (by decide) ⟨_, ho, rfl⟩ (fun s' => typeIs_int s' 1 t) noFill_tuple_mul F.fills_int_mul F.slot_int_rmul repeat_tuple F.slot_int_index.lookup
      (call_meets F.slot_int_rmul (typeIs_int s 1 t) F.entry_int_rmul (F.args_int_rmul_2 _ _) (int_rmul_tuple 1 t l its.toArray n dd sl)
        ⟨ho, rfl, ⟨_, ho, rfl⟩, call_meets F.slot_tuple_mul ⟨_, ho, rfl⟩ F.entry_tuple_mul (F.args_tuple_mul_2 _ _) (tuple_mul1 l its.toArray n dd sl 1 t c0 c1) ⟨ho, ?_⟩⟩)
    exact ⟨.ref l, H, I, rfl, q1 rfl⟩
  · exact op_repT pins s σ H _ _ v u Q I rx ry ⟨l, k, xs, rfl, rfl, hT, hne, by omega, h2, hz, fun p hp => q2 (by omega) p hp⟩
end UL

/-! ### len(set(texts)) -/
namespace UL
open PySem PySem.Spec PyProof.Rows
/-- the texts met so far, each once -/
def met (xs : List Str) : List Str := xs.foldl (fun acc x => if acc.any (· == x) then acc else acc ++ [x]) []
theorem met_snoc (xs : List Str) (x : Str) : met (xs ++ [x]) = if (met xs).any (· == x) then met xs else met xs ++ [x] := by
  unfold met
  rw [List.foldl_append]
  rfl
theorem met_len (xs : List Str) : (met xs).length ≤ xs.length := by
  have h : ∀ (ys acc : List Str), (ys.foldl (fun acc x => if acc.any (· == x) then acc else acc ++ [x]) acc).length ≤ acc.length + ys.length := by
    intro ys
    induction ys with
    | nil => intro acc; simp
    | cons y r ih =>
      intro acc
      rw [List.foldl_cons]
      refine Nat.le_trans (ih _) ?_
      split <;> simp only [List.length_append, List.length_cons, List.length_nil] <;> omega
  simpa [met] using h xs []
theorem met_take (xs : List Str) {i : Nat} (h : i < xs.length) (k : Str) :
    (((met (xs.take i)).any (· == k) || decide (k = xs.getD i Str.empty)) = (met (xs.take (i + 1))).any (· == k)) ∧
      (if (met (xs.take i)).any (· == xs.getD i Str.empty) = true then (met (xs.take i)).length else (met (xs.take i)).length + 1) = (met (xs.take (i + 1))).length := by
  have hx : xs[i]? = some (xs.getD i Str.empty) := by
    rw [List.getD_eq_getElem?_getD]; simp [h]
  have ht : xs.take (i + 1) = xs.take i ++ [xs.getD i Str.empty] := by
    rw [List.take_add_one, hx]; rfl
  rw [ht, met_snoc]; generalize xs.getD i Str.empty = x
  by_cases e : (met (xs.take i)).any (· == x) = true
  · rw [if_pos e, if_pos e]
    refine ⟨?_, rfl⟩
    by_cases e2 : k = x
    · subst e2; simp [e]
    · simp [e2]
  · rw [if_neg e, if_neg e, List.any_append]
    refine ⟨?_, by simp⟩
    by_cases e2 : k = x
    · subst e2; simp
    · have hb : (x == k) = false := beq_eq_false_iff_ne.mpr fun z => e2 z.symm
      simp [e2, hb]
section
variable {prog : Program} {w : World} {A : Around} {E : Value → Shared → Prop} {s : Shared} {I : Addr} {fp wr : List Addr} {G : Array GenState → Array GenState → Prop} {n : Nat} {P : Nat → Value → Prop} {St : Nat → Shared → Prop}
/-- the set at S holds the first i texts -/
def Holds (prog : Program) (w : World) (S : Addr) (xs : List Str) (i : Nat) (h : Heap) : Prop := h.SetOf (PySem.strKind prog w) S (fun k => (met (xs.take i)).any (· == k)) (met (xs.take i)).length
theorem Holds.at {S : Addr} {xs : List Str} {i : Nat} {h h' : Heap} (x : Holds prog w S xs i h) (k : ∀ o, h.get? S = some o → h'.get? S = some o) : Holds prog w S xs i h' := by
  obtain ⟨o, es, ep, t, ho, r⟩ := x; exact ⟨o, es, ep, t, k o ho, r⟩
/-- the walk that fills a set with texts, from turn i on -/
theorem fills (W : WalksS prog w A.in1 I fp wr G n P St) {S : Addr} (hS : S ∉ fp) {xs : List Str} (hl : xs.length = n) (hb : n + 1 < scanBound) (hv : ∀ i v, P i v → ∃ t, v = .str (xs.getD i Str.empty) t) {R : Result → Shared → Prop} :
    ∀ (d i : Nat) (s : Shared), i + d = n → St i s → Holds prog w S xs i s.heap → (∀ s', Moved (S :: wr) G s s' → Holds prog w S xs n s'.heap → R (.ok (.ret .none)) s') →
      codeAny (model prog w) A (.builtin "set.update.loop" ⟨[.ref S, .ref I], []⟩) R s := by
  have nw : S ∉ wr := fun z => hS (W.sub _ z)
  have up : ∀ b ∈ wr, b ∈ S :: wr := fun b z => List.mem_cons_of_mem _ z
  intro d
  induction d with
  | zero =>
    intro i s e st hd hR
    cases (show i = n from e)
    refine codeAny_builtin PyProof.Rows.F.entry_set_update_loop ?_; rw [Around.under_plainId PyProof.Rows.F.plain_set_update_loop _]
    refine wpAny_bind (m := pyNext (.ref I)) (W.done s _ _ st fun s' m => wpAny_pure (hR s' (m.mono up) (hd.at fun o q => m.heap S o nw q)))
  | succ d ih =>
    intro i s e st hd hR
    have lt : i < n := by omega
    refine codeAny_builtin PyProof.Rows.F.entry_set_update_loop ?_; rw [Around.under_plainId PyProof.Rows.F.plain_set_update_loop _]
    refine wpAny_bind (m := pyNext (.ref I)) (W.item i s _ _ lt st fun v s' p st' m => ?_)
    obtain ⟨t, rfl⟩ := hv i v p
    have ml : (met (xs.take i)).length ≤ i := Nat.le_trans (met_len _) (by rw [List.length_take]; omega)
    refine wpAny_bind (m := holding [Value.str (xs.getD i Str.empty) t] (setAdd S (.str (xs.getD i Str.empty) t))) (wpAny_holding ?_)
    unfold setAdd
    refine wpAny_holding (wpAny_bind ((PySem.strKind prog w).pyHash (k := xs.getD i Str.empty) (strKind_is _ _ _ _) ?_))
    have hd' : Holds prog w S xs i s'.heap := hd.at fun o q => m.heap S o nw q
    refine wpAny_setAddHashed_of (knd := PySem.strKind prog w) (s := { s' with toks := s'.toks + 1 }) (strKind_is _ _ _ _) rfl hd' (by omega) fun h' sb new => ?_
    have hd2 : Holds prog w S xs (i + 1) h' := by
      obtain ⟨o, es, ep, tb, ho, r⟩ := new
      have e1 := fun k => (met_take xs (show i < xs.length by omega) k).1
      have e2 := (met_take xs (show i < xs.length by omega) Str.empty).2
      exact SetOf_congr ⟨o, es, ep, tb, ho, r⟩ e1 e2
    have off : ∀ b, b ∈ fp → b ≠ S := fun b z q => hS (q ▸ z)
    refine wpAny_pure ⟨plainId_quiet PyProof.Rows.F.plain_set_update_loop _, ih (i + 1) _ (by omega) (W.frame _ s' _ _ st' (Nat.le_succ _) fun b z o q => (sb.2 b (off b z)).trans q) hd2 fun s2 m2 q2 => hR s2 ?_ q2⟩
    exact Moved.trans W.gtrans ((m.mono up).then_heap (Nat.le_succ _) fun b o z q => (sb.2 b fun y => z (y ▸ List.mem_cons_self)).trans q) m2
/-- set(x): a new set, then its __init__ -/
theorem call_set1 {x : Value} {Q : Value → Shared → Prop} (h : ∀ led : Bool, wpAny (model prog w) A.in1.in1 (Builtin.«set.__init__» ⟨[.ref s.heap.objs.size, x], []⟩)
      (fun fin s' => match fin with | .done f => wants (fun r s₂ => r = .none ∧ Q (.ref s.heap.objs.size) s₂) E (.ok f) s' | .again c' => c'.quiet = true ∧ codeAny (model prog w) A.in1 c' (wants (fun r s₂ => r = .none ∧ Q (.ref s.heap.objs.size) s₂) E) s')
      (fun e s' => wants (fun r s₂ => r = .none ∧ Q (.ref s.heap.objs.size) s₂) E (.error e) s') { s with heap := s.heap.push { cls := .type "set", dict := none, data := .set #[] 0 (.fresh 0 0 led) } }) :
    wpAny (model prog w) A (call (.type "set") [x]) Q E s := by
  have ⟨c, tl, hmro⟩ := PySem.F.called_set.mro; have hmade := PySem.F.called_set.made; have hsub := PySem.F.called_set.sub
  refine wpAny_call (codeAny_of_tree (wpAny_pure ⟨Code.quiet_builtin _ (by decide +kernel), codeAny_builtin PySem.F.entry_type_call ?_⟩))
  rw [Around.under_plain (weight_type_call_type "set" [x] []) rfl]
  have h1 := PySem.F.called_set.notType; have h2 := PySem.F.called_set.canCreate; have hct := PySem.F.typeCall_set_1 x
  repeat (any_goals (first | assumption | wp_step))
  refine codeAny_mono (code_set_new_1 x (E := E) (Q₁ := fun obj s₁ => ∃ led : Bool, obj = .ref s.heap.objs.size ∧ s₁ = { s with heap := s.heap.push { cls := .type "set", dict := none, data := .set #[] 0 (.fresh 0 0 led) } }) fun led => ⟨led, rfl, rfl⟩) fun r s₁ hr => ?_
  match r, hr with
  | .error e, hr => exact hr
  | .ok .next, hr | .ok .brk, hr | .ok .cont, hr => exact hr.elim
  | .ok (.ret obj), ⟨led, e1, e2⟩ =>
    subst e1 e2
    have hT : Shared.TypeIs { s with heap := s.heap.push { cls := .type "set", dict := none, data := .set #[] 0 (.fresh 0 0 led) } } (.ref s.heap.objs.size) "set" := ⟨_, Heap.get?_push_size _ rfl, rfl⟩
    have hli := PySem.F.called_set.init.lookup; have hbi := PySem.F.called_set.init.bind (.ref s.heap.objs.size)
    repeat (any_goals (first | assumption | wp_step))
    refine codeAny_mono (codeAny_call_builtin PySem.F.called_set.init.plain PySem.F.entry_set_init (check_set_init_1 hT (h led))) fun r₂ s₂ hr₂ => ?_
    match r₂, hr₂ with
    | .error e, hr₂ => exact hr₂
    | .ok .next, hr₂ | .ok .brk, hr₂ | .ok .cont, hr₂ => exact hr₂.elim
    | .ok (.ret r), ⟨e1, hq⟩ =>
      subst e1
      repeat (any_goals (first | assumption | wp_step))

abbrev freshSet (led : Bool) : Obj := { cls := .type "set", dict := none, data := .set #[] 0 (.fresh 0 0 led) }
/-- the same of a list, of a tuple -/
theorem call_set_strs {l : Addr} {items : Array Value} {xs : List Str} {Q : Value → Shared → Prop} (hh : A.handled = none) (hl : s.heap.IsList l items ∨ s.heap.IsTuple l items) (hi : StrsAre items.toList xs) (hb : items.size + 1 < scanBound)
    (h : ∀ (h' : Heap) (tk : Nat), Holds prog w s.heap.objs.size xs items.size h' → (∀ b o, b < s.heap.objs.size → s.heap.get? b = some o → h'.get? b = some o) → Q (.ref s.heap.objs.size) { s with heap := h', toks := tk }) :
    wpAny (model prog w) A (call (.type "set") [.ref l]) Q E s := by
  have hsz : xs.length = items.size := by rw [← StrsAre.len_eq hi, Array.length_toList]
  have hval : ∀ (i : Nat) (v : Value), items[i]? = some v → ∃ t, v = .str (xs.getD i Str.empty) t := fun i v hv => SS.strs_at hi i v (by rw [Array.getElem?_toList]; exact hv)
  have h3 : A.in1.in1.in1.handled = none := by simp [hh]
  refine call_set1 fun led => ?_
  have gS : (s.heap.push (freshSet led)).get? s.heap.objs.size = some (freshSet led) := Heap.get?_push_size _ rfl
  -- once an iterator stands behind the set
  have fin : ∀ (cl : String) (vs : Array Value) (l0 : Addr) (P : Nat → Value → Prop) (St : Nat → Heap → Prop), (∀ i v, P i v → ∃ t, v = .str (xs.getD i Str.empty) t) →
      Walks prog w A.in1.in1.in1 (s.heap.objs.size + 1) [s.heap.objs.size + 1, l0] [s.heap.objs.size + 1] items.size P St → l0 < s.heap.objs.size → St 0 ((s.heap.push (freshSet led)).push { cls := .type cl, data := .fields vs }) →
      codeAny (model prog w) A.in1.in1 (.builtin "set.update.loop" ⟨[.ref s.heap.objs.size, .ref (s.heap.objs.size + 1)], []⟩) (fun r s' => r = .ok (.ret .none) ∧ ∃ h' tk, s' = { s with heap := h', toks := tk } ∧ Holds prog w s.heap.objs.size xs items.size h' ∧
        (∀ b o, b < s.heap.objs.size → s.heap.get? b = some o → h'.get? b = some o)) { s with heap := (s.heap.push (freshSet led)).push { cls := .type cl, data := .fields vs } } := by
    intro cl vs l0 P St hP W hl0 st
    refine fills W.toS (by simp only [List.mem_cons, List.not_mem_nil, or_false, not_or]; exact ⟨Nat.ne_of_lt (Nat.lt_succ_self _), Nat.ne_of_gt hl0⟩) hsz hb hP items.size 0 _ (by omega) st ?_ fun s' m q => ?_
    · exact SetOf_congr ((setObjOf_fresh (knd := PySem.strKind prog w) led).setOf (Heap.get?_push_of_some _ gS) (by unfold scanBound; omega)) (fun _ => rfl) rfl
    · obtain ⟨h', g', d', tk', os'⟩ := s'
      cases (show g' = s.gens from m.gens); cases (show d' = s.drawn from m.drawn); cases (show os' = s.os from m.os)
      refine ⟨rfl, h', tk', rfl, q, fun b o lt e => m.heap b o ?_ (Heap.get?_push_of_some _ (Heap.get?_push_of_some _ e))⟩
      simp only [List.mem_cons, List.not_mem_nil, or_false, not_or]; exact ⟨Nat.ne_of_lt lt, Nat.ne_of_lt (Nat.lt_succ_of_lt lt)⟩
  have push1 : (s.heap.push (freshSet led)).objs.size = s.heap.objs.size + 1 := Heap.size_push _ _
  have gI : ∀ (cl : String) (vs : Array Value), ((s.heap.push (freshSet led)).push { cls := .type cl, data := .fields vs }).get? (s.heap.objs.size + 1) = some { cls := .type cl, data := .fields vs } := fun cl vs => by
    have g := Heap.get?_push_size (s.heap.push (freshSet led)) (o := { cls := .type cl, data := .fields vs }) rfl
    rwa [push1] at g
  rcases hl with ⟨⟨ocls, odict, odata, oslots⟩, ho, hc, nl, hd⟩ | ⟨⟨ocls, odict, odata, oslots⟩, ho, hc, nl, hd⟩
  all_goals (simp only at hc hd; subst hc hd)
  · have ho' := Heap.get?_push_of_some (freshSet led) ho
    have hl1 : (s.heap.push (freshSet led)).IsList l items := ⟨_, ho', rfl, nl, rfl⟩
    have f1 := PySem.F.sub_list_set; have f2 := PySem.F.sub_list_frozenset; have f3 : (Value.type "list" == Value.type "dict") = false := by decide
    unfold Builtin.«set.__init__» noKeywords Builtin.Frozenset.updateFrom; generalize hPI : pyIter = PI; wp_walk; subst hPI
    refine wpAny_pyIter_list hl1 (wpAny_bind (wpAny_runValue ?_))
    rw [push1]
    have lt := Heap.lt_size ho
    refine codeAny_mono (fin _ _ l _ _ hval (Walks.list h3 _ l (Nat.ne_of_lt (Nat.lt_succ_of_lt lt)) items) lt ⟨⟨_, gI _ _, rfl, rfl⟩, hl1.push _⟩) fun r s' q => ?_
    obtain ⟨e1, h', tk, e2, q1, q2⟩ := q
    subst e1 e2
    exact wpAny_pure (wpAny_pure ⟨rfl, h h' tk q1 q2⟩)
  · have ho' := Heap.get?_push_of_some (freshSet led) ho
    have hl1 : (s.heap.push (freshSet led)).IsTuple l items := ⟨_, ho', rfl, nl, rfl⟩
    have f1 : isSubtype (.type "tuple") (.type "set") = pure false := by rw [isSubtype_type]; kernel_rfl
    have f2 : isSubtype (.type "tuple") (.type "frozenset") = pure false := by rw [isSubtype_type]; kernel_rfl
    have f3 : (Value.type "tuple" == Value.type "dict") = false := by decide
    unfold Builtin.«set.__init__» noKeywords Builtin.Frozenset.updateFrom; generalize hPI : pyIter = PI; wp_walk; subst hPI
    refine wpAny_pyIter_tuple hl1 (wpAny_bind (wpAny_runValue ?_))
    rw [push1]
    have lt := Heap.lt_size ho
    refine codeAny_mono (fin _ _ l _ _ hval (Walks.tuple h3 _ l (Nat.ne_of_lt (Nat.lt_succ_of_lt lt)) items) lt ⟨⟨_, gI _ _, rfl, rfl⟩, hl1.push _⟩) fun r s' q => ?_
    obtain ⟨e1, h', tk, e2, q1, q2⟩ := q
    subst e1 e2
    exact wpAny_pure (wpAny_pure ⟨rfl, h h' tk q1 q2⟩)
end
section
open L2
variable {X : Cx}
theorem strs_of_vals : ∀ {zs : List Str} {us : List Value}, Vals (zs.map V.str) us → StrsAre us zs
  | [], _, .nil => .nil
  | z :: zs, _, .cons r t => by obtain ⟨tk, rfl⟩ := r; exact .cons _ _ (strs_of_vals t)
def tLenSetS (K : PySem.W.Frag) (ta : TE) : TE := fun σ H Q => ta σ H fun x H1 => ∃ (l : Addr) (zs : List Str), x = V.ref l ∧ (SqL K H1 l (zs.map V.str) ∨ SqT K H1 l (zs.map V.str)) ∧ zs.length < 64 ∧ Q (.int (met zs).length) H1
theorem pe_lenSetS {a : Expr} {ta : TE} {p p2 q pos : Pos} (hc : X.calm = true) (hg : Gl X "len") (hm : X.mg "len" = none) (hg2 : Gl X "set") (hm2 : X.mg "set" = none) (ha : PE X a ta)
    (na : starEach [a] X.env = (false, eval a X.env) :: starEach [] X.env := by rfl) : PE X (.Call (.Name "len" p) [.Call (.Name "set" p2) [a] [] q] [] pos) (tLenSetS X.K ta) := by
  refine ⟨fun pins s σ H Q I h => Call_ (ld_blt I hg hm PySem.boot_len (callWith_builtin1 (args_cons (Call_ (ld_blt I hg2 hm2 boot_set ?_)) rfl) rfl rfl))⟩
  refine callWith_type1 (args_cons (thn (ha.run pins s σ H _ I h) fun v s1 ⟨x, H1, I1, r1, q1⟩ => args_nil ?_) na) na rfl
  obtain ⟨l, zs, rfl, hq, hn, q1⟩ := q1
  cases r1
  have go : ∀ its : List Value, Vals (zs.map V.str) its → (s1.heap.IsList l its.toArray ∨ s1.heap.IsTuple l its.toArray) → its.length = zs.length := fun its r _ => by rw [← r.length, List.length_map]
  obtain ⟨its, r, pl⟩ : ∃ its : List Value, Vals (zs.map V.str) its ∧ (s1.heap.IsList l its.toArray ∨ s1.heap.IsTuple l its.toArray) := by
    rcases hq with hq | hq
    · obtain ⟨its, r, pl, _⟩ := I1.list hq; exact ⟨its, r, .inl pl.isList⟩
    · obtain ⟨its, r, pl, _⟩ := I1.tuple hq; exact ⟨its, r, .inr pl⟩
  have hl : its.toArray.size = zs.length := by rw [List.size_toArray, ← r.length, List.length_map]
  refine call_set_strs (I1.ok.hd hc) pl (xs := zs) (by simpa using strs_of_vals r) (by unfold scanBound; omega) fun h' tk hS hk => args_nil ?_
  rw [hl] at hS
  unfold Holds at hS
  rw [List.take_length] at hS
  obtain ⟨o, es, ep, t, ho, hex, hd, _, _, _, hf, hn2⟩ := hS
  have I2 : Inv X pins σ H1 { s1 with heap := h', toks := tk } := I1.kept fun b o e => hk b o (Heap.lt_size e) e
  have := met_len zs
  exact call_len_set ho hex hd hf (by rw [hn2] <;> omega) ⟨.int (met zs).length, H1, I2.tok _, ⟨_, by rw [hn2]⟩, q1⟩
end
end UL

set_option Elab.async false
set_option linter.all false
set_option maxRecDepth 100000
set_option maxHeartbeats 2000000
/-! own __getitem__, __setitem__, __iter__ -/
namespace UL
open PySem PySem.Spec PyProof.Rows L2
section
variable {X : Cx} {CX : CXT} {k : Nat} {C f a dx : Addr} {fs : List (Str × V)} {fd : FuncData} {ps : List Str} {sp : Sp} {E : XK} {pins : List (Addr × Obj)} {σ : L2.St} {H : Hp} {s : Shared}

/-- a def called one level down (in1), on values -/
theorem run_in1 {Q : VK} {us : List Value} {vs : List V} (F : FnOk X.prog X.w X.K X.mg X.base CX k f fd ps sp) (hr : Room (k + 1) X.A) (hb : Binds X.K fd ps []) (hx : Passes CX X E)
    (I : Inv X pins σ H s) (r : Vals vs us) (h : sp vs H Q E) : wpAny (model X.prog X.w) X.A.in1 (call (.ref f) us) (EP X pins σ Q) X.xe s := by
  have hl : (us ++ []).length = ps.length := by rw [List.append_nil, ← r.length]; exact F.len _ _ _ _ h
  have hb' := hb s us I.kIn hl
  rw [List.append_nil] at hb'
  refine wpAny_call (codeAny_mono (F.run X.A.in1 X.stack s H ⟨us, []⟩ us vs Q E hr.in1 I.env0.in1 hb' r h) fun r s' hq => ?_)
  match r, hq with
  | .error e, hq => exact hx pins σ H s e s' I hq
  | .ok (.ret u), hq => exact I.after hq
  | .ok .next, hq | .ok .brk, hq | .ok .cont, hq => exact hq.elim
theorem inst_of (I : Inv X pins σ H s) (e : H a = some (.ins C dx fs)) : ∃ od, PySem.W.InstAt s.heap a (PySem.W.instObj C dx) C (some od) := by
  obtain ⟨mA, O, _⟩ := ins_get I.hok e
  obtain ⟨od, J, _⟩ := O.look
  exact ⟨od, J⟩

/-! ### o[i] by an own __getitem__ -/
structure GetO (K : PySem.W.Frag) (C f : Addr) : Prop where
  at_ : PySem.W.findIn K (.ref C) "__getitem__" = some (some (.ref f))
  fn : PySem.W.fnIn K f = true
  is : PySem.W.isFn K (.ref f) = true
def tSubO (C : Addr) (sp : Sp) (E : XK) (ta tb : TE) : TE := fun σ H Q => ta σ H fun x H1 => tb σ H1 fun y H2 => ∃ a dx fs, x = .ref a ∧ H2 a = some (.ins C dx fs) ∧ sp [.ref a, y] H2 Q E
theorem pe_subO {ea eb : Expr} {ta tb : TE} {pos : Pos} (ha : PE X ea ta) (hb : PE X eb tb) (c : GetO X.K C f) (F : FnOk X.prog X.w X.K X.mg X.base CX k f fd ps sp) (hr : Room (k + 1) X.A) (bn : Binds X.K fd ps []) (hx : Passes CX X E)
    (hs : ∀ o i, subscripted eb true o i = runValue (.builtin "lifetime.subscript" ⟨[o, i], []⟩)) : PE X (.Subscript ea eb pos) (tSubO C sp E ta tb) := by
  refine ⟨fun pins s σ H Q I h => Subscript_ (binT ha hb I h fun v u s2 x y H2 I2 rx ry q => ?_)⟩
  obtain ⟨a, dx, fs, e, ho, q⟩ := q
  subst e
  cases rx
  obtain ⟨od, J⟩ := inst_of I2 ho
  obtain ⟨m, hF⟩ := I2.fr
  exact PySem.W.sub_K hF I2.ok.mod.kin J c.at_ c.fn c.is (run_in1 (us := [.ref a, u]) (vs := [.ref a, y]) F hr bn hx I2 (.cons rfl (.cons ry .nil)) q) (hs _ _)

/-! ### o[i] = v by an own __setitem__ -/
structure SetO_ (K : PySem.W.Frag) (C f : Addr) : Prop where
  sq : PySem.W.noSeq K C = true
  at_ : PySem.W.findIn K (.ref C) "__setitem__" = some (some (.ref f))
  is : PySem.W.isFn K (.ref f) = true
def rSetO (C : Addr) (sp : Sp) (E : XK) : TSet := fun o i v H Q => ∃ a dx fs, o = .ref a ∧ H a = some (.ins C dx fs) ∧ sp [.ref a, i, v] H (fun _ H' => Q H') E
theorem set_own (c : SetO_ X.K C f) (F : FnOk X.prog X.w X.K X.mg X.base CX k f fd ps sp) (hr : Room k X.A) (bn : Binds X.K fd ps []) (hx : Passes CX X E) : PSet X (rSetO C sp E) := by
  intro pins s σ H o i v ov iv u Q I ro ri rv h
  obtain ⟨a, dx, fs, e, ho, q⟩ := h
  subst e
  cases ro
  obtain ⟨od, J⟩ := inst_of I ho
  obtain ⟨m, hF⟩ := I.fr
  refine PySem.W.ksp_setItem hF I.ok.mod.kin J c.sq c.at_ c.is (thn (run_fn (us := [.ref a, iv, u]) (vs := [.ref a, i, v]) F hr bn .nil hx I (.cons rfl (.cons ri (.cons rv .nil))) q) fun z s' hz => ?_)
  obtain ⟨_, H', I', _, q'⟩ := hz
  exact ⟨H', I', q'⟩

/-! ### iter(a tuple) -/
def ItT (t it : Addr) (i : Nat) : HO := .ext fun h => h.IsTupleIter it t i
/-- something that nobody asks for any more -/
def Gone : HO := .ext fun _ => True
theorem itT_ok {P : Program} {w : World} {H : Hp} {h : Heap} {t it : Addr} {i : Nat} (e : h.IsTupleIter it t i) : ObjOk P w H h it (ItT t it i) := ⟨e, let ⟨o, z, _⟩ := e; ⟨o, z⟩, fun _ _ q k => q.at k⟩
def rIterT (K : PySem.W.Frag) : List V → Hp → VK → Prop := fun xs H Q => ∃ (t : Addr) (zs : List V), xs = [.ref t] ∧ SqT K H t zs ∧ ∀ it, H it = none → Q (.ref it) (upd H it (ItT t it 0))
theorem call_iterT : CallR X (.builtin "iter") (rIterT X.K) := by
  intro pins s σ H xs us Q I r h
  obtain ⟨t, zs, e, hq, q⟩ := h
  subst e
  obtain rfl := Vals.ref1 r
  obtain ⟨its, rv, pl, hz⟩ := I.tuple hq
  refine Calls.call_function_entry (by decide +kernel) (by decide +kernel) PySem.W.kdk_entry_iter (PySem.W.kdk_args_iter _) ?_
  unfold Builtin.«iter»
  refine wpAny_bind (m := someArgs "iter" 1 2 _) (wpAny_of_eq (a := [Value.ref t]) (by first | rfl | kernel_rfl!) (wpAny_bind (m := pyIter (.ref t)) (wpAny_pyIter_tuple (show s.heap.IsTuple t its.toArray from pl) (wpAny_pure ⟨_, rfl, ?_⟩))))
  exact ⟨.ref s.heap.objs.size, _, I.laid (t' := s.toks) (fun b u e => Heap.get?_push_of_some _ e) (Nat.le_refl _) (itT_ok ⟨_, Heap.get?_push_size _ rfl, rfl, rfl⟩), rfl, q _ (I.hok.fresh (Nat.le_refl _))⟩

/-! ### list(o), where o's own __iter__ hands back an iterator over a tuple -/
structure IterO (K : PySem.W.Frag) (C f : Addr) : Prop where
  it : PySem.W.findIn K (.ref C) "__iter__" = some (some (.ref f))
  is : PySem.W.isFn K (.ref f) = true
  nolen : PySem.W.findIn K (.ref C) "__len__" = some none
  nohint : PySem.W.findIn K (.ref C) "__length_hint__" = some none
def rListO (K : PySem.W.Frag) (C : Addr) (sp : Sp) (E : XK) : List V → Hp → VK → Prop := fun xs H Q => ∃ a dx fs, xs = [.ref a] ∧ H a = some (.ins C dx fs) ∧ ∀ q, H q = none →
  sp [.ref a] (upd H q (.lst [])) (fun v H1 => ∃ it t zs, v = .ref it ∧ H1 a = some (.ins C dx fs) ∧ H1 q = some (.lst []) ∧ H1 it = some (ItT t it 0) ∧ SqT K H1 t zs ∧ it ≠ t ∧ zs.length ≤ sizeLine ∧ Q (.ref q) (upd (upd H1 it Gone) q (.lst zs))) E
theorem next_tup : typeLookup (.type "tuple_iterator") "__next__" = pure (some (.builtin "tuple_iterator.__next__")) := by rw [typeLookup_type, builtinLookup_eq_fast]; kernel_rfl
theorem upd_self {H : Hp} {a : Addr} {o : HO} (h : H a = some o) : upd H a o = H := by
  funext b
  by_cases e : b = a
  · rw [e, upd_same, h]
  · rw [upd_ne e]
/-- a tuple's iterator at its end: it stays an object -/
theorem tup_end {A : Around} {E' : Value → Shared → Prop} {it t : Addr} {i : Nat} {items : Array Value} {Q : Option Value → Shared → Prop} (hh : A.handled = none) (hit : s.heap.IsTupleIter it t i) (ht : s.heap.IsTuple t items) (hx : items[i]? = none)
    (hQ : ∀ h', Heap.ExtBut it s.heap h' → (∃ o, h'.get? it = some o) → Q none { s with heap := h' }) : wpAny (model X.prog X.w) A (pyNext (.ref it)) Q E' s := by
  have ⟨o, ho, hc, hd⟩ := hit; have ⟨ol, hol, _, nl, hdl⟩ := ht
  have e0 : ¬ ((Value.ref t == Value.none) = true) := Bool.false_ne_true
  unfold pyNext
  refine wpAny_bind (wpAny_attempt (wpAny_callSpecial?_slot (name := Str.ofString "__next__") hit.typeIs PySem.F.slot_tuple_iterator_next (wpAny_call_entry PySem.F.slot_tuple_iterator_next hit.typeIs PySem.F.entry_tuple_iterator_next ?_ (PySem.F.args_tuple_iterator_next_1 _))))
  refine wpAny_bind (m := field (.ref it) 0) (wpAny_field ho hd (x := .ref t) rfl ?_)
  show wpAny _ _ (if (Value.ref t == Value.none) = true then _ else _) _ _ s; rw [if_neg e0]
  refine wpAny_bind (m := field (.ref it) 1) (wpAny_field ho hd (x := .int i 0) rfl (wpAny_bind (m := seqItems? (.ref t)) (wpAny_seqItems hol hdl ?_)))
  simp only [Int.toNat_natCast, hx]
  refine wpAny_bind (wpAny_rule (wpAny_bind (wpAny_setField ho hd (by simp) (wpAny_bind (m := newExc (.type "StopIteration") []) ?_))))
  simp only [newExc, newTuple]
  refine wpAny_bind (wpAny_newObj_type (wpAny_bind (m := firstArgMember _ _) (wpAny_of_eq (a := Value.none) (by first | rfl | (simp only [firstArgMember]; rfl)) (wpAny_newObj_type ?_ (by size_fits)))) (by size_fits))
  simp only [raiseNew]; refine wpAny_bind (wpAny_handled ?_); rw [show A.in1.handled = none from hh]
  refine wpAny_bind (wpAny_pure (wpAny_throw ?_)); refine wpAny_bind (wpAny_isInstance (T := "StopIteration") (b := true) ⟨_, Heap.get?_push_size _ rfl, rfl⟩ isSubtype_stop (wpAny_pure (hQ _ (((Heap.SameBut.update ..).extBut.push _).push _) ?_)))
  exact ⟨_, Heap.get?_push_of_some _ (Heap.get?_push_of_some _ (Heap.get?_update_self _ ho (by obtain ⟨c, d, dt, sl⟩ := o; simp only at hd; subst hd; rfl)))⟩
section
variable {A1 : Around} {q it t : Addr} {zs : List V} {Rs : Result → Shared → Prop} {Q : VK}
/-- the tracked iterator has turned -/
theorem Inv.turnT {h' : Heap} {o : HO} {t' : Nat} (I : Inv X pins σ H s) (hi : ∃ j, H it = some (ItT t it j)) (k : ∀ b u, b ≠ it → s.heap.get? b = some u → h'.get? b = some u) (hs : ∃ u, h'.get? it = some u) (new : ObjOk X.prog X.w (upd H it o) h' it o) :
    Inv X pins σ (upd H it o) { s with heap := h', toks := t' } := by
  obtain ⟨j, hi⟩ := hi
  exact I.write (by rw [hi]; exact trivial) (.inl rfl) k hs new
/-- the rest of the tuple's items is pushed onto the list at q -/
theorem push_tup (hA : A1.in1.handled = none) (hq0 : q ≠ it) (hne : t ≠ it) (hz : zs.length ≤ sizeLine) (h : ∀ s' H', Inv X pins σ (upd (upd H' it Gone) q (.lst zs)) s' → (∀ b, b ≠ it → b ≠ q → H' b = H b) → Rs (.ok (.ret .none)) s') (ht : ∀ H', (∀ b, b ≠ it → b ≠ q → H' b = H b) → SqT X.K H' t zs) :
    ∀ (d i : Nat) (s : Shared) (H' : Hp), i + d = zs.length → (∀ b, b ≠ it → b ≠ q → H' b = H b) → Inv X pins σ H' s → H' q = some (.lst (zs.take i)) → H' it = some (ItT t it i) → codeAny (model X.prog X.w) A1 (.builtin "list.extend.loop" ⟨[.ref q, .ref it, .none], []⟩) Rs s := by
  intro d
  induction d with
  | zero =>
    intro i s H' e same I hq hi
    obtain ⟨its, rv, pl, _⟩ := I.tuple (ht H' same)
    have hlen := rv.length
    refine codeAny_builtin PySem.F.entry_extend_loop ?_; rw [Around.under_plainId PySem.F.plain_extend_loop _]
    refine wpAny_bind (m := pyNext (.ref it)) (tup_end hA ((I.hok it _ hi).1) (show s.heap.IsTuple t its.toArray from pl) (by simp; omega) fun h' eb ex => wpAny_pure ?_)
    have I2 := Inv.turnT (h' := h') (o := Gone) (t' := s.toks) I ⟨i, hi⟩ (fun b u n z => eb b u n z) ex ⟨trivial, ex, fun _ _ _ _ => trivial⟩
    have hq2 : upd H' it Gone q = some (.lst zs) := by rw [upd_ne hq0, hq, show i = zs.length by omega, List.take_length]
    exact h _ H' (by rw [upd_self hq2]; exact I2) same
  | succ d ih =>
    intro i s H' e same I hq hi
    obtain ⟨its, rv, pl, _⟩ := I.tuple (ht H' same)
    have hlen := rv.length
    have lt : i < zs.length := by omega
    obtain ⟨u, hu, ru⟩ := rv.get (i := i) (x := zs[i]) (by simp [lt])
    refine codeAny_builtin PySem.F.entry_extend_loop ?_; rw [Around.under_plainId PySem.F.plain_extend_loop _]
    refine wpAny_bind (m := pyNext (.ref it)) (wpAny_pyNext_tuple_item ((I.hok it _ hi).1) (show s.heap.IsTuple t its.toArray from pl) (x := u) (by simpa using hu) fun h' st' sb => ?_)
    have I2 := Inv.turnT (h' := h') (o := ItT t it (i + 1)) (t' := s.toks) I ⟨i, hi⟩ (fun b u n z => (sb.2 b n).trans z) (let ⟨o, z, _⟩ := st'; ⟨o, z⟩) (itT_ok st')
    have hq2 : upd H' it (ItT t it (i + 1)) q = some (.lst (zs.take i)) := by rw [upd_ne hq0, hq]
    obtain ⟨z, its2, k2, r2, hl2, e2⟩ := I2.lstM hq2
    have hl3 : its2.length = i := by rw [← hl2, List.length_take]; omega
    have ht2 : zs.take (i + 1) = zs.take i ++ [zs[i]] := by simp
    refine wpAny_bind (m := updateSeq q (·.push u)) (wpAny_updateSeq e2 rfl (wpAny_pure ⟨plainId_quiet PySem.F.plain_extend_loop _, ?_⟩) (by rw [List.size_toArray]; omega) (by show (its2.toArray.push u).size ≤ sizeLine + 1; rw [Array.size_push, List.size_toArray]; omega))
    have I3 := I2.lset (f := (·.push u)) (its' := its2 ++ [u]) (ys := zs.take i ++ [zs[i]]) (t' := s.toks) hq2 e2 (by simp) (r2.append (.cons ru .nil)) (by rw [← ht2, List.length_take]; omega)
    refine ih (i + 1) _ _ (by omega) (fun b n1 n2 => by rw [upd_ne n2, upd_ne n1]; exact same b n1 n2) I3 (by rw [upd_same, ht2]) (by rw [upd_ne (Ne.symm hq0), upd_same])
end
/-- nothing is said of the length -/
theorem no_hint {M : Model} {A : Around} {E' : Value → Shared → Prop} {Q : Bool → Shared → Prop} {g : Addr} {ox : Obj} {od : Option Obj} (c : IterO X.K C g) (hK : X.K.In s.heap) (J : PySem.W.InstAt s.heap a ox C od) (h : Q true s) :
    wpAny M A (Builtin.List.listLengthHint (.ref a)) Q E' s := by
  unfold Builtin.List.listLengthHint
  refine wpAny_bind (wpAny_bind (J.type.here ((PySem.W.looks_findIn hK c.nolen).here (PySem.W.KFB.if_not rfl (PySem.W.KFB.if_not rfl ?_)))))
  exact wpAny_bind (wpAny_bind (J.type.here ((PySem.W.looks_findIn hK c.nohint).here (wpAny_pure h))))
theorem call_listO (c : IterO X.K C f) (F : FnOk X.prog X.w X.K X.mg X.base CX k f fd ps sp) (bn : Binds X.K fd ps []) (hx : Passes CX X E) (hr : Room (k + 2) X.A) : CallR X (.type "list") (rListO X.K C sp E) := by
  intro pins s σ H xs us Q I rv h
  obtain ⟨a, dx, fs, e, ha, hq⟩ := h
  subst e
  obtain ⟨u, rfl, ru⟩ := rv.one
  cases ru
  refine callType_codes (Q₁ := fun obj s₁ => obj = .ref s.heap.objs.size ∧ s₁ = { s with heap := s.heap.push { cls := .type "list", data := .seq #[] } }) PySem.F.called_list (PySem.F.typeCall_list_1 _) PySem.F.entry_list_init (code_list_new _ ⟨rfl, rfl⟩) fun obj s₁ h₁ => ?_
  obtain ⟨e1, e2⟩ := h₁
  subst e1 e2
  have fr : H s.heap.objs.size = none := I.fresh
  have hS : (s.heap.push { cls := .type "list", data := .seq #[] }).get? s.heap.objs.size = some { cls := .type "list", data := .seq #[] } := Heap.get?_push_size _ rfl
  refine ⟨⟨_, hS, rfl⟩, PySem.F.args_list_init_2 _ _, ?_⟩
  have I1 := Inv.lnew (its := []) (ys := []) (t' := s.toks) I .nil (Nat.zero_le _)
  show wpAny _ _ (Builtin.List.listItems (.ref s.heap.objs.size) >>= fun old => Builtin.List.listUpdate (.ref s.heap.objs.size) (fun _ => #[]) >>= fun _ => letGo old.toList.reverse >>= fun _ => Builtin.List.listExtendWith (.ref s.heap.objs.size) (.ref a) .none) _ _ _
  refine wpAny_bind (m := Builtin.List.listItems _) ?_; unfold Builtin.List.listItems; refine wpAny_bind (wpAny_seqItems hS rfl (wpAny_pure ?_))
  refine wpAny_bind (m := updateSeq s.heap.objs.size (fun _ => #[])) (wpAny_updateSeq hS rfl (wpAny_bind (wpAny_letGo ?_)))
  have I2 := I1.lset (f := fun _ => #[]) (its := []) (its' := []) (ys := []) (t' := s.toks) upd_same hS rfl .nil (Nat.zero_le _)
  rw [upd_upd] at I2
  have nq : a ≠ s.heap.objs.size := ne_of_none ha fr
  have ha2 : upd H s.heap.objs.size (.lst []) a = some (.ins C dx fs) := by rw [upd_ne nq]; exact ha
  obtain ⟨od, J⟩ := inst_of I2 ha2
  obtain ⟨m0, hF⟩ := I2.fr
  unfold Builtin.List.listExtendWith
  refine wpAny_bind (J.type.here ?_)
  have h1 : Builtin.List.listSameRef (.ref s.heap.objs.size) (.ref a) = false := by simp [Builtin.List.listSameRef, Ne.symm nq]
  have h2 : (Value.ref C == Value.type "list") = false := rfl
  have h3 : (Value.ref C == Value.type "tuple") = false := rfl
  simp only [h1, h2, h3, Bool.or_false, Bool.false_eq_true, if_false]
  have hsp := hq _ fr
  have hl : ([Value.ref a] ++ []).length = ps.length := by rw [← F.len _ _ _ _ hsp]; rfl
  have hr2 : Room k X.A.in1.in1 := (Room.in1 (k := k) (Room.in1 (k := k + 1) hr))
  refine wpAny_bind (PySem.W.owit_iter hF I2.ok.mod.kin J c.it c.is (wpAny_call (codeAny_mono (F.run X.A.in1.in1 X.stack _ _ ⟨[.ref a], []⟩ [.ref a] [.ref a] _ E hr2 I2.env0.in1.in1 (by have z := bn _ [.ref a] I2.kIn hl; simpa using z) (.cons rfl .nil) hsp) fun r s' hr' => ?_)))
  match r, hr' with
  | .error e, hr' => exact hx pins σ _ _ e s' I2 hr'
  | .ok .next, hr' | .ok .brk, hr' | .ok .cont, hr' => exact hr'.elim
  | .ok (.ret u), hr' =>
    obtain ⟨v, H', I', rv2, it, t, zs, ev, ha', hq', hi', ht', hne, hz, q⟩ := I2.after hr'
    subst ev
    cases rv2
    have hit : s'.heap.IsTupleIter it t 0 := (I'.hok it _ hi').1
    have nqi : s.heap.objs.size ≠ it := ne_of hq' hi' (fun z => nomatch z)
    unfold PySem.W.OwitIt
    refine wpAny_specialOf hit.typeIs next_tup ?_
    obtain ⟨od', J'⟩ := inst_of I' ha'
    refine wpAny_bind (wpAny_holding (no_hint c I'.kIn J' ?_))
    have nqt : s.heap.objs.size ≠ t := by
      rintro e
      obtain ⟨its, _, ⟨o, z, cl, _⟩, _⟩ := I'.tuple ht'
      obtain ⟨_, _, _, _, _, e0⟩ := I'.lstM hq'
      rw [← e, e0] at z
      cases z
      exact absurd cl (by show Value.type "list" ≠ .type "tuple"; decide +kernel)
    have go : ∀ s2, Inv X pins σ H' s2 → codeAny (model X.prog X.w) X.A.in1 (.builtin "list.extend.loop" ⟨[.ref s.heap.objs.size, .ref it, .none], []⟩) (wants (fun r s₂ => r = .none ∧ EP X pins σ Q (.ref s.heap.objs.size) s₂) X.xe) s2 := fun s2 J2 => by
      refine push_tup (A1 := X.A.in1) (zs := zs) (t := t) (H := H') hr.hd nqi (Ne.symm hne) hz (fun s3 H3 I3 sm => ⟨rfl, .ref s.heap.objs.size, _, I3, rfl, ?_⟩) (fun H3 sm => ?_) zs.length 0 s2 H' (by omega) (fun _ _ _ => rfl) J2 hq' hi'
      · rcases ht' with (z | ⟨o, z⟩) | z
        · exact .inl (.inl ((sm t (Ne.symm hne) (Ne.symm nqt)).trans z))
        · exact .inl (.inr ⟨o, (sm t (Ne.symm hne) (Ne.symm nqt)).trans z⟩)
        · exact .inr z
      · have e : upd (upd H3 it Gone) s.heap.objs.size (.lst zs) = upd (upd H' it Gone) s.heap.objs.size (.lst zs) := by
          funext b
          by_cases e1 : b = s.heap.objs.size
          · rw [e1, upd_same, upd_same]
          · rw [upd_ne e1, upd_ne e1]
            by_cases e2 : b = it
            · rw [e2, upd_same, upd_same]
            · rw [upd_ne e2, upd_ne e2, sm b e2 e1]
        rw [e]
        exact q
    refine wpAny_ite_split (fun _ => ?_) (fun _ => wpAny_pure ⟨plainId_quiet PySem.F.plain_extend_loop _, go _ I'⟩)
    -- a place is made and given back
    obtain ⟨z, its, k3, r3, hl3, e3⟩ := I'.lstM hq'
    cases r3
    refine wpAny_bind (wpAny_rule (wpAny_bind (m := updateSeq _ (·.push .none) >>= fun _ => updateSeq _ (·.pop)) (wpAny_bind (wpAny_updateSeq e3 rfl ?_))))
    have I3 := I'.lset (f := (·.push Value.none)) (its' := [Value.none]) (ys := [.non]) (t' := s'.toks) hq' e3 (by simp) (.cons rfl .nil) (by rw [List.length_singleton, sizeLine_eq]; decide)
    obtain ⟨z4, its4, k4, r4, hl4, e4⟩ := I3.lstM upd_same
    obtain ⟨u4, rfl, ru4⟩ := r4.one
    refine wpAny_updateSeq e4 rfl ?_ (by show 1 ≤ sizeLine; rw [sizeLine_eq]; decide) (by show 0 ≤ sizeLine + 1; exact Nat.zero_le _)
    have I4 := I3.lset (f := (·.pop)) (its := [u4]) (its' := []) (ys := []) (t' := s'.toks) upd_same e4 (by rfl) .nil (Nat.zero_le _)
    rw [upd_upd, upd_self hq'] at I4
    exact wpAny_pure ⟨plainId_quiet PySem.F.plain_extend_loop _, go _ I4⟩
end
end UL

set_option Elab.async false
set_option linter.all false
set_option maxRecDepth 100000
set_option maxHeartbeats 2000000
/-! zip of two sequences of any two kinds; yield from a list -/
namespace UL
open PySem PySem.Spec PyProof.Rows L2
inductive Kd where | l | t
def Kd.Iter : Kd → Heap → Addr → Addr → Nat → Prop
  | .l, h, it, a, i => h.IsListIter it a i
  | .t, h, it, a, i => h.IsTupleIter it a i
def Kd.Is : Kd → Heap → Addr → Array Value → Prop
  | .l, h, a, xs => h.IsList a xs
  | .t, h, a, xs => h.IsTuple a xs
def Kd.Sq : Kd → PySem.W.Frag → Hp → Addr → List V → Prop
  | .l, K, H, a, xs => SqL K H a xs
  | .t, K, H, a, xs => SqT K H a xs
def Kd.obj : Kd → Addr → Obj
  | .l, a => { cls := .type "list_iterator", data := .fields #[.ref a, .int 0 0] }
  | .t, a => { cls := .type "tuple_iterator", data := .fields #[.ref a, .int 0 0] }
theorem Kd.begins (k : Kd) (a : Addr) (xs : Array Value) : Begins (.ref a) (k.obj a) fun h => k.Is h a xs := match k with
  | .l => begins_list a xs
  | .t => begins_tuple a xs
theorem Kd.start (k : Kd) {h : Heap} {it a : Addr} (e : h.get? it = some (k.obj a)) : k.Iter h it a 0 := match k, e with
  | .l, e => ⟨_, e, rfl, rfl⟩
  | .t, e => ⟨_, e, rfl, rfl⟩
theorem Kd.iterAt (k : Kd) {h h' : Heap} {it a : Addr} {i : Nat} (x : k.Iter h it a i) (f : ∀ o, h.get? it = some o → h'.get? it = some o) : k.Iter h' it a i := match k, x with
  | .l, x => Heap.IsListIter.at x f
  | .t, x => Heap.IsTupleIter.at x f
theorem Kd.isAt (k : Kd) {h h' : Heap} {a : Addr} {xs : Array Value} (x : k.Is h a xs) (f : ∀ o, h.get? a = some o → h'.get? a = some o) : k.Is h' a xs := match k, x with
  | .l, x => Heap.IsList.at x f
  | .t, x => Heap.IsTuple.at x f
theorem Kd.iterObj (k : Kd) {h : Heap} {it a : Addr} {i : Nat} (x : k.Iter h it a i) : ∃ o, h.get? it = some o ∧ ∀ v, o.data ≠ .cell v := match k, x with
  | .l, ⟨o, e, _, d⟩ => ⟨o, e, fun v q => by rw [d] at q; cases q⟩
  | .t, ⟨o, e, _, d⟩ => ⟨o, e, fun v q => by rw [d] at q; cases q⟩
theorem Kd.draws (k : Kd) {prog : Program} {w : World} {A : Around} (hh : A.handled = none) (it a : Addr) (ne : a ≠ it) (xs : Array Value) : Draws prog w A it [it, a] xs.size (fun i v => xs[i]? = some v) (fun i h => k.Iter h it a i ∧ k.Is h a xs) := match k with
  | .l => Draws.list hh it a ne xs
  | .t => Draws.tuple hh it a ne xs
section
variable {X : Cx} {pins : List (Addr × Obj)} {σ : L2.St} {H : Hp} {s : Shared} {a : Addr} {xs ys : List V}
theorem Kd.read (k : Kd) (I : Inv X pins σ H s) (h : k.Sq X.K H a xs) : ∃ its : List Value, Vals xs its ∧ k.Is s.heap a its.toArray := match k, h with
  | .l, h => let ⟨its, r, p, _⟩ := I.list h; ⟨its, r, p.isList⟩
  | .t, h => let ⟨its, r, p, _⟩ := I.tuple h; ⟨its, r, p⟩
theorem Kd.inj (k : Kd) (I : Inv X pins σ H s) (h : k.Sq X.K H a xs) (h' : k.Sq X.K H a ys) : xs = ys := match k, h, h' with
  | .l, h, h' => I.list_inj h h'
  | .t, h, h' => I.tuple_inj h h'
theorem Kd.lt (k : Kd) {h : Heap} {xs : Array Value} (x : k.Is h a xs) : a < h.objs.size := match k, x with
  | .l, ⟨_, e, _⟩ => Heap.lt_size e
  | .t, ⟨_, e, _⟩ => Heap.lt_size e
end
/-- the items of the two at each turn, in new pairs -/
def ItzK (k1 k2 : Kd) (K : PySem.W.Frag) (a b : Addr) : It :=
  ⟨fun i H => ∃ (xs ys : List V) (x y : V), k1.Sq K H a xs ∧ k2.Sq K H b ys ∧ xs[i]? = some x ∧ ys[i]? = some y,
    fun i H v H' => ∃ T x y, v = .ref T ∧ H T = none ∧ H' = upd H T (.tup [x, y]) ∧ (∀ xs, k1.Sq K H a xs → xs[i]? = some x) ∧ ∀ ys, k2.Sq K H b ys → ys[i]? = some y,
    fun i H => ∃ xs ys : List V, k1.Sq K H a xs ∧ k2.Sq K H b ys ∧ i ≤ xs.length ∧ i ≤ ys.length ∧ (xs.length = i ∨ ys.length = i)⟩
theorem turn_zipK {P : Program} {w : World} {K : PySem.W.Frag} {elts : List Expr} {kk : Nat} {tpos : Pos} {k1 k2 : Kd} {a b z TI TO i1 i2 : Addr} (S : ZipSep2 z TI TO i1 i2 [i1, a] [i2, b]) (na : a ≠ i1) (nb : b ≠ i2) :
    Turn P w K (.Tuple elts kk tpos) (ItzK k1 k2 K a b) [z, TI, TO, i1, i2] z (fun i h => IsZip h z TI TO .none ∧ IsTupOf2 h TI (.ref i1) (.ref i2) ∧ (∃ x y, IsTupOf2 h TO x y) ∧ k1.Iter h i1 a i ∧ k2.Iter h i2 b i) where
  mem := by simp
  obj := fun i h st c hc => by
    obtain ⟨hz, hTI, ⟨x, y, hTO⟩, h1, h2⟩ := st
    simp only [List.mem_cons, List.not_mem_nil, or_false] at hc
    rcases hc with q | q | q | q | q <;> subst q
    · exact ⟨_, hz, fun v q => nomatch q⟩
    · exact ⟨_, hTI, fun v q => nomatch q⟩
    · exact ⟨_, hTO, fun v q => nomatch q⟩
    · exact k1.iterObj h1
    · exact k2.iterObj h2
  keep := fun i h h' st k => by
    obtain ⟨hz, hTI, ⟨x, y, hTO⟩, h1, h2⟩ := st
    exact ⟨k z (by simp) _ hz, k TI (by simp) _ hTI, ⟨x, y, k TO (by simp) _ hTO⟩, k1.iterAt h1 fun o q => k i1 (by simp) o q, k2.iterAt h2 fun o q => k i2 (by simp) o q⟩
  item := by
    intro X hP hw hK hc i pins s σ H E I hf st hg
    subst hP hw hK
    obtain ⟨hz, hTI, ⟨x0, y0, hTO⟩, h1, h2⟩ := st
    obtain ⟨xs, ys, x, y, hqx, hqy, hx, hy⟩ := hg
    obtain ⟨its, rv, p⟩ := k1.read I hqx
    obtain ⟨its2, rv2, p2⟩ := k2.read I hqy
    obtain ⟨u, hu, ru⟩ := rv.get hx
    obtain ⟨u2, hu2, ru2⟩ := rv2.get hy
    have hzl : z < s.heap.objs.size := Heap.lt_size hz
    have l1 : i < its.toArray.size := by rw [List.size_toArray]; exact (List.getElem?_eq_some_iff.mp hu).1
    have l2 : i < its2.toArray.size := by rw [List.size_toArray]; exact (List.getElem?_eq_some_iff.mp hu2).1
    have hh : X.A.in1.handled = none := I.ok.hd hc
    refine wpAny_pyNext_zipD2_item S (k1.draws hh i1 a na its.toArray) (k2.draws hh i2 b nb its2.toArray) hz hTI hTO ⟨h1, p⟩ ⟨h2, p2⟩ l1 l2 fun x1 x2 h' tk q1 q2 z' TO' st1 st2 hT hsz hk => ?_
    have e1 : x1 = u := by rw [List.getElem?_toArray, hu] at q1; exact (Option.some.inj q1).symm
    have e2 : x2 = u2 := by rw [List.getElem?_toArray, hu2] at q2; exact (Option.some.inj q2).symm
    subst e1 e2
    refine ⟨_, rfl, wpAny_letOwnedTupleGo_zip (s := { s with heap := h', toks := tk }) z' fun h'' z'' sb => ?_⟩
    have hT2 := (sb.2 _ (Nat.ne_of_gt hzl)).trans hT
    have all : ∀ c o, c ∉ [z, TI, TO, i1, i2] → s.heap.get? c = some o → h''.get? c = some o := fun c o hb q => by
      simp only [List.mem_cons, List.not_mem_nil, or_false, not_or] at hb
      exact (sb.2 c hb.1).trans (hk c o hb.1 hb.2.2.1 hb.2.2.2.1 hb.2.2.2.2 q)
    have I1 := I.turnedNew (ob := .tup [x, y]) (h' := h'') (t' := tk) all hf (Nat.le_refl _) ⟨by show 2 ≤ sizeLine; decide, [x1, x2], .cons ru (.cons ru2 .nil), ⟨_, hT2, rfl, _, rfl⟩⟩
    refine ⟨.ref s.heap.objs.size, _, I1, rfl, ⟨_, x, y, rfl, I.hok.fresh (Nat.le_refl _), rfl, fun l hl => by rw [k1.inj I hl hqx]; exact hx, fun l hl => by rw [k2.inj I hl hqy]; exact hy⟩, ⟨z'', ?_, ⟨x1, x2, ?_⟩, ?_, ?_⟩, fun c hcm => ?_⟩
    · exact (sb.2 _ S.TIz).trans (hk _ _ S.TIz S.TITO S.TIi1 S.TIi2 hTI)
    · exact (sb.2 _ S.TOz).trans TO'
    · exact k1.iterAt st1.1 fun o q => (sb.2 _ S.zi1.symm).trans q
    · exact k2.iterAt st2.1 fun o q => (sb.2 _ S.zi2.symm).trans q
    · rw [upd_ne (fun e => ?_)]
      · exact (hf c hcm).1
      · subst e
        simp only [List.mem_cons, List.not_mem_nil, or_false] at hcm
        obtain ⟨_, e1, _⟩ := k1.iterObj h1; obtain ⟨_, e2, _⟩ := k2.iterObj h2
        have g1 := Heap.lt_size e1; have g2 := Heap.lt_size e2; have g3 := Heap.lt_size hTI; have g4 := Heap.lt_size hTO
        rcases hcm with q | q | q | q | q
        · exact absurd q (Nat.ne_of_gt hzl)
        · exact absurd q (Nat.ne_of_gt g3)
        · exact absurd q (Nat.ne_of_gt g4)
        · exact absurd q (Nat.ne_of_gt g1)
        · exact absurd q (Nat.ne_of_gt g2)
  done := by
    intro X hP hw hK hc i pins s σ H E I hf st hg
    subst hP hw hK
    obtain ⟨hz, hTI, ⟨x0, y0, hTO⟩, h1, h2⟩ := st
    obtain ⟨xs, ys, hqx, hqy, le1, le2, hend⟩ := hg
    obtain ⟨its, rv, p⟩ := k1.read I hqx
    obtain ⟨its2, rv2, p2⟩ := k2.read I hqy
    have l1 : xs.length = its.toArray.size := by rw [List.size_toArray]; exact rv.length
    have l2 : ys.length = its2.toArray.size := by rw [List.size_toArray]; exact rv2.length
    have hh : X.A.in1.handled = none := I.ok.hd hc
    refine wpAny_pyNext_zipD2_end S (k1.draws hh i1 a na its.toArray) (k2.draws hh i2 b nb its2.toArray) hz hTI hTO ⟨h1, p⟩ ⟨h2, p2⟩ (by omega) (by omega) (by omega) fun h' tk hk => ⟨rfl, I.turnedL (t' := tk) (ch := [z, TI, TO, i1, i2]) (fun c o hb q => ?_) hf⟩
    simp only [List.mem_cons, List.not_mem_nil, or_false, not_or] at hb
    exact hk c o hb.1 hb.2.2.1 hb.2.2.2.1 hb.2.2.2.2 q
  self := fun A i s Q E st h => wpAny_pyIter_zip st.1 h
def iZipK (k1 k2 : Kd) (K : PySem.W.Frag) (ta : TA) : TI := fun σ H R => ta σ H fun vs H1 => ∃ a b xs ys, vs = [.ref a, .ref b] ∧ k1.Sq K H1 a xs ∧ k2.Sq K H1 b ys ∧ R (ItzK k1 k2 K a b) H1
theorem zip_it {X : Cx} {pins : List (Addr × Obj)} {σ : L2.St} {H : Hp} {s : Shared} {R : It → Hp → Prop} {elts : List Expr} {kk : Nat} {tpos : Pos} (k1 k2 : Kd) {a b : Addr} {xs ys : List V} (I : Inv X pins σ H s) (hx : k1.Sq X.K H a xs) (hy : k2.Sq X.K H b ys) (q : R (ItzK k1 k2 X.K a b) H) :
    wpAny (model X.prog X.w) X.A (call (.type "zip") [.ref a, .ref b]) (fun v s1 => wpAny (model X.prog X.w) X.A (pyIter v) (PIE X pins σ (.Tuple elts kk tpos) R) X.xe s1) X.xe s := by
  obtain ⟨its, rv, p⟩ := k1.read I hx
  obtain ⟨its2, rv2, p2⟩ := k2.read I hy
  have la := k1.lt p; have lb := k2.lt p2
  refine zip_begins2 (k1.begins a its.toArray) (k2.begins b its2.toArray) p p2 fun h' hz hTI hTO g1 g2 hsz hk => wpAny_pyIter_zip hz ?_
  have ns : ∀ j c : Nat, c < s.heap.objs.size → c ≠ s.heap.objs.size + j := fun j c h => by omega
  have S : ZipSep2 (s.heap.objs.size + 4) (s.heap.objs.size + 2) (s.heap.objs.size + 3) s.heap.objs.size (s.heap.objs.size + 1) [s.heap.objs.size, a] [s.heap.objs.size + 1, b] := by
    have a0 := ns 0 a la; have a1 := ns 1 a la; have a3 := ns 3 a la; have a4 := ns 4 a la
    have b0 := ns 0 b lb; have b3 := ns 3 b lb; have b4 := ns 4 b lb
    generalize s.heap.objs.size = n at *
    refine ⟨?_, ?_, ?_, ?_, ?_, ?_, ?_, ?_, ?_, ?_, ?_, ?_, ?_⟩ <;> (try simp only [List.mem_cons, List.not_mem_nil, or_false, not_or, true_or]) <;> (try trivial) <;> (first | (show ¬ (_ : Nat) = _; omega) | (refine ⟨?_, ?_⟩ <;> (show ¬ (_ : Nat) = _; omega)) | trivial)
  refine ⟨s.heap.objs.size + 4, [s.heap.objs.size + 4, s.heap.objs.size + 2, s.heap.objs.size + 3, s.heap.objs.size, s.heap.objs.size + 1], _, _, H, rfl, I.kept (t' := s.toks) hk, turn_zipK S (by have := ns 0 a la; simpa using this) (ns 1 b lb), ⟨hz, hTI, ⟨_, _, hTO⟩, k1.start g1, k2.start g2⟩, fun c hc => ?_, q⟩
  have hle : s.heap.objs.size ≤ c := by
    simp only [List.mem_cons, List.not_mem_nil, or_false] at hc
    rcases hc with z | z | z | z | z <;> subst z <;> first | exact Nat.le_add_right _ _ | exact Nat.le_refl _
  exact I.fpOk hle (I.hok.fresh hle)
/-- zip(a, b): whatever of lists and tuples they are -/
theorem pi_zipK {X : Cx} {e e2 : Expr} {ta : TA} {p pos tpos : Pos} {elts : List Expr} {kk : Nat} (k1 k2 : Kd) (hg : Gl X "zip") (hm : X.mg "zip" = none) (ha : PA X [e, e2] ta)
    (hs : starEach [e, e2] X.env = (false, eval e X.env) :: starEach [e2] X.env := by rfl) (hpl : (backTo pos (starEach [e2] X.env)).any (·.1) = false := by rfl) :
    PI X (.Tuple elts kk tpos) (.Call (.Name "zip" p) [e, e2] [] pos) (iZipK k1 k2 X.K ta) := by
  refine ⟨fun pins s σ H R I h => Call_ (ld_blt I hg hm boot_zip (callWith_type1 (thn (ha.run pos pins s σ H _ I h) fun us s1 ⟨vs, H1, I1, r1, q1⟩ => ?_) hs hpl))⟩
  obtain ⟨a, b, xs, ys, e, hx, hy, q⟩ := q1
  subst e
  obtain ⟨u, w', rfl, ru, rw'⟩ := vals2 r1
  cases ru; cases rw'
  exact zip_it k1 k2 I1 hx hy q
/-- the same where either kind may come -/
def iZipB (K : PySem.W.Frag) (ta : TA) : TI := fun σ H R => ta σ H fun vs H1 => ∃ a b xs ys k1 k2, vs = [.ref a, .ref b] ∧ Kd.Sq k1 K H1 a xs ∧ Kd.Sq k2 K H1 b ys ∧ R (ItzK k1 k2 K a b) H1
theorem pi_zipB {X : Cx} {e e2 : Expr} {ta : TA} {p pos tpos : Pos} {elts : List Expr} {kk : Nat} (hg : Gl X "zip") (hm : X.mg "zip" = none) (ha : PA X [e, e2] ta)
    (hs : starEach [e, e2] X.env = (false, eval e X.env) :: starEach [e2] X.env := by rfl) (hpl : (backTo pos (starEach [e2] X.env)).any (·.1) = false := by rfl) :
    PI X (.Tuple elts kk tpos) (.Call (.Name "zip" p) [e, e2] [] pos) (iZipB X.K ta) := by
  refine ⟨fun pins s σ H R I h => Call_ (ld_blt I hg hm boot_zip (callWith_type1 (thn (ha.run pos pins s σ H _ I h) fun us s1 ⟨vs, H1, I1, r1, q1⟩ => ?_) hs hpl))⟩
  obtain ⟨a, b, xs, ys, k1, k2, e, hx, hy, q⟩ := q1
  subst e
  obtain ⟨u, w', rfl, ru, rw'⟩ := vals2 r1
  cases ru; cases rw'
  exact zip_it k1 k2 I1 hx hy q
/-- a loop over two sequences of one length that stay as they are -/
theorem for_zipK {K : PySem.W.Frag} {k1 k2 : Kd} {a b : Addr} {xs ys : List V} {g : TG} {tb : TS} {D : Ends} {σ : L2.St} {H : Hp} (hl : xs.length = ys.length) (Pv : Nat → L2.St → Hp → Prop) (h0 : Pv 0 σ H) (hq : ∀ i σ H, Pv i σ H → k1.Sq K H a xs ∧ k2.Sq K H b ys)
    (hs : ∀ (i : Nat) (x y : V) (T : Addr) (σ : L2.St) (H : Hp), xs[i]? = some x → ys[i]? = some y → Pv i σ H → H T = none → g (.ref T) σ (upd H T (.tup [x, y])) fun σ2 H2 => tb { D with nx := Pv (i + 1), ct := Pv (i + 1), bk := D.nx } σ2 H2) (hd : ∀ σ H, Pv xs.length σ H → D.nx σ H) :
    ∃ W : Nat → Nat → L2.St → Hp → Prop, (∃ m, W 0 m σ H) ∧ ∀ i m σ H, W i m σ H →
      ((ItzK k1 k2 K a b).stop i H ∧ D.nx σ H) ∨ ((ItzK k1 k2 K a b).go i H ∧ ∃ N : L2.St → Hp → Prop, (∀ σ' H', N σ' H' → ∃ m', m' < m ∧ W (i + 1) m' σ' H') ∧ ∀ x H', (ItzK k1 k2 K a b).yld i H x H' → g x σ H' fun σ2 H2 => tb { D with nx := N, ct := N, bk := D.nx } σ2 H2) := by
  refine ⟨fun i m σ H => m = xs.length - i ∧ i ≤ xs.length ∧ Pv i σ H, ⟨xs.length, by simp, Nat.zero_le _, h0⟩, ?_⟩
  rintro i m σ H ⟨rfl, hi, p⟩
  obtain ⟨q1, q2⟩ := hq i σ H p
  by_cases lt : i < xs.length
  · have lt2 : i < ys.length := by omega
    refine .inr ⟨⟨xs, ys, xs[i], ys[i], q1, q2, by simp [lt], by simp [lt2]⟩, Pv (i + 1), fun σ' H' p' => ⟨xs.length - (i + 1), by omega, rfl, lt, p'⟩, fun x H' y => ?_⟩
    obtain ⟨T, x1, y1, e, hT, e2, z1, z2⟩ := y
    subst e e2
    exact hs i x1 y1 T σ H (z1 xs q1) (z2 ys q2) p hT
  · have e : i = xs.length := by omega
    subst e
    exact .inl ⟨⟨xs, ys, q1, q2, Nat.le_refl _, by omega, .inl rfl⟩, hd σ H p⟩
end UL

set_option Elab.async false
set_option linter.all false
set_option maxRecDepth 100000
set_option maxHeartbeats 2000000
/-! yield from a list -/
namespace UL
open PySem PySem.Spec PyProof.Rows L2
section
variable {prog : Program} {w : World} {A : Around} {E : Value → Shared → Prop} {s : Shared}
theorem list_next {it l : Addr} {i : Nat} {items : Array Value} {x : Value} {Q : Option Value → Shared → Prop} (hit : s.heap.IsListIter it l i) (hl : s.heap.IsList l items) (hx : items[i]? = some x)
    (hQ : ∀ h', h'.IsListIter it l (i + 1) → Heap.SameBut it s.heap h' → Q (some x) { s with heap := h' }) : wpAny (model prog w) A (callSpecial? (.ref it) "__next__") Q E s := by
  have ⟨o, ho, hc, hd⟩ := hit; have ⟨ol, hol, _, nl, hdl⟩ := hl
  refine wpAny_callSpecial?_slot (name := Str.ofString "__next__") hit.typeIs slot_listiter_next (wpAny_call_entry slot_listiter_next hit.typeIs entry_listiter_next ?_ (args_listiter_next _))
  refine wpAny_bind (m := field (.ref it) 0) (wpAny_field ho hd (x := .ref l) rfl ?_)
  show wpAny _ _ (if (Value.ref l == Value.none) = true then _ else _) _ _ s; rw [if_neg (show ¬ ((Value.ref l == Value.none) = true) from Bool.false_ne_true)]
  refine wpAny_bind (m := field (.ref it) 1) (wpAny_field ho hd (x := .int i 0) rfl (wpAny_bind (m := seqItems? (.ref l)) (wpAny_seqItems hol hdl ?_)))
  simp only [Int.toNat_natCast, hx]
  refine wpAny_bind (wpAny_setField ho hd (by simp) (wpAny_pure ⟨x, rfl, hQ _ ⟨_, Heap.get?_update_self _ ho (Obj.isFreed_of_fields (Obj.data_mapFields hd _)), (Obj.cls_mapFields ..).trans hc, ?_⟩ (Heap.SameBut.update ..)⟩))
  rw [Obj.data_mapFields hd]; simp [rawInt]
theorem list_stop {it l : Addr} {i : Nat} {items : Array Value} {Q : Option Value → Shared → Prop} (hh : A.handled = none) (hit : s.heap.IsListIter it l i) (hl : s.heap.IsList l items) (hx : items[i]? = none)
    (hE : ∀ e h', StopX e h' → Heap.ExtBut it s.heap h' → E e { s with heap := h' }) : wpAny (model prog w) A (callSpecial? (.ref it) "__next__") Q E s := by
  have ⟨o, ho, hc, hd⟩ := hit; have ⟨ol, hol, _, nl, hdl⟩ := hl
  refine wpAny_callSpecial?_slot (name := Str.ofString "__next__") hit.typeIs slot_listiter_next (wpAny_call_entry slot_listiter_next hit.typeIs entry_listiter_next ?_ (args_listiter_next _))
  refine wpAny_bind (m := field (.ref it) 0) (wpAny_field ho hd (x := .ref l) rfl ?_)
  show wpAny _ _ (if (Value.ref l == Value.none) = true then _ else _) _ _ s; rw [if_neg (show ¬ ((Value.ref l == Value.none) = true) from Bool.false_ne_true)]
  refine wpAny_bind (m := field (.ref it) 1) (wpAny_field ho hd (x := .int i 0) rfl (wpAny_bind (m := seqItems? (.ref l)) (wpAny_seqItems hol hdl ?_)))
  simp only [Int.toNat_natCast, hx]
  refine wpAny_bind (wpAny_rule (wpAny_bind (wpAny_setField ho hd (by simp) (wpAny_bind (m := newExc (.type "StopIteration") []) ?_))))
  simp only [newExc, newTuple]
  refine wpAny_bind (wpAny_newObj_type (wpAny_bind (m := firstArgMember _ _) (wpAny_of_eq (a := Value.none) (by first | rfl | (simp only [firstArgMember]; rfl)) (wpAny_newObj_type ?_ (by size_fits)))) (by size_fits))
  simp only [raiseNew]; refine wpAny_bind (wpAny_handled ?_); rw [show A.in1.handled = none from hh]
  refine wpAny_bind (wpAny_pure (wpAny_throw (hE _ _ ⟨_, _, _, rfl, Heap.get?_push_size _ rfl, rfl, rfl, ?_⟩ (((Heap.SameBut.update ..).extBut.push _).push _))))
  first | rfl | (rw [Array.getElem?_append_left (by decide)]; rfl) | kernel_rfl
end
theorem close_list : typeLookup (.type "list_iterator") "close" = pure none := by rw [typeLookup_type, builtinLookup_eq_fast]; kernel_rfl
def tYfLst (te : TE) : TYf := fun σ H Q => te σ H fun x H1 => ∃ a xs, x = .ref a ∧ H1 a = some (.lst xs) ∧ Q xs H1
theorem yf_lst {X : Cx} {e : Expr} {te : TE} (he : PE X e te) : YfE X e (tYfLst te) := by
  refine ⟨fun pins s σ H Q I h => thn (he.run pins s σ H _ I h) fun v s1 ⟨x, H1, I1, r1, a, xs, ex, ha, hq⟩ => ?_⟩
  subst ex
  obtain rfl : v = Value.ref a := r1
  obtain ⟨its, rits, pl, hz⟩ := I1.list (SqL.of ha)
  obtain ⟨ol, hol, hcl, nl, hdl⟩ := id pl.isList
  refine ⟨"list", ⟨ol, hol, hcl⟩, by decide, wpAny_pyIter_list pl.isList ?_⟩
  have lt := Heap.lt_size hol
  have old : ∀ b o, s1.heap.get? b = some o → b ≠ s1.heap.objs.size := fun b o e => Nat.ne_of_lt (Heap.lt_size e)
  refine ⟨s1.heap.objs.size, H1, xs, fun j h => h.IsListIter s1.heap.objs.size a j ∧ h.IsList a its.toArray, rfl, I1.kept (t' := s1.toks) fun b o e => Heap.get?_push_of_some _ e, .inr I1.sz, Nat.ne_of_gt I1.lt, fun y c hy => ?_, I1.fresh, fun p hp => old p.1 _ (I1.pin p hp).1,
    ⟨⟨_, Heap.get?_push_size _ rfl, rfl, rfl⟩, pl.isList.push _⟩, ⟨⟨"list_iterator", fun j h q => ?_, close_list, by decide⟩, fun j h h' q hk => ?_, fun A' j x s2 Q' E' hA hx q hQ => ?_, fun A' s2 Q' E' hA q hE => ?_⟩, hq⟩
  · obtain ⟨v, o, ho, _⟩ := I1.cell y c hy; exact old c o ho
  · obtain ⟨⟨o, ho, hc, _⟩, _⟩ := q; exact ⟨o, ho, hc⟩
  · exact ⟨Heap.IsListIter.at q.1 fun o e => hk _ o (.inl rfl) e, Heap.IsList.at q.2 fun o e => hk _ o (.inr (by rw [ha]; exact fun z => by cases z)) e⟩
  · obtain ⟨u, hu, ru⟩ := rits.get hx
    exact list_next q.1 q.2 (x := u) (by simpa using hu) fun h' q1 hs => hQ u h' s2.toks ru ⟨q1, q.2.extBut hs.extBut (Nat.ne_of_lt lt)⟩ fun b o hb e => hs.extBut b o hb e
  · have e := rits.length
    exact list_stop hA q.1 q.2 (by simp; omega) fun e h' hS hk => hE e h' s2.toks hS fun b o hb eb => hk b o hb eb
end UL

set_option Elab.async false
set_option linter.all false
set_option maxRecDepth 100000
set_option maxHeartbeats 2000000
/-! bundles: a def, a method as they stand; rules for what may be of several kinds -/
namespace UL
open PySem PySem.Spec PyProof.Rows L2

/-! ### operators on values of several kinds -/
section
variable {X : Cx}
abbrev rAddS' : R2 := fun x y H Q => ∃ i j, x = .str i ∧ y = .str j ∧ i.length + j.length ≤ sizeLine ∧ Q (.str (i ++ j)) H
def rAddA (K : PySem.W.Frag) : R2 := fun x y H Q => rI0 (fun i j => .int (i + j)) x y H Q ∨ rAddS' x y H Q ∨ rCatA K x y H Q ∨ rCat x y H Q
theorem op_addA : OpR X (binaryOp .Add) (rAddA X.K) := OpR.or op_add (OpR.or op_add_str (OpR.or op_catA op_cat))
def rMulA (K : PySem.W.Frag) : R2 := fun x y H Q => rI CMul (fun i j => .int (i * j)) x y H Q ∨ rMulS x y H Q ∨ rRepU K x y H Q
theorem op_mulA : OpR X (binaryOp .Mult) (rMulA X.K) := OpR.or op_mul (OpR.or op_mulS op_repU)
def rEqA (K : PySem.W.Frag) : R2 := fun x y H Q => rEq x y H Q ∨ rEqD K x y H Q
def rNeA (K : PySem.W.Frag) : R2 := fun x y H Q => rNe x y H Q ∨ rNeD K x y H Q
theorem op_eqA (hu : X.A.units + 64 < cLine) : OpR X (compareOp .Eq) (rEqA X.K) := OpR.or op_eq (op_eqD hu)
theorem op_neA (hu : X.A.units + 64 < cLine) : OpR X (compareOp .NotEq) (rNeA X.K) := OpR.or op_ne (op_neD hu)
abbrev rInC : R2 := fun x y H Q => ∃ (c : Nat) (z : Str), x = .str ⟨#[c]⟩ ∧ y = .str z ∧ Q (.bl (decide (c ∈ z.cps.toList))) H
abbrev rNInC : R2 := fun x y H Q => ∃ (c : Nat) (z : Str), x = .str ⟨#[c]⟩ ∧ y = .str z ∧ Q (.bl (!decide (c ∈ z.cps.toList))) H
def rInA (K : PySem.W.Frag) : R2 := fun x y H Q => rInC x y H Q ∨ rIn K false x y H Q
def rNInA (K : PySem.W.Frag) : R2 := fun x y H Q => rNInC x y H Q ∨ rIn K true x y H Q
theorem op_inA : OpR X (compareOp .In) (rInA X.K) := OpR.or op_in_sign op_in_seq
theorem op_ninA : OpR X (compareOp .NotIn) (rNInA X.K) := OpR.or op_notIn_sign op_notIn_seq
def rIsNone : R2 := fun x y H Q => y = .non ∧ Q (.bl (decide (x = .non))) H
def rNotNone : R2 := fun x y H Q => y = .non ∧ Q (.bl (!decide (x = .non))) H
theorem op_isNone : OpR X (compareOp .Is) rIsNone := op_isN
theorem op_notNone : OpR X (compareOp .IsNot) rNotNone := op_notN
def rMod : R2 := rI (fun _ j => 0 < j) fun i j => .int (i % j)
def rDivW : R2 := rI CDivW fun i j => .int (i / j)
def rSub_ : R2 := rI0 fun i j => .int (i - j)
def rLt : R2 := rI0 fun i j => .bl (decide (i < j))
def rLe : R2 := rI0 fun i j => .bl (decide (i ≤ j))
def rGt_ : R2 := rI0 fun i j => .bl (decide (j < i))
def rGe_ : R2 := rI0 fun i j => .bl (decide (j ≤ i))
def rPow : R2 := rI CPow fun i j => .int (i ^ j.toNat)
theorem op_modA : OpR X (binaryOp .Mod) rMod := op_mod
theorem op_divA : OpR X (binaryOp .FloorDiv) rDivW := op_fdivW
theorem op_subA : OpR X (binaryOp .Sub) rSub_ := op_sub
theorem op_powA : OpR X (binaryOp .Pow) rPow := op_pow
theorem op_ltA : OpR X (compareOp .Lt) rLt := op_lt
theorem op_leA : OpR X (compareOp .LtE) rLe := op_le
theorem op_gtA : OpR X (compareOp .Gt) rGt_ := op_gt
theorem op_geA : OpR X (compareOp .GtE) rGe_ := op_ge
def rNeg : V → Hp → VK → Prop := rU fun i => .int (-i)
theorem un_negA : UnR X (unaryOp .USub) rNeg := un_neg
/-! ### built-in calls -/
def cLen (K : PySem.W.Frag) : List V → Hp → VK → Prop := fun xs H Q => ∃ x n, xs = [x] ∧ LenV K x H n ∧ Q (.int n) H
theorem call_lenA : CallR X (.builtin "len") (cLen X.K) := call_len
def cAbs : List V → Hp → VK → Prop := fun xs H Q => ∃ i, xs = [.int i] ∧ Q (.int (if i < 0 then -i else i)) H
theorem call_absA : CallR X (.builtin "abs") cAbs := call_abs
def cInt : List V → Hp → VK → Prop := fun xs H Q => ∃ i, xs = [.int i] ∧ Q (.int i) H
theorem call_intA : CallR X (.type "int") cInt := fun pins s σ H xs us Q I r h => call_int1 pins s σ H xs us Q I r (.inl h)
def cStr : List V → Hp → VK → Prop := fun xs H Q => (∃ i, xs = [.int i] ∧ i.natAbs.log2 < 1920 ∧ Q (.str (toString i)) H) ∨ ∃ a, xs = [.str a] ∧ Q (.str a) H
theorem call_strA : CallR X (.type "str") cStr := CallR.or call_str_int SkE.call_str_str
def cList (K : PySem.W.Frag) : List V → Hp → VK → Prop := fun xs H Q => ∃ p ys, xs = [.ref p] ∧ (SqL K H p ys ∨ SqT K H p ys) ∧ ∀ l, H l = none → Q (.ref l) (upd H l (.lst ys))
theorem call_listA : CallR X (.type "list") (cList X.K) := call_list_of
def cTup (K : PySem.W.Frag) : List V → Hp → VK → Prop := fun xs H Q => ∃ p ys, xs = [.ref p] ∧ ((SqL K H p ys ∧ ∀ l, H l = none → Q (.ref l) (upd H l (.tup ys))) ∨ (SqT K H p ys ∧ Q (.ref p) H))
theorem call_tupA : CallR X (.type "tuple") (cTup X.K) := call_tuple_of
end

/-! ### a def of the top, a method, as they stand -/
structure TD (K : PySem.W.Frag) (mg : Str → Option Value) (x : Str) (st : Stmt) : Prop where
  ex : ∃ f fd, Fun K x x st f fd ∧ mg x = some (.ref f)
/-- .. and what it promises -/
structure Dn (P : Program) (w : World) (K : PySem.W.Frag) (mg : Str → Option Value) (base : Heap) (CX : CXT) (k : Nat) (x : Str) (sp : Sp) : Prop where
  ex : ∃ (f : Addr) (fd : FuncData) (ps : List Str), FnOk P w K mg base CX k f fd ps sp ∧ mg x = some (.ref f) ∧ PySem.W.keepIn K (.ref f) = true ∧ Binds K fd ps []
structure MD (K : PySem.W.Frag) (C : Addr) (m qual : Str) (st : Stmt) : Prop where
  ex : ∃ f fd, Fun K m qual st f fd ∧ Meth K C m f
structure Mn (P : Program) (w : World) (K : PySem.W.Frag) (mg : Str → Option Value) (base : Heap) (CX : CXT) (k : Nat) (C : Addr) (m : Str) (sp : Sp) : Prop where
  ex : ∃ (f : Addr) (fd : FuncData) (ps : List Str), FnOk P w K mg base CX k f fd ps sp ∧ Meth K C m f ∧ Binds K fd ps []
section
variable {P : Program} {w : World} {K : PySem.W.Frag} {mg : Str → Option Value} {base : Heap} {C : Addr} {x m qual : Str} {st : Stmt} {N ps : List Str} {k : Nat} {sp : Sp}
abbrev BindOk (x qual : Str) (st : Stmt) (ps : List Str) : Prop := ∀ (kV doc pm : Value) (an : Option Addr) (cdv ct : Value) (us : List Value), us.length = ps.length → bindArgs (PySem.W.fnOf x qual (defArgs st) (defBody st) (defScope st) .none kV doc pm an cdv ct) ⟨us, []⟩ = pure (ps.zip us)
abbrev Body0 (P : Program) (w : World) (K : PySem.W.Frag) (mg : Str → Option Value) (base : Heap) (qual : Str) (st : Stmt) (N : List Str) (k : Nat) (sp : Sp) : Prop :=
  ∀ (f : Addr) (cdv : Value) (A : Around) (outer : List Env) (s : Shared) (H : Hp) (vs : List V) (Q : VK) (E : XK), Room k (A.deeper (envOfC qual (defScope st) s.heap.objs.size f cdv)) → sp vs H Q E →
      ∃ t, PSs (cxOf CX0 P w K mg base N qual (defScope st) f cdv A outer s H E).nox (defBody st) t ∧ t { nx := fun _ H' => Q .non H', rt := Q } (L2.start N vs) H
abbrev BodyX (P : Program) (w : World) (K : PySem.W.Frag) (mg : Str → Option Value) (base : Heap) (qual : Str) (st : Stmt) (N : List Str) (k : Nat) (sp : Sp) : Prop :=
  ∀ (f : Addr) (cdv : Value) (A : Around) (outer : List Env) (s : Shared) (H : Hp) (vs : List V) (Q : VK) (E : XK), Room k (A.deeper (envOfC qual (defScope st) s.heap.objs.size f cdv)) → sp vs H Q E →
      ∃ t, PSs (cxOf (L2.CX P w) P w K mg base N qual (defScope st) f cdv A outer s H E) (defBody st) t ∧ t { nx := fun _ H' => Q .non H', rt := Q } (L2.start N vs) H
theorem TD.dn (D : TD K mg x st) (S : FnScope N ps (defScope st)) (b : BindOk x x st ps) (len : ∀ vs H Q E, sp vs H Q E → vs.length = ps.length) (body : Body0 P w K mg base x st N k sp) : Dn P w K mg base CX0 (k + 1) x sp :=
  let ⟨f, fd, F, hm⟩ := D.ex
  ⟨f, fd, ps, F.ok S len (body f), hm, F.kp, F.binds b⟩
theorem TD.dx (D : TD K mg x st) (S : FnScope N ps (defScope st)) (b : BindOk x x st ps) (len : ∀ vs H Q E, sp vs H Q E → vs.length = ps.length) (body : BodyX P w K mg base x st N k sp) : Dn P w K mg base (L2.CX P w) (k + 1) x sp :=
  let ⟨f, fd, F, hm⟩ := D.ex
  ⟨f, fd, ps, F.okX S len (body f), hm, F.kp, F.binds b⟩
theorem MD.mn (D : MD K C m qual st) (S : FnScope N ps (defScope st)) (b : BindOk m qual st ps) (len : ∀ vs H Q E, sp vs H Q E → vs.length = ps.length) (body : Body0 P w K mg base qual st N k sp) : Mn P w K mg base CX0 (k + 1) C m sp :=
  let ⟨f, fd, F, hm⟩ := D.ex
  ⟨f, fd, ps, F.ok S len (body f), hm, F.binds b⟩
theorem MD.mx (D : MD K C m qual st) (S : FnScope N ps (defScope st)) (b : BindOk m qual st ps) (len : ∀ vs H Q E, sp vs H Q E → vs.length = ps.length) (body : BodyX P w K mg base qual st N k sp) : Mn P w K mg base (L2.CX P w) (k + 1) C m sp :=
  let ⟨f, fd, F, hm⟩ := D.ex
  ⟨f, fd, ps, F.okX S len (body f), hm, F.binds b⟩
end
section
variable {X : Cx} {CX : CXT} {k j : Nat} {C : Addr} {sp : Sp} {E : XK} {x m : Str} {p pos apos : Pos} {e o : Expr} {es : List Expr} {ta : TE} {t : TA}
/-- f(e, ..) -/
theorem pe_d (d : Dn X.prog X.w X.K X.mg X.base CX k x sp) (hr : Room j X.A) (hk : k ≤ j) (hx : Passes CX X E) (hg : Gl X x) (ha : PA X (e :: es) t) (hdb : (x == ("__debug__" : Str)) = false := by decide)
    (he : starEach (e :: es) X.env = (false, eval e X.env) :: starEach es X.env := by rfl) (hpl : (backTo pos (starEach es X.env)).any (·.1) = false := by rfl) : PE X (.Call (.Name x p) (e :: es) [] pos) (tCall sp [] E t) := by
  obtain ⟨f, fd, ps, F, hm, hkp, hb⟩ := d.ex
  exact pe_call F (hr.mono hk) hg hm hkp hb .nil hx ha hdb he hpl
/-- o.m(e, ..), o.m() -/
theorem pe_m {pl : Sem Bool} (d : Mn X.prog X.w X.K X.mg X.base CX k C m sp) (c : Cls X.K C) (hr : Room j X.A) (hk : k ≤ j) (hx : Passes CX X E) (he : PE X o ta) (ha : PA X (e :: es) t)
    (hst : starEach (e :: es) X.env = (false, eval e X.env) :: starEach es X.env := by rfl) (hpl : (backTo pos (starEach es X.env)).any (·.1) = false := by rfl)
    (ht : eval (.Call (.Attribute o m apos) (e :: es) [] pos) X.env = (do
      let ov ← eval o X.env
      standAt apos.atName
      let (f, first) ← holding [ov] (getMethod ov m pl)
      callWith pos f first (backTo pos (starEach (e :: es) X.env)) (backToKw pos (keywordEach [] X.env))) := by rfl) : PE X (.Call (.Attribute o m apos) (e :: es) [] pos) (tMeth C m sp [] E ta t) := by
  obtain ⟨f, fd, ps, F, hm, hb⟩ := d.ex
  exact pe_meth he c hm F (hr.mono hk) hb .nil hx ha hst hpl ht
theorem pe_m' {pl : Sem Bool} (d : Mn X.prog X.w X.K X.mg X.base CX k C m sp) (c : Cls X.K C) (hr : Room j X.A) (hk : k ≤ j) (hx : Passes CX X E) (he : PE X o ta)
    (ht : eval (.Call (.Attribute o m apos) [] [] pos) X.env = (do
      let ov ← eval o X.env
      standAt apos.atName
      let (f, first) ← holding [ov] (getMethod ov m pl)
      callWith pos f first (backTo pos (starEach [] X.env)) (backToKw pos (keywordEach [] X.env))) := by rfl) : PE X (.Call (.Attribute o m apos) [] [] pos) (tMeth C m sp [] E ta tNil) := by
  obtain ⟨f, fd, ps, F, hm, hb⟩ := d.ex
  exact pe_meth0 he c hm F (hr.mono hk) hb .nil hx ht
/-- C(e, ..) -/
structure Kn (P : Program) (w : World) (K : PySem.W.Frag) (mg : Str → Option Value) (base : Heap) (CX : CXT) (k : Nat) (C : Addr) (x : Str) (sp : Sp) : Prop where
  ex : ∃ (f : Addr) (fd : FuncData) (ps : List Str), FnOk P w K mg base CX k f fd ps sp ∧ Mk K C f ∧ Binds K fd ps [] ∧ mg x = some (.ref C)
theorem pe_k (d : Kn X.prog X.w X.K X.mg X.base CX k C x sp) (hr : Room j X.A) (hk : k + 1 ≤ j) (hx : Passes CX X E) (hg : Gl X x) (ha : PA X (e :: es) t) (hdb : (x == ("__debug__" : Str)) = false := by decide)
    (he : starEach (e :: es) X.env = (false, eval e X.env) :: starEach es X.env := by rfl) (hpl : (backTo pos (starEach es X.env)).any (·.1) = false := by rfl) : PE X (.Call (.Name x p) (e :: es) [] pos) (tMake C sp [] E t) := by
  obtain ⟨f, fd, ps, F, M, hb, hm⟩ := d.ex
  exact pe_make M F (hr.mono hk) hg hm hb .nil hx ha hdb he hpl
end

/-! ### what of the heap is kept -/
/-- all but p is as it was -/
def But (p : Addr) (H H' : Hp) : Prop := ∀ b o, H b = some o → b ≠ p → H' b = some o
theorem Same.but {p : Addr} {H H' : Hp} (s : Same H H') : But p H H' := fun b o e _ => s b o e
theorem But.trans {p : Addr} {H H1 H2 : Hp} (a : But p H H1) (b : But p H1 H2) : But p H H2 := fun c o e n => b c o (a c o e n) n
theorem But.refl {p : Addr} (H : Hp) : But p H H := fun _ _ e _ => e
theorem Same.new {H : Hp} {p : Addr} {o : HO} (h : H p = none) : Same H (upd H p o) := fun b u e => by rw [upd_ne (ne_of_none e h)]; exact e
theorem But.at_ {p : Addr} {H : Hp} {o : HO} : But p H (upd H p o) := fun b u e n => by rw [upd_ne n]; exact e
/-- changed at a place that H does not know -/
theorem Same.put {H H' : Hp} {p : Addr} {o : HO} (s : Same H H') (h : H p = none) : Same H (upd H' p o) := fun b u e => by rw [upd_ne (ne_of_none e h)]; exact s b u e
theorem But.put {q : Addr} {H H' : Hp} {p : Addr} {o : HO} (s : But q H H') (h : H p = none) : But q H (upd H' p o) := fun b u e n => by rw [upd_ne (ne_of_none e h)]; exact s b u e n
theorem But.sqL {K : PySem.W.Frag} {p a : Addr} {H H' : Hp} {xs : List V} (s : But p H H') (n : a ≠ p) (h : SqL K H a xs) : SqL K H' a xs := by
  rcases h with (h | ⟨o, h⟩) | h
  · exact .inl (.inl (s _ _ h n))
  · exact .inl (.inr ⟨o, s _ _ h n⟩)
  · exact .inr h
theorem But.sqT {K : PySem.W.Frag} {p a : Addr} {H H' : Hp} {xs : List V} (s : But p H H') (n : a ≠ p) (h : SqT K H a xs) : SqT K H' a xs := by
  rcases h with (h | ⟨o, h⟩) | h
  · exact .inl (.inl (s _ _ h n))
  · exact .inl (.inr ⟨o, s _ _ h n⟩)
  · exact .inr h
theorem Same.sqT {K : PySem.W.Frag} {a : Addr} {H H' : Hp} {xs : List V} (s : Same H H') (h : SqT K H a xs) : SqT K H' a xs := by
  rcases h with (h | ⟨o, h⟩) | h
  · exact .inl (.inl (s _ _ h))
  · exact .inl (.inr ⟨o, s _ _ h⟩)
  · exact .inr h
theorem Same.sqL {K : PySem.W.Frag} {a : Addr} {H H' : Hp} {xs : List V} (s : Same H H') (h : SqL K H a xs) : SqL K H' a xs := Same.seq s h
/-- the pool of drawn ints -/
def Pl (H : Hp) (p : Addr) : Prop := ∃ ns : List Int, H p = some (.lst (ns.map V.int))
theorem Pl.same {H H' : Hp} {p : Addr} (x : Pl H p) (s : Same H H') : Pl H' p := let ⟨ns, e⟩ := x; ⟨ns, s _ _ e⟩
theorem Pl.put {H : Hp} {p q : Addr} {o : HO} (x : Pl H p) (n : p ≠ q) : Pl (upd H q o) p := let ⟨ns, e⟩ := x; ⟨ns, by rw [upd_ne n]; exact e⟩
theorem Pl.ne {H : Hp} {p q : Addr} (x : Pl H p) (h : H q = none) : p ≠ q := let ⟨_, e⟩ := x; ne_of_none e h
theorem But.free {H H' : Hp} {p q : Addr} (s : But p H H') (x : Pl H' p) (h : H' q = none) : H q = none := by
  cases e : H q with
  | none => rfl
  | some o => rw [s q o e (Ne.symm (x.ne h))] at h; cases h
end UL

set_option Elab.async false
set_option linter.all false
set_option maxRecDepth 100000
set_option maxHeartbeats 2000000
/-! readings of the unions at values of known kind -/
namespace UL
open PySem PySem.Spec PyProof.Rows L2
section
variable {X : Cx} {K : PySem.W.Frag} {H : Hp} {Q : VK} {i j : Int} {x y : Str} {a b : Addr}
theorem op_inK (K : PySem.W.Frag) (h : X.K = K) : OpR X (compareOp .In) (rInA K) := h ▸ op_inA
theorem pa_starK (K : PySem.W.Frag) (hK : X.K = K) {e : Expr} {es : List Expr} {p : Pos} {te : TE} {t : TA} (he : PE X e te) (hr : PA X es t) (hs : starEach (.Starred e p :: es) X.env = (true, eval e X.env) :: starEach es X.env := by rfl) : PA X (.Starred e p :: es) (StX.tStar K te t) := hK ▸ StX.pa_star he hr hs
theorem cxK {CX : CXT} {P : Program} {w : World} {mg : Str → Option Value} {base : Heap} {N : List Str} {qual : Str} {scope : Scope} {f : Addr} {cd : Value} {A : Around} {outer : List Env} {s : Shared} {H : Hp} {E : XK} : (cxOf CX P w K mg base N qual scope f cd A outer s H E).K = K := rfl
theorem noxK : (X.nox).K = X.K := rfl
theorem addII : rAddA K (.int i) (.int j) H Q ↔ Q (.int (i + j)) H := by
  simp [rAddA, rI0, rCatA, rCat]
theorem addSS : rAddA K (.str x) (.str y) H Q ↔ (x.length + y.length ≤ sizeLine ∧ Q (.str (x ++ y)) H) := by
  simp [rAddA, rAddS', rI0, rCatA, rCat]
theorem mulII : rMulA K (.int i) (.int j) H Q ↔ (CMul i j ∧ Q (.int (i * j)) H) := by
  simp [rMulA, rI, rMulS, rRepU]
theorem cIntI : cInt [.int i] H Q ↔ Q (.int i) H := by simp [cInt]
theorem cAbsI : cAbs [.int i] H Q ↔ Q (.int (if i < 0 then -i else i)) H := by simp [cAbs]
theorem dpI {d : PyData} : Dp K H (.int i) d ↔ d = .int i := ⟨fun h => by cases h; rfl, fun h => h ▸ .int i⟩
theorem dpS {d : PyData} : Dp K H (.str x) d ↔ d = .str x := ⟨fun h => by cases h; rfl, fun h => h ▸ .str x⟩
theorem eqII : rEqA K (.int i) (.int j) H Q ↔ Q (.bl (decide (i = j))) H := by
  have e : (i == j) = decide (i = j) := rfl
  constructor
  · rintro (⟨_, q⟩ | ⟨d, e', h1, h2, _, _, q⟩)
    · simpa using q
    · rw [dpI] at h1 h2; subst h1 h2; exact q
  · intro q; exact .inl ⟨rfl, by simpa using q⟩
theorem neII : rNeA K (.int i) (.int j) H Q ↔ Q (.bl (!decide (i = j))) H := by
  constructor
  · rintro (⟨_, q⟩ | ⟨d, e', h1, h2, _, _, q⟩)
    · simpa using q
    · rw [dpI] at h1 h2; subst h1 h2; exact q
  · intro q; exact .inl ⟨rfl, by simpa using q⟩
theorem neSS : rNeA K (.str x) (.str y) H Q ↔ Q (.bl (!decide (x = y))) H := by
  have e : (x == y) = decide (x = y) := by rw [Bool.eq_iff_iff]; simp
  constructor
  · rintro (⟨_, q⟩ | ⟨d, e', h1, h2, _, _, q⟩)
    · simpa using q
    · rw [dpS] at h1 h2; subst h1 h2; rw [← e]; exact q
  · intro q; exact .inl ⟨rfl, by simpa using q⟩
/-- an int or a text -/
def fl2 : V → Bool
  | .int _ => true
  | .str x => PyData.strOk x
  | _ => false
def dV : V → PyData
  | .int i => .int i
  | .str x => .str x
  | _ => .none
theorem dV_dp {v : V} (h : fl2 v = true) : Dp K H v (dV v) := by
  cases v <;> first | exact .int _ | exact .str _ | exact nomatch h
theorem dV_all : ∀ {xs : List V}, xs.all fl2 = true → DpAll K H xs (xs.map dV)
  | [], _ => .nil
  | x :: r, h => by
    rw [List.all_cons, Bool.and_eq_true] at h
    exact .cons (dV_dp h.1) (dV_all h.2)
theorem dV_shape : ∀ {xs : List V}, xs.all fl2 = true → PyData.canLayAll0 (xs.map dV) = true ∧ PyData.depthAll (xs.map dV) ≤ 1
  | [], _ => by simp [PyData.canLayAll0, PyData.depthAll]
  | x :: r, h => by
    rw [List.all_cons, Bool.and_eq_true] at h
    have ih := dV_shape (xs := r) h.2
    have h0 : PyData.canLay0 (dV x) = true ∧ PyData.depth (dV x) ≤ 1 := by cases x <;> simp_all [dV, fl2, PyData.canLay0, PyData.depth]
    simp only [List.map_cons, PyData.canLayAll0, PyData.depthAll, h0.1, ih.1, Bool.and_self, true_and]
    omega
theorem dV_eqv : ∀ {xs : List V}, PyData.eqvAll (xs.map dV) (xs.map dV) = true
  | [] => by simp [PyData.eqvAll]
  | x :: r => by
    have ih := dV_eqv (xs := r)
    have h0 : PyData.eqv (dV x) (dV x) = true := by cases x <;> simp [dV, PyData.eqv]
    simp only [List.map_cons, PyData.eqvAll, h0, ih, Bool.and_self]
theorem lst_shape {xs : List V} (hf : xs.all fl2 = true) : SeqAt.shaped (.list (xs.map dV)) = true := by
  have h := dV_shape hf
  have h2 := h.2
  have h1 : PyData.canLay0 (.list (xs.map dV)) = true := by rw [PyData.canLay0]; exact h.1
  have h3 : PyData.depth (.list (xs.map dV)) ≤ 64 := by rw [PyData.depth]; omega
  show (_ && _) = true
  rw [h1, decide_eq_true h3]; rfl
/-- two lists of the same ints and texts -/
theorem eqLL {xs : List V} (hf : xs.all fl2 = true) (ha : SqL K H a xs) (hb : SqL K H b xs) (q : Q (.bl true) H) : rEqA K (.ref a) (.ref b) H Q :=
  .inr ⟨.list (xs.map dV), .list (xs.map dV), .lst ha (dV_all hf), .lst hb (dV_all hf), lst_shape hf, lst_shape hf, by rw [PyData.eqv, dV_eqv]; exact q⟩
theorem neLL {xs : List V} (hf : xs.all fl2 = true) (ha : SqL K H a xs) (hb : SqL K H b xs) (q : Q (.bl false) H) : rNeA K (.ref a) (.ref b) H Q :=
  .inr ⟨.list (xs.map dV), .list (xs.map dV), .lst ha (dV_all hf), .lst hb (dV_all hf), lst_shape hf, lst_shape hf, by rw [PyData.eqv, dV_eqv]; exact q⟩
/-- xs == [] -/
theorem eqL0 {xs : List V} (hf : xs.all fl2 = true) (ha : SqL K H a xs) (hb : SqL K H b []) (q : Q (.bl (decide (xs = []))) H) : rEqA K (.ref a) (.ref b) H Q :=
  .inr ⟨.list (xs.map dV), .list [], .lst ha (dV_all hf), .lst hb .nil, lst_shape hf, lst_shape (xs := []) rfl, by
    have e : PyData.eqv (.list (xs.map dV)) (.list []) = decide (xs = []) := by cases xs <;> simp [PyData.eqv, PyData.eqvAll]
    rw [e]; exact q⟩
theorem fl2_ints {ns : List Int} : (ns.map V.int).all fl2 = true := by simp [fl2]
theorem fl2_strs {ns : List Str} (h : ∀ z ∈ ns, PyData.strOk z = true) : (ns.map V.str).all fl2 = true := by simpa [fl2] using h
/-- isinstance of what is known -/
theorem isiI {t : String} {r : Bool} (hk : PySem.W.kitOne K (.type "int") (.type t) = some r) (q : Q (.bl r) H) : rIsi K [.int i, .ty t] H Q := ⟨_, _, _, _, _, rfl, .ty t, .base (.int i), hk, q⟩
theorem isiS {t : String} {r : Bool} (hk : PySem.W.kitOne K (.type "str") (.type t) = some r) (q : Q (.bl r) H) : rIsi K [.str x, .ty t] H Q := ⟨_, _, _, _, _, rfl, .ty t, .base (.str x), hk, q⟩
theorem lenL {xs : List V} (h : SqL K H a xs) (q : Q (.int xs.length) H) : cLen K [.ref a] H Q := ⟨_, _, rfl, .inl ⟨xs, h, rfl⟩, q⟩
theorem lenT {xs : List V} (h : SqT K H a xs) (q : Q (.int xs.length) H) : cLen K [.ref a] H Q := ⟨_, _, rfl, .inr ⟨xs, h, rfl⟩, q⟩
theorem lenS (h : x.length ≤ sizeLine) (q : Q (.int x.length) H) : cLen K [.str x] H Q := ⟨_, _, rfl, ⟨h, rfl⟩, q⟩
theorem ixL {xs : List V} {v : V} (h : SqL K H a xs) (e : atI xs i = some v) (q : Q v H) : rIx K (.ref a) (.int i) H Q := .inl ⟨a, xs, i, v, rfl, rfl, h, e, q⟩
theorem ixT {xs : List V} {v : V} (h : SqT K H a xs) (e : atI xs i = some v) (q : Q v H) : rIx K (.ref a) (.int i) H Q := .inr (.inl ⟨a, xs, i, v, rfl, rfl, h, e, q⟩)
theorem ixS {c : Nat} (h : x.length ≤ sizeLine) (e : atI x.cps.toList i = some c) (q : Q (.str ⟨#[c]⟩) H) : rIx K (.str x) (.int i) H Q := .inr (.inr ⟨x, i, c, rfl, rfl, h, e, q⟩)
theorem atN {α : Type} {xs : List α} {n : Nat} {v : α} (h : xs[n]? = some v) : atI xs (n : Int) = some v := by
  obtain ⟨l, _⟩ := List.getElem?_eq_some_iff.mp h
  unfold atI ixN
  rw [if_pos (Int.natCast_nonneg n), if_pos (by omega)]
  exact h
theorem chain2 {ta tb tc : TE} {f g : Int → Int → Bool} {σ : L2.St} {i j k : Int} (h1 : ∀ R : VK, R (.int i) H → ta σ H R) (h2 : ∀ R : VK, R (.int j) H → tb σ H R) (h3 : ∀ R : VK, R (.int k) H → tc σ H R) (q : Q (.bl (f i j && g j k)) H) :
    tChain (rI0 fun i j => .bl (f i j)) (rI0 fun i j => .bl (g i j)) ta tb tc σ H Q := by
  refine h1 _ (h2 _ ⟨i, j, rfl, rfl, f i j, rfl, ?_⟩)
  cases e : f i j
  · rw [e] at q; exact q
  · rw [e, Bool.true_and] at q; rw [if_pos rfl]; exact h3 _ ⟨j, k, rfl, rfl, q⟩
end
end UL

set_option Elab.async false
set_option linter.all false
set_option maxRecDepth 100000
set_option maxHeartbeats 2000000
/-! loops as words that a reading stops at -/
namespace UL
open PySem PySem.Spec PyProof.Rows L2
/-- what a for over J wants -/
def FJ (J : It) (g : TG) (tb : TS) (D : Ends) (σ : L2.St) (H : Hp) : Prop := ∃ W : Nat → Nat → L2.St → Hp → Prop, (∃ m, W 0 m σ H) ∧ ∀ i m σ H, W i m σ H →
  (J.stop i H ∧ D.nx σ H) ∨ (J.go i H ∧ ∃ N : L2.St → Hp → Prop, (∀ σ' H', N σ' H' → ∃ m', m' < m ∧ W (i + 1) m' σ' H') ∧ ∀ x H', J.yld i H x H' → g x σ H' fun σ2 H2 => tb { D with nx := N, ct := N, bk := D.nx } σ2 H2)
theorem tFor_eq {wi : TI} {g : TG} {tb : TS} {D : Ends} {σ : L2.St} {H : Hp} : tFor wi g tb D σ H = wi σ H fun J H1 => FJ J g tb D σ H1 := rfl
/-- what a comprehension over J wants of its list at D -/
def LJ (J : It) (g : TG) (tt : TT) (te : TE) (vs : List Nat) (σ : L2.St) (D : Addr) (Qd : Hp → Prop) (H1 : Hp) : Prop := ∃ W : Nat → Nat → Hp → Prop, (∃ m, W 0 m (upd H1 D (.lst []))) ∧ ∀ i m H, W i m H →
  (J.stop i H ∧ Qd H) ∨ (J.go i H ∧ ∃ Nx : Hp → Prop, (∀ H', Nx H' → ∃ m', m' < m ∧ W (i + 1) m' H') ∧ ∀ x H', J.yld i H x H' → g x (wipe σ vs) H' fun σ2 H2 => wipe σ2 vs = wipe σ vs ∧ tt σ2 H2 fun b H3 =>
    if b = true then te σ2 H3 fun y H4 => ∃ acc, H4 D = some (.lst acc) ∧ acc.length < sizeLine ∧ Nx (upd H4 D (.lst (acc ++ [y]))) else Nx H3)
theorem tLc_eq {wi : TI} {g : TG} {tt : TT} {te : TE} {vs : List Nat} {σ : L2.St} {H : Hp} {Q : VK} : tLc wi g tt te vs σ H Q = wi σ H fun J H1 => ∀ D, H1 D = none → LJ J g tt te vs σ D (fun H2 => Q (.ref D) H2) H1 := rfl
theorem iRng1_eq {ta : TA} {σ : L2.St} {H : Hp} {R : It → Hp → Prop} : iRng1 ta σ H R = ta σ H fun vs H1 => ∃ j : Int, vs = [.int j] ∧ -(2 ^ 62) ≤ j ∧ j < 2 ^ 62 ∧ R (Itr 0 j.toNat) H1 := rfl
section
variable {K : PySem.W.Frag} {J : It} {n : Nat} {G : Hp → Prop} {Y : Nat → Hp → V → Hp → Prop} {g : TG} {tb : TS} {D : Ends} {σ : L2.St} {H : Hp} {a b : Addr} {xs ys : List V} {lo : Int}
theorem FJ.range (Pv : Nat → L2.St → Hp → Prop) (h0 : Pv 0 σ H) (hs : ∀ i σ H, i < n → Pv i σ H → g (.int (lo + i)) σ H fun σ2 H2 => tb { D with nx := Pv (i + 1), ct := Pv (i + 1), bk := D.nx } σ2 H2) (hd : ∀ σ H, Pv n σ H → D.nx σ H) : FJ (Itr lo n) g tb D σ H := for_range Pv h0 hs hd
/-- range(j) -/
theorem FJ.rangeI {j : Int} (Pv : Nat → L2.St → Hp → Prop) (hj : 0 ≤ j) (h0 : Pv 0 σ H) (hs : ∀ (i : Nat) σ H, (i : Int) < j → Pv i σ H → g (.int i) σ H fun σ2 H2 => tb { D with nx := Pv (i + 1), ct := Pv (i + 1), bk := D.nx } σ2 H2) (hd : ∀ σ H, Pv j.toNat σ H → D.nx σ H) : FJ (Itr 0 j.toNat) g tb D σ H :=
  for_range Pv h0 (fun i σ H hi p => by have := hs i σ H (by omega) p; simpa using this) hd
theorem FJ.list (Pv : Nat → L2.St → Hp → Prop) (h0 : Pv 0 σ H) (hl : ∀ i σ H, i ≤ xs.length → Pv i σ H → SqL K H a xs)
    (hs : ∀ i x σ H, xs[i]? = some x → Pv i σ H → g x σ H fun σ2 H2 => tb { D with nx := Pv (i + 1), ct := Pv (i + 1), bk := D.nx } σ2 H2) (hd : ∀ σ H, Pv xs.length σ H → D.nx σ H) : FJ (Itl K a) g tb D σ H := for_list Pv h0 hl hs hd
theorem FJ.tup (Pv : Nat → L2.St → Hp → Prop) (h0 : Pv 0 σ H) (hl : ∀ i σ H, i ≤ xs.length → Pv i σ H → SqT K H a xs)
    (hs : ∀ i x σ H, xs[i]? = some x → Pv i σ H → g x σ H fun σ2 H2 => tb { D with nx := Pv (i + 1), ct := Pv (i + 1), bk := D.nx } σ2 H2) (hd : ∀ σ H, Pv xs.length σ H → D.nx σ H) : FJ (Itt K a) g tb D σ H := for_tup Pv h0 hl hs hd
theorem FJ.zip {k1 k2 : Kd} (hl : xs.length = ys.length) (Pv : Nat → L2.St → Hp → Prop) (h0 : Pv 0 σ H) (hq : ∀ i σ H, Pv i σ H → k1.Sq K H a xs ∧ k2.Sq K H b ys)
    (hs : ∀ (i : Nat) (x y : V) (T : Addr) (σ : L2.St) (H : Hp), xs[i]? = some x → ys[i]? = some y → Pv i σ H → H T = none → g (.ref T) σ (upd H T (.tup [x, y])) fun σ2 H2 => tb { D with nx := Pv (i + 1), ct := Pv (i + 1), bk := D.nx } σ2 H2) (hd : ∀ σ H, Pv xs.length σ H → D.nx σ H) :
    FJ (ItzK k1 k2 K a b) g tb D σ H := for_zipK hl Pv h0 hq hs hd
variable {tt : TT} {te : TE} {vs : List Nat} {D : Addr} {Qd : Hp → Prop} {H1 : Hp}
theorem LJ.it (w : Walk J n G Y) (Pv : Nat → Hp → Prop) (h0 : Pv 0 (upd H1 D (.lst []))) (hG : ∀ i H, i ≤ n → Pv i H → G H)
    (hs : ∀ i x H H', i < n → Pv i H → Y i H x H' → g x (wipe σ vs) H' fun σ2 H2 => wipe σ2 vs = wipe σ vs ∧ tt σ2 H2 fun b H3 =>
      if b = true then te σ2 H3 fun y H4 => ∃ acc, H4 D = some (.lst acc) ∧ acc.length < sizeLine ∧ Pv (i + 1) (upd H4 D (.lst (acc ++ [y]))) else Pv (i + 1) H3) (hd : ∀ H, Pv n H → Qd H) : LJ J g tt te vs σ D Qd H1 := lc_it w Pv h0 hG hs hd
end
/-- the inner loop of a comprehension with two fors -/
def NJ (J1 : It) (g1 : TG) (tt1 : TT) (te : TE) (vs1 : List Nat) (σ2 : L2.St) (D : Addr) (Nx : Hp → Prop) (H4 : Hp) : Prop := ∃ W1 : Nat → Nat → Hp → Prop, (∃ m, W1 0 m H4) ∧ ∀ j k H, W1 j k H →
      (J1.stop j H ∧ Nx H) ∨ (J1.go j H ∧ ∃ Nx1 : Hp → Prop, (∀ H', Nx1 H' → ∃ k', k' < k ∧ W1 (j + 1) k' H') ∧ ∀ x H', J1.yld j H x H' → g1 x (wipe σ2 vs1) H' fun σ3 H5 => wipe σ3 vs1 = wipe σ2 vs1 ∧ tt1 σ3 H5 fun b H6 =>
        if b = true then te σ3 H6 fun y H7 => ∃ acc, H7 D = some (.lst acc) ∧ acc.length < sizeLine ∧ Nx1 (upd H7 D (.lst (acc ++ [y]))) else Nx1 H6)
def LJ2 (J : It) (g : TG) (tt : TT) (wi1 : TI) (g1 : TG) (tt1 : TT) (te : TE) (vs vs1 : List Nat) (σ : L2.St) (D : Addr) (Qd : Hp → Prop) (H1 : Hp) : Prop := ∃ W : Nat → Nat → Hp → Prop, (∃ m, W 0 m (upd H1 D (.lst []))) ∧ ∀ i m H, W i m H →
  (J.stop i H ∧ Qd H) ∨ (J.go i H ∧ ∃ Nx : Hp → Prop, (∀ H', Nx H' → ∃ m', m' < m ∧ W (i + 1) m' H') ∧ ∀ x H', J.yld i H x H' → g x (wipe σ vs) H' fun σ2 H2 => wipe σ2 vs = wipe σ vs ∧ tt σ2 H2 fun b H3 =>
    if b = true then wi1 σ2 H3 fun J1 H4 => NJ J1 g1 tt1 te vs1 σ2 D Nx H4 else Nx H3)
theorem tLc2_eq {wi : TI} {g : TG} {tt : TT} {wi1 : TI} {g1 : TG} {tt1 : TT} {te : TE} {vs vs1 : List Nat} {σ : L2.St} {H : Hp} {Q : VK} :
    tLc2 wi g tt wi1 g1 tt1 te vs vs1 σ H Q = wi σ H fun J H1 => ∀ D, H1 D = none → LJ2 J g tt wi1 g1 tt1 te vs vs1 σ D (fun H2 => Q (.ref D) H2) H1 := rfl
section
variable {J : It} {n : Nat} {G : Hp → Prop} {Y : Nat → Hp → V → Hp → Prop} {g g1 : TG} {tt tt1 : TT} {te : TE} {wi1 : TI} {σ : L2.St} {vs vs1 : List Nat} {D : Addr} {Qd : Hp → Prop} {H1 : Hp}
theorem NJ.it (w : Walk J n G Y) (Pv : Nat → Hp → Prop) (h0 : Pv 0 H1) (hG : ∀ i H, i ≤ n → Pv i H → G H)
    (hs : ∀ i x H H', i < n → Pv i H → Y i H x H' → g x (wipe σ vs) H' fun σ2 H2 => wipe σ2 vs = wipe σ vs ∧ tt σ2 H2 fun b H3 =>
      if b = true then te σ2 H3 fun y H4 => ∃ acc, H4 D = some (.lst acc) ∧ acc.length < sizeLine ∧ Pv (i + 1) (upd H4 D (.lst (acc ++ [y]))) else Pv (i + 1) H3) (hd : ∀ H, Pv n H → Qd H) : NJ J g tt te vs σ D Qd H1 := by
  refine ⟨fun i m H => m = n - i ∧ i ≤ n ∧ Pv i H, ⟨n, by simp, Nat.zero_le _, h0⟩, ?_⟩
  rintro i m H ⟨rfl, hi, p⟩
  have q := hG i H hi p
  by_cases hlt : i < n
  · exact .inr ⟨w.goes i H hlt q, Pv (i + 1), fun H' p' => ⟨n - (i + 1), by omega, rfl, hlt, p'⟩, fun x H' y => hs i x H H' hlt p (w.yields i H x H' hlt q y)⟩
  · have e : i = n := by omega
    subst e
    exact .inl ⟨w.stops H q, hd H p⟩
theorem LJ2.it (w : Walk J n G Y) (Pv : Nat → Hp → Prop) (h0 : Pv 0 (upd H1 D (.lst []))) (hG : ∀ i H, i ≤ n → Pv i H → G H)
    (hs : ∀ i x H H', i < n → Pv i H → Y i H x H' → g x (wipe σ vs) H' fun σ2 H2 => wipe σ2 vs = wipe σ vs ∧ tt σ2 H2 fun b H3 =>
      if b = true then wi1 σ2 H3 fun J1 H4 => NJ J1 g1 tt1 te vs1 σ2 D (Pv (i + 1)) H4 else Pv (i + 1) H3) (hd : ∀ H, Pv n H → Qd H) : LJ2 J g tt wi1 g1 tt1 te vs vs1 σ D Qd H1 := by
  refine ⟨fun i m H => m = n - i ∧ i ≤ n ∧ Pv i H, ⟨n, by simp, Nat.zero_le _, h0⟩, ?_⟩
  rintro i m H ⟨rfl, hi, p⟩
  have q := hG i H hi p
  by_cases hlt : i < n
  · exact .inr ⟨w.goes i H hlt q, Pv (i + 1), fun H' p' => ⟨n - (i + 1), by omega, rfl, hlt, p'⟩, fun x H' y => hs i x H H' hlt p (w.yields i H x H' hlt q y)⟩
  · have e : i = n := by omega
    subst e
    exact .inl ⟨w.stops H q, hd H p⟩
end
end UL

set_option Elab.async false
set_option linter.all false
set_option maxRecDepth 100000
set_option maxHeartbeats 2000000
/-! a tuple that is known to have no dict: tuple(list), and its methods -/
namespace UL
open PySem PySem.Spec PyProof.Rows L2
section
variable {X : Cx}
def cTupF (K : PySem.W.Frag) : List V → Hp → VK → Prop := fun xs H Q => ∃ p ys, xs = [.ref p] ∧ SqL K H p ys ∧ ∀ l o, H l = none → o.dict = none → Q (.ref l) (upd H l (.frz o (.tup ys)))
theorem call_tupF : CallR X (.type "tuple") (cTupF X.K) := by
  intro pins s σ H xs us Q I r h
  obtain ⟨p, ys, rfl, hq, q⟩ := h
  obtain rfl := Vals.ref1 r
  obtain ⟨its, r', pl, hz⟩ := I.list hq
  have hlen := r'.length
  refine call_tuple_list pl.isList (fun h' kp => ?_) (by simp only [List.size_toArray] <;> omega)
  have I1 : Inv X pins σ H { s with heap := h' } := I.kept (t' := s.toks) kp
  exact ⟨.ref h'.objs.size, _, I1.laid (t' := s.toks) (fun b o e => Heap.get?_push_of_some _ e) (Nat.le_refl _) (show ObjOk X.prog X.w _ _ _ (.frz { cls := .type "tuple", data := .seq its.toArray } (.tup ys)) from ⟨Heap.get?_push_size _ rfl, hz, its, r', IsTup.new _ _⟩), rfl, q _ _ (I1.hok.fresh (Nat.le_refl _)) rfl⟩
/-- of a tuple without a dict -/
def tBMF (r : V → List V → Hp → VK → Prop) (to : TE) (t : TA) : TE := fun σ H Q => to σ H fun x H1 => (∃ p o ys, x = .ref p ∧ H1 p = some (.frz o (.tup ys)) ∧ o.dict = none) ∧ t σ H1 fun xs H2 => r x xs H2 Q
variable {o e : Expr} {es : List Expr} {to : TE} {t : TA} {name : Str} {apos cpos : Pos} {id : String} {r : V → List V → Hp → VK → Prop}
theorem pe_bmF (slot : Slot "tuple" name id) (hty : typeOf (.builtin id) = pure (.type "method_descriptor")) (hm : MtR X id r) (ho : PE X o to) (ha : PA X (e :: es) t)
    (hbase : attributeBase o name X.env (eval o X.env) = eval o X.env := by rfl)
    (hfew : ((backTo cpos (starEach (e :: es) X.env)).all (fun x => !x.1) && (backToKw cpos (keywordEach [] X.env)).all (fun x => x.1.isSome)
      && decide ((e :: es).length + ([] : List Keyword).length + (if ([] : List Keyword).isEmpty then 0 else 1) < 30)) = true := by rfl)
    (hline : (apos.endLine == cpos.line) = true := by rfl) (hs : starEach (e :: es) X.env = (false, eval e X.env) :: starEach es X.env := by rfl) (hplain : (backTo cpos (starEach es X.env)).any (·.1) = false := by rfl) :
    PE X (.Call (.Attribute o name apos) (e :: es) [] cpos) (tBMF r to t) := by
  refine ⟨fun pins s σ H Q I h => ?_⟩
  refine wpAny_Call_method_late hbase hfew hline rfl (thn (ho.run pins s σ H _ I h) fun v s1 ⟨x, H1, I1, r1, ⟨p, ob, ys, ex, hp, hd⟩, q1⟩ => ?_)
  subst ex
  cases r1
  obtain ⟨e1, hl, its, rv, ht⟩ := I1.hok p _ hp
  obtain ⟨o2, e2, hc2, _⟩ := ht
  refine ⟨"tuple", id, PySem.F.plainAttrs_tuple, slot, hty, ⟨o2, e2, hc2⟩, fun a ea => ?_, ?_⟩
  · cases ea; exact ⟨ob, e1, hd⟩
  have hA := ha.run cpos pins s1 σ H1 _ I1 q1
  rw [hs] at hA ⊢
  refine Calls.callWith_builtin (by show (false || (backTo cpos (starEach es X.env)).any (·.1)) = false; rw [hplain] <;> rfl) (Calls.evalArgs_plain ?_)
  exact thn hA fun us s2 ⟨vs, H2, I2, r2, q2⟩ => hm pins s2 σ H2 (.ref p) vs (.ref p) us Q I2 rfl r2 q2
end
end UL

set_option Elab.async false
set_option linter.all false
set_option maxRecDepth 100000
set_option maxHeartbeats 2000000
/-! bundles: own __getitem__, __iter__, a property, a generator method -/
namespace UL
open PySem PySem.Spec PyProof.Rows L2
structure Gn (P : Program) (w : World) (K : PySem.W.Frag) (mg : Str → Option Value) (base : Heap) (CX : CXT) (k : Nat) (C : Addr) (sp : Sp) : Prop where
  ex : ∃ (f : Addr) (fd : FuncData) (ps : List Str), FnOk P w K mg base CX k f fd ps sp ∧ GetO K C f ∧ Binds K fd ps []
structure Itn (P : Program) (w : World) (K : PySem.W.Frag) (mg : Str → Option Value) (base : Heap) (CX : CXT) (k : Nat) (C : Addr) (sp : Sp) : Prop where
  ex : ∃ (f : Addr) (fd : FuncData) (ps : List Str), FnOk P w K mg base CX k f fd ps sp ∧ IterO K C f ∧ Binds K fd ps []
structure Pn (P : Program) (w : World) (K : PySem.W.Frag) (mg : Str → Option Value) (base : Heap) (CX : CXT) (k : Nat) (C : Addr) (x : Str) (sp : Sp) : Prop where
  ex : ∃ (p g : Addr) (fd : FuncData) (ps : List Str), FnOk P w K mg base CX k g fd ps sp ∧ PropOf K C x p g ∧ Binds K fd ps []
structure GMn (P : Program) (w : World) (K : PySem.W.Frag) (mg : Str → Option Value) (base : Heap) (k : Nat) (C : Addr) (m : Str) (sp : SpG) : Prop where
  ex : ∃ (f : Addr) (fd : FuncData) (ps : List Str), GFn P w K mg base k f fd ps sp ∧ Meth K C m f ∧ Binds K fd ps []
section
variable {P : Program} {w : World} {K : PySem.W.Frag} {mg : Str → Option Value} {base : Heap} {CX : CXT} {C : Addr} {m qual : Str} {st : Stmt} {N ps : List Str} {k : Nat} {sp : Sp} {spg : SpG}
theorem Mn.gn (d : Mn P w K mg base CX k C "__getitem__" sp) (h : ∀ f, PySem.W.findIn K (.ref C) "__getitem__" = some (some (.ref f)) → PySem.W.fnIn K f = true) : Gn P w K mg base CX k C sp :=
  let ⟨f, fd, ps, F, M, B⟩ := d.ex
  ⟨f, fd, ps, F, ⟨M.at_, h f M.at_, M.fn⟩, B⟩
theorem MD.fnin (D : MD K C m qual st) : ∀ f, PySem.W.findIn K (.ref C) m = some (some (.ref f)) → PySem.W.fnIn K f = true := by
  intro f hf
  obtain ⟨f0, fd, F, M⟩ := D.ex
  obtain ⟨oc, od, kV, doc, pm, an, cdv, ct, osl, e, lk, hcd⟩ := F.ex
  have h2 := hf.symm.trans M.at_
  cases h2
  unfold PySem.W.fnIn
  rw [lk]
theorem Mn.itn (d : Mn P w K mg base CX k C "__iter__" sp) (h1 : PySem.W.findIn K (.ref C) "__len__" = some none) (h2 : PySem.W.findIn K (.ref C) "__length_hint__" = some none) : Itn P w K mg base CX k C sp :=
  let ⟨f, fd, ps, F, M, B⟩ := d.ex
  ⟨f, fd, ps, F, ⟨M.at_, M.fn, h1, h2⟩, B⟩
abbrev BodyG (P : Program) (w : World) (K : PySem.W.Frag) (mg : Str → Option Value) (base : Heap) (qual : Str) (st : Stmt) (N : List Str) (k : Nat) (sp : SpG) : Prop :=
  ∀ (f : Addr) (cdv : Value) (A : Around) (outer : List Env) (s : Shared) (H : Hp) (vs : List V) (Q : List V → Hp → Prop) (E : XK) (pn : List (Addr × Obj)), Room k (A.deeper (envOfC qual (defScope st) s.heap.objs.size f cdv)) → sp vs H Q E →
      ∃ t, GSs (gcxOf P w K mg base N qual (defScope st) f cdv A outer s H E pn) (defBody st) t ∧ t { nx := fun ys _ H' => Q ys H', rt := fun ys v H' => v = .non ∧ Q ys H' } [] (L2.start N vs) H
theorem MD.gm (D : MD K C m qual st) (S : GScope N ps (defScope st)) (b : BindOk m qual st ps) (len : ∀ vs H Q E, spg vs H Q E → vs.length = ps.length) (body : BodyG P w K mg base qual st N k spg) : GMn P w K mg base (k + 1) C m spg := by
  obtain ⟨f, fd, F, M⟩ := D.ex
  have hb := F.binds b
  obtain ⟨oc, od, kV, doc, pm, an, cdv, ct, osl, e, lk, hcd⟩ := F.ex
  subst e
  exact ⟨f, _, ps, gfn_of lk hcd S len fun A outer s H vs Q E pn hr h => body f cdv A outer s H vs Q E pn hr h, M, hb⟩
end
section
variable {X : Cx} {CX : CXT} {k j : Nat} {C : Addr} {sp : Sp} {spg : SpG} {E : XK} {x m : Str} {p pos apos : Pos} {e o : Expr} {es : List Expr} {ta tb : TE} {t : TA}
theorem pe_sub_ {ea eb : Expr} (d : Gn X.prog X.w X.K X.mg X.base CX k C sp) (hr : Room j X.A) (hk : k + 1 ≤ j) (hx : Passes CX X E) (ha : PE X ea ta) (hb : PE X eb tb)
    (hs : ∀ o i, subscripted eb true o i = runValue (.builtin "lifetime.subscript" ⟨[o, i], []⟩)) : PE X (.Subscript ea eb pos) (tSubO C sp E ta tb) := by
  obtain ⟨f, fd, ps, F, c, B⟩ := d.ex
  exact pe_subO ha hb c F (hr.mono hk) B hx hs
theorem call_listOn (d : Itn X.prog X.w X.K X.mg X.base CX k C sp) (hr : Room j X.A) (hk : k + 2 ≤ j) (hx : Passes CX X E) : CallR X (.type "list") (rListO X.K C sp E) := by
  obtain ⟨f, fd, ps, F, c, B⟩ := d.ex
  exact call_listO c F B hx (hr.mono hk)
theorem pe_p {f : Str} (d : Pn X.prog X.w X.K X.mg X.base CX k C f sp) (c : Cls X.K C) (hr : Room j X.A) (hk : k + 1 ≤ j) (hx : Passes CX X.nox E) (he : PE X e ta) (hab : attributeBase e f X.env (eval e X.env) = eval e X.env) : PE X (.Attribute e f pos) (tProp C sp [] E ta) := by
  obtain ⟨p, g, fd, ps, F, hp, B⟩ := d.ex
  exact pe_prop he c hp F (hr.mono hk) B .nil hx hab
theorem pgen_m {E : XK} {pl : Sem Bool} (d : GMn X.prog X.w X.K X.mg X.base k C m spg) (c : Cls X.K C) (hr : Room j X.A) (hk : k ≤ j) (he : PE X o ta)
    (ht : eval (.Call (.Attribute o m apos) [] [] pos) X.env = (do
      let ov ← eval o X.env
      standAt apos.atName
      let (f, first) ← holding [ov] (getMethod ov m pl)
      callWith pos f first (backTo pos (starEach [] X.env)) (backToKw pos (keywordEach [] X.env))) := by rfl) : PGen X k (.Call (.Attribute o m apos) [] [] pos) (tMethG C m spg [] E ta tNil) E := by
  obtain ⟨f, fd, ps, F, M, B⟩ := d.ex
  exact pgen_meth0 he c M F (hr.mono hk) B .nil ht
theorem gcxK {P : Program} {w : World} {K : PySem.W.Frag} {mg : Str → Option Value} {base : Heap} {N : List Str} {qual : Str} {scope : Scope} {f : Addr} {cd : Value} {A : Around} {outer : List Env} {s : Shared} {H : Hp} {E : XK} {pn : List (Addr × Obj)} : (gcxOf P w K mg base N qual scope f cd A outer s H E pn).K = K := rfl
theorem noStop0 {K : PySem.W.Frag} : NoStop K E0 := fun _ _ _ h => h.elim
end
end UL

set_option Elab.async false
set_option linter.all false
set_option maxRecDepth 100000
set_option maxHeartbeats 4000000
/-! super().__init__(x) of an own class over ValueError: the wrapper bound to the instance, at the library's level -/
namespace UV
open PySem PySem.W PySem.Calls PyProof.Rows
abbrev wr : Value := .builtin "ValueError.__init__"
abbrev bv (a : Addr) : Obj := { cls := .type "method-wrapper", dict := none, data := .fields #[wr, .ref a], slots := #[] }
abbrev su (D a C : Addr) : Obj := { cls := .type "super", dict := none, data := .fields #[.ref D, .ref a, .ref C], slots := #[] }
theorem ty_wr : typeOf wr = pure (.type "wrapper_descriptor") := by show builtinType _ = _; rw [builtinType_eq_fast]; kernel_rfl
theorem nm_wr : (kfb_private% "nameAndClass") wr = (pure (("__init__" : Str), Value.type "ValueError") : Sem (Str × Value)) := by kernel_rfl
section
variable {P : Program} {w : World} {M : Model} {A : Around} {E : Value → Shared → Prop} {h : Heap} {g : Array GenState} {d : Drawn} {t : Nat} {os : OsState}
theorem get_wr {a C : Addr} {R : Fin → Shared → Prop} (is : W.Looks M h (isInstance (.ref a) (.type "ValueError")) true) (q : R (.done (.ret (.ref h.objs.size))) ⟨h.push (bv a), g, d, t, os⟩) : wpAny M A (Builtin.«wrapper_descriptor.__get__» ⟨[wr, .ref a, .ref C], []⟩) R E ⟨h, g, d, t, os⟩ := by
  unfold Builtin.«wrapper_descriptor.__get__»
  refine wpAny_bind (wpAny_of_eq (a := (wr, some (.ref a), some (.ref C))) (by first | rfl | kernel_rfl) ?_); show wpAny M A ((kfb_private% "checkInstance") wr (.ref a) >>= fun _ => newFields "method-wrapper" [wr, .ref a] >>= fun r => ret r) R E _
  refine wpAny_bind ?_; show wpAny M A ((kfb_private% "nameAndClass") wr >>= _) _ E _
  refine wpAny_bind (wpAny_of_eq nm_wr ?_); show wpAny M A (isInstance (.ref a) (.type "ValueError") >>= _) _ E _
  exact wpAny_bind (is.at (KFB.if_not rfl (wpAny_pure (wpAny_bind (wpAny_newObj_type (wpAny_pure q))))))
theorem sup_get {so D a C : Addr} {m0 m1 : List Value} {K : Frag} {tk : Tok} {R : Fin → Shared → Prop} (e : h.get? so = some (su D a C)) (no : W.Looks (model P w) h (opaqueClassAbove (.ref C)) none) (mr : W.Looks (model P w) h (mroOf (.ref C)) m0) (cut : (m0.dropWhile (· != .ref D)).drop 1 = m1)
    (X : K.In h) (al : alongIn K "__init__" m1 = some (some wr)) (ne : a ≠ C) (is : W.Looks (model P w) h (isInstance (.ref a) (.type "ValueError")) true) (q : R (.done (.ret (.ref h.objs.size))) ⟨h.push (bv a), g, d, t, os⟩) :
    wpAny (model P w) A (Builtin.«super.__getattribute__» ⟨[.ref so, .str "__init__" tk], []⟩) R E ⟨h, g, d, t, os⟩ := by
  have l1 := ESX.slot_wd.lookup
  have nq : (Value.ref a == Value.ref C) = false := by simp [ne]
  have t1 := ty_wr
  have t2 : Shared.TypeIs ⟨h, g, d, t, os⟩ wr "wrapper_descriptor" := ty_wr
  have dt : (su D a C).data = .fields #[.ref D, .ref a, .ref C] := rfl
  have k0 : (#[.ref D, .ref a, .ref C] : Array Value)[0]? = some (.ref D) := rfl
  have k1 : (#[.ref D, .ref a, .ref C] : Array Value)[1]? = some (.ref a) := rfl
  have k2 : (#[.ref D, .ref a, .ref C] : Array Value)[2]? = some (.ref C) := rfl
  have hn : (("__init__" : Str) == ("__class__" : Str)) = false := by decide
  unfold Builtin.«super.__getattribute__»
  repeat (first | (with_reducible refine wpAny_field e dt k0 ?_) | (with_reducible refine wpAny_field e dt k1 ?_) | (with_reducible refine wpAny_field e dt k2 ?_) | (with_reducible refine ks_wpAny_notOpaque no ?_) | (with_reducible refine Looks.at mr ?_; rw [cut]) | (refine ks_forIn_along X (fun _ _ => rfl) rfl ?_ al) | (with_reducible refine wpAny_call_entry ESX.slot_wd t2 ESX.entry_wd ?_ (ESX.args_wd _ _ _)) | (with_reducible refine get_wr is ?_) | (with_reducible refine ⟨_, rfl, ?_⟩) | (simp only [hn, nq, Bool.or_false, Bool.false_eq_true, if_false]) | wp_step | dsimp only)
  all_goals exact q
theorem sup_meth {so D a C : Addr} {m0 m1 : List Value} {K : Frag} {pl : Sem Bool} {R : Value × List Value → Shared → Prop} (e : h.get? so = some (su D a C)) (no : W.Looks (model P w) h (opaqueClassAbove (.ref C)) none) (mr : W.Looks (model P w) h (mroOf (.ref C)) m0) (cut : (m0.dropWhile (· != .ref D)).drop 1 = m1)
    (X : K.In h) (al : alongIn K "__init__" m1 = some (some wr)) (ne : a ≠ C) (is : W.Looks (model P w) h (isInstance (.ref a) (.type "ValueError")) true) (q : R (.ref h.objs.size, []) ⟨h.push (bv a), g, d, t + 1, os⟩) : wpAny (model P w) A (getMethod (.ref so) "__init__" pl) R E ⟨h, g, d, t, os⟩ := by
  have l1 := F.ks_slot_super_ga.lookup
  have ty : ∀ t', (⟨h, g, d, t', os⟩ : Shared).TypeIs (.ref so) "super" := fun _ => ⟨_, e, rfl⟩
  unfold getMethod
  refine wpAny_bind (wpAny_specialOf (ty _) l1 ?_); show wpAny _ _ (if (Manifest.canonical "super.__getattribute__" != "object.__getattribute__") = true then _ else _) _ _ _
  rw [if_pos F.ks_canon_super_ga]; unfold getAttr getAttrBy
  refine wpAny_bind (wpAny_bind (wpAny_mkText (wpAny_holding (wpAny_bind (wpAny_typeOf (ty _) (wpAny_bind (wpAny_of_eq l1 ?_))))))); show wpAny _ _ (getAttrByItsOwn (.ref so) (.str "__init__" t) (.type "super") (.builtin "super.__getattribute__") true false) _ _ _
  unfold getAttrByItsOwn hookBefore callGetattribute boundAndCalled
  refine wpAny_bind (wpAny_of_eq (show (if onTheHeap (.type "super") then typeLookup (.type "super") "__getattr__" else pure none) = pure none from rfl) (wpAny_bind (wpAny_attempt (wpAny_holding ?_)))); show wpAny _ _ (bindSpecial (.builtin "super.__getattribute__") (.ref so) >>= _) _ _ _
  refine wpAny_bind (wpAny_of_eq (F.ks_slot_super_ga.bind _) (wpAny_mono (Q := fun v s' => v = .ref h.objs.size ∧ s' = ⟨h.push (bv a), g, d, t + 1, os⟩) (E := fun _ _ => False) (wpAny_call_entry F.ks_slot_super_ga (ty _) F.ks_entry_super_ga (sup_get e no mr cut X al ne is ⟨_, rfl, rfl, rfl⟩) (F.ks_gaArgs_super _ _)) (fun v s' hv => ?_) fun _ _ z => z.elim))
  obtain ⟨rfl, rfl⟩ := hv; exact wpAny_pure (wpAny_pure q)
end
section
variable {P : Program} {w : World} {M : Model} {A : Around} {E : Value → Shared → Prop} {s : Shared}
theorem cw0 {pos : Pos} {u a : Addr} {args : List (Bool × Sem Value)} {Q : Value → Shared → Prop} (pl : args.any (·.1) = false)
    (q : wpAny M A (evalArgs (.ref u) true args []) (fun r s₁ => s₁.heap.get? u = some (bv a) ∧ wpAny M A (call (.ref u) ([] ++ r.pos) r.kw) Q E s₁) E s) : wpAny M A (callWith pos (.ref u) [] args []) Q E s := by
  unfold callWith
  refine wpAny_bind (wpAny_holding (wpAny_mono q (fun r s₁ z => wpAny_bind (wpAny_standAt ?_)) fun _ _ x => x)); obtain ⟨o, z⟩ := z
  simp only [pl, List.any_nil, Bool.or_false]
  refine wpAny_bind (m := keeperOf (.ref u)) ?_; unfold keeperOf
  refine wpAny_bind (wpAny_load o ?_); simp only [bv, show (Value.type "method-wrapper" != Value.type "method") = true by decide, show (Value.type "method-wrapper" == Value.type "builtin_function_or_method" || Value.type "method-wrapper" == Value.type "method-wrapper") = true by decide, if_true]
  exact wpAny_pure (wpAny_bind (wpAny_mono z (fun r s₂ hr => wpAny_bind (wpAny_holding (wpAny_point (wpAny_pure hr)))) fun _ _ x => x))
theorem cw_bv {pos : Pos} {u a : Addr} {env : Env} {e : Expr} {es : List Expr} {Q : Value → Shared → Prop} (q : wpAny M A (spliced (backTo pos (starEach (e :: es) env))) (fun vs s₁ => s₁.heap.get? u = some (bv a) ∧ wpAny M A (call (.ref u) vs) Q E s₁) E s)
    (he : starEach (e :: es) env = (false, eval e env) :: starEach es env := by rfl) (pl : (backTo pos (starEach es env)).any (·.1) = false := by rfl) : wpAny M A (callWith pos (.ref u) [] (backTo pos (starEach (e :: es) env)) []) Q E s := by
  rw [he] at q ⊢
  exact cw0 (a := a) (by show (false || (backTo pos (starEach es env)).any (·.1)) = false; rw [pl]; rfl) (evalArgs_plain q)
end
section
variable {P : Program} {w : World} {A : Around} {E : Value → Shared → Prop} {h : Heap} {g : Array GenState} {d : Drawn} {t : Nat} {os : OsState} {nm q : Str} {C N : Addr} {bs bm : List Value} {hdct : Bool} {sn : List Str} {sub : List Value} {ab : Bool} {col : Option Bool} {dd : Option Addr} {k0 k1 k2 k3 k5 : Option Value}
theorem chk_bv (hm : HandSPX.refsVE bm = true) {e : Addr} {oe : Obj} {us : List Value} {Q : Unit → Shared → Prop} (hC : h.get? C = some (excClassObj nm q C N bs bm hdct sn sub ab col dd k0 k1 k2 k3 k5 "ValueError.__new__")) (he : h.get? e = some oe) (hc : oe.cls = .ref C) (z : Q () ⟨h, g, d, t, os⟩) :
    wpAny (model P w) A (checkBoundCall "ValueError.__init__" ⟨.ref e :: us, []⟩) Q E ⟨h, g, d, t, os⟩ := by
  have F := PySem.F.excBase_ValueError
  have f1 := F.noStar
  simp only [checkBoundCall, F.initKind, F.initRow]
  repeat (first | (with_reducible refine wpAny_loadPart_at he ?_; rw [hc]) | with_reducible refine wpAny_loadPart_at hC ?_ | wp_step)
  refine wpAny_onRaise ?_; rw [show ∀ (x y : String) (i : Nat), Bind.check ⟨.positional, "*", "ValueError", .self, [⟨"args", .varPos, false⟩]⟩ x y i (List.map (fun z => z.fst) ({ pos := Value.ref e :: us } : Args).kw) = pure () from fun x y i => check_star_args _ _ _ _ _ _]
  exact wpAny_pure z
theorem call_bv (hm : HandSPX.refsVE bm = true) {u e t0 : Addr} {us : List Value} {Q : Value → Shared → Prop} (hC : h.get? C = some (excClassObj nm q C N bs bm hdct sn sub ab col dd k0 k1 k2 k3 k5 "ValueError.__new__")) (he : h.get? e = some (HandSPX.excO C t0)) (hu : h.get? u = some (bv e)) (hl : us.length ≤ sizeLine)
    (z : ∀ h' t1, (∀ b o, b ≠ e → h.get? b = some o → h'.get? b = some o) → h'.get? e = some (HandSPX.excO C t1) → Q .none ⟨h', g, d, t, os⟩) : wpAny (model P w) A (call (.ref u) us) Q E ⟨h, g, d, t, os⟩ := by
  refine wpAny_call (codeAny_of_tree ?_); show wpAny _ A.in1 (callAny (.ref u) ⟨us, []⟩) _ _ _
  simp only [callAny]; refine wpAny_bind (wpAny_load hu ?_)
  simp only [bv, show (Value.type "method-wrapper" == Value.type "method" || Value.type "method-wrapper" == Value.type "builtin_function_or_method" || Value.type "method-wrapper" == Value.type "method-wrapper") = true by decide, if_true]
  refine W.KFB.if_so (by decide) (wpAny_bind (chk_bv hm hC he rfl (wpAny_bind (wpAny_pure (wpAny_pure ⟨Code.quiet_builtin _ (by decide +kernel), codeAny_builtin F.excBase_ValueError.initEntry ?_⟩)))))
  rw [Around.under_plainId F.excBase_ValueError.init.plain _]
  wp_walk
  refine z _ h.objs.size (fun b o nb ob => (Heap.get?_update_other _ _ (Ne.symm nb)).trans (Heap.get?_push_of_some _ ob)) ?_
  rw [Heap.get?_update_self _ (Heap.get?_push_of_some _ he) rfl] <;> rfl
end
end UV

set_option Elab.async false
set_option linter.all false
set_option maxRecDepth 100000
set_option maxHeartbeats 4000000
/-! super().__init__(x) as the first statement of an exception's __init__, over the layer -/
namespace UV
open PySem PySem.W PySem.Calls PyProof.Rows L2
structure SupF (P : Program) (K : PySem.W.Frag) (mg : Str → Option Value) (C f c cc : Addr) (fd : FuncData) : Prop where
  fn : ∃ oc od osl, K.lookup f = some ⟨oc, od, .func fd, osl⟩
  par : ∃ ar, (fd.params.posonlyargs ++ fd.params.args).head? = some ar ∧ ar.arg = "self"
  code : ∃ ccl cdd vs ccs file tf, K.lookup c = some ⟨ccl, cdd, .fields vs, ccs⟩ ∧ vs[2]? = some (.str file tf) ∧ ((P.main.file : Str) == file) = true
  top : (P.main.scope.names.lookup ("super" : Str)).isSome = false
  cell : ∃ cl cld csl, K.lookup cc = some ⟨cl, cld, .cell (some (.ref C)), csl⟩
  nos : mg "super" = none
  sub : PySem.W.mroIn K C (.ref C) = some true
  op : PySem.W.nsIn K cStatics "thirdparty.any" = some none
  al : PySem.W.ks_superIn K C C "__init__" = some (some wr)
section
variable {X : Cx} {pins : List (Addr × Obj)} {σ : L2.St} {H : Hp} {s : Shared}
theorem pin1 {u : Addr} {o : Obj} (I : Inv X pins σ H s) (e : s.heap.get? u = some o) (n : H u = none) (l : u ≠ X.env.locals) (f : u ∉ X.fs) (d : ∀ v, o.data ≠ .cell v) : Inv X ((u, o) :: pins) σ H s :=
  ⟨I.ok, I.os, I.bare, I.base, I.loc, I.cell, I.free, I.freeC, fun p hp => (List.mem_append.mp hp).elim (fun z => I.pin p (List.mem_append_left _ z)) fun z => (List.mem_cons.mp z).elim (fun w => w ▸ ⟨e, n, l, f, d⟩) fun w => I.pin p (List.mem_append_right _ w), I.hok, I.len⟩
theorem unpin1 {q : Addr × Obj} (I : Inv X (q :: pins) σ H s) : Inv X pins σ H s :=
  ⟨I.ok, I.os, I.bare, I.base, I.loc, I.cell, I.free, I.freeC, fun p hp => (List.mem_append.mp hp).elim (fun z => I.pin p (List.mem_append_left _ z)) fun z => I.pin p (List.mem_append_right _ (List.mem_cons_of_mem _ z)), I.hok, I.len⟩
theorem sup_stmt {C f c cc a : Addr} {fd : FuncData} {body : List Stmt} {e : Expr} {ta : TA} {p0 p1 p2 p3 p4 : Pos} {R : List V → Hp → Prop} {Q : Flow → Shared → Prop} (T : OexC X.K C) (F : SupF X.prog X.K X.mg C f c cc fd)
    (hfu : X.env.func = some f) (hco : X.env.code = .ref c) (hce : X.env.cells.lookup ("__class__" : Str) = some cc) (hks : X.env.kindOf "super" = some .globalImplicit) (hkc : X.env.kindOf "__class__" = some .free) (hka : X.env.kindOf "self" = some .local)
    (hN : X.N[0]? = some ("self" : Str)) (I : Inv X pins σ H s) (h0 : σ[0]? = some (some (.ref a))) (ha : H a = some (exo a C none)) (he : PA X [e] ta) (h : ta σ H fun vs H1 => vs.length ≤ 1000 ∧ H1 a = some (exo a C none) ∧ R vs H1)
    (q : ∀ s' y H1, Inv X pins σ H1 s' → R y H1 → Q .next s') (hi : interactive X.env = false := by rfl) (hs : swapsWith (.Call (.Attribute (.Call (.Name "super" p0) [] [] p1) "__init__" p2) [e] [] p3) none p4.line X.env = pure false := by rfl)
    (hst : starEach [e] X.env = (false, eval e X.env) :: starEach [] X.env := by rfl)
    {pl : Sem Bool} (hev : eval (.Call (.Attribute (.Call (.Name "super" p0) [] [] p1) "__init__" p2) [e] [] p3) X.env = (do
      let ov ← attributeBase (.Call (.Name "super" p0) [] [] p1) "__init__" X.env (eval (.Call (.Name "super" p0) [] [] p1) X.env)
      standAt p2.atName
      let (f, first) ← holding [ov] (getMethod ov "__init__" pl)
      callWith p3 f first (backTo p3 (starEach [e] X.env)) []) := by rfl) :
    _root_.PySem.wpAt (model X.prog X.w) X.A (.func body X.env) (exec (.Expr (.Call (.Attribute (.Call (.Name "super" p0) [] [] p1) "__init__" p2) [e] [] p3) p4) X.env) Q X.xe s := by
  obtain ⟨nm, qn, N, bs, bm, sn, sub, ab, col, dd, k0, k1, k2, k3, k5, hC, hbm⟩ := T.cls
  obtain ⟨oc, od, osl, lf⟩ := F.fn
  obtain ⟨ar, hp, har⟩ := F.par
  obtain ⟨ccl, cdd, vs, ccs, file, tf, lc, hvs, hfile⟩ := F.code
  obtain ⟨cl, cld, csl, lcc⟩ := F.cell
  obtain ⟨mb, hb1, hb2⟩ := I.mod.blt
  refine ks_wpAt_Expr_any (ks_wpAt_MethodCall (pl := pl) (ks_wpAt_super_base hks hkc (by decide) hfu (I.kIn _ _ lf) rfl hp hco (I.kIn _ _ lc) rfl hvs hfile F.top ?_) hev) hi hs
  refine ks_loadName_global I.ok.kind hks (loadGlobal_builtin (by rw [I.ok.glob]; exact I.mod.glob.keeps I.bk) F.nos (by rw [I.ok.blt]; exact hb1.keeps I.bk) ((hb2 _ (by decide)).trans (by decide +kernel)) ⟨rfl, ?_⟩)
  refine wpAny_loadName_free I.ok.kind hkc hce ⟨_, I.kIn _ _ lcc, rfl⟩ ?_
  obtain ⟨ml, hns, hlk⟩ := I.loc
  obtain ⟨u0, ru, lk⟩ := hlk 0 "self" (.ref a) hN h0 (.inl hka)
  obtain rfl : u0 = Value.ref a := ru
  have hv : ml "self" = some (.ref a) := lk.elim (fun z => z.2) fun z => by
    rcases z.1 with y | y <;> · rw [hka] at y; cases y
  rw [har]
  refine wpAny_loadName_local I.ok.kind hka hns hv ?_
  obtain ⟨t1, ho⟩ := exo_at I.hok ha
  have hcl : PySem.W.clsIn X.K C = some { name := nm, bases := bs, mro := .ref C :: bm, ns := N, qualname := qn, hasDict := true, slotNames := sn, subclasses := sub, abstract := ab, collection := col, hasDel := false } := by unfold PySem.W.clsIn; rw [hC] <;> rfl
  have kin := I.kIn
  have hfr := I.hok
  obtain ⟨hp0, g, dr, tk, os⟩ := s
  refine ks_wpAny_isType_cls (kin _ _ hC) rfl ⟨rfl, ks_wpAny_call_super (kin _ _ hC) rfl ho rfl (fun c z => by cases z) (looks_mroIn kin F.sub) fun h1 e1 kp1 => ?_⟩
  have I1 : L2.Inv X pins σ H ⟨h1, g, dr, tk, os⟩ := I.kept (t' := tk) kp1
  have hal : alongIn X.K "__init__" bm = some (some wr) := by
    have z := F.al
    unfold ks_superIn at z
    rw [hcl, Option.bind_some, ESX.drop_own] at z
    exact z
  have J1 : InstAt h1 a (HandSPX.excO C t1) C none := ⟨kp1 _ _ ho, rfl, rfl, trivial⟩
  have hbm2 : HandSPX.refsVE (.ref C :: bm) = true := hbm
  have hve : PySem.W.mroIn X.K C (.type "ValueError") = some true := by
    unfold PySem.W.mroIn
    rw [hcl, Option.bind_some, if_neg (by rw [HandSPX.refsVE_ne hbm2]; decide), HandSPX.refsVE_contains "ValueError" _ hbm2]
    decide +kernel
  have kin1 := I1.kIn
  refine sup_meth e1 (looks_opaque kin1 F.op) ((looks_clsIn kin1 hcl).andThen .now) (ESX.drop_own C bm) kin1 hal (ks_ne kin1 J1 hcl) (J1.type.andThen (looks_mroIn kin1 hve)) ?_
  have eb : (h1.push (bv a)).get? h1.objs.size = some (bv a) := Heap.get?_push_size _ rfl
  have I2 : L2.Inv X pins σ H ⟨h1.push (bv a), g, dr, tk + 1, os⟩ := I1.kept (t' := tk + 1) fun b o z => Heap.get?_push_of_some _ z
  have I3 := pin1 I2 eb (I1.hok.fresh (Nat.le_refl _)) (Nat.ne_of_gt I1.lt) (I1.nofs (Nat.le_refl _)) (fun v z => nomatch z)
  refine cw_bv (a := a) (thn (he.run p3 _ _ σ H _ I3 h) fun us s2 hz => ?_) hst rfl
  obtain ⟨vs2, H1, I4, r4, hl4, ha4, hr4⟩ := hz
  have hu4 := (I4.pin _ (List.mem_append_right _ List.mem_cons_self)).1
  have kin4 := I4.kIn
  obtain ⟨t4, ho4⟩ := exo_at I4.hok ha4
  obtain ⟨hp4, g4, d4, tk4, os4⟩ := s2
  refine ⟨hu4, call_bv hbm (kin4 _ _ hC) ho4 hu4 (by rw [← r4.length, sizeLine_eq]; omega) fun h5 t5 kp5 ho5 => ?_⟩
  have I5 := I4.write (t' := tk4) (x := a) (e := a) (o := exo a C none) (by rw [ha4]; exact True.intro) (.inl rfl) kp5 ⟨_, ho5⟩ (exo_ok ho5)
  rw [UL.upd_self ha4] at I5
  exact q _ vs2 H1 (unpin1 I5) hr4
end
end UV

set_option Elab.async false
set_option linter.all false
set_option maxRecDepth 100000
set_option maxHeartbeats 4000000
/-! an exception's __init__ that begins with super().__init__(x): its promise by its body -/
namespace UV
open PySem PySem.W PySem.Calls PyProof.Rows L2 NdefX
abbrev supSt (e : Expr) (p0 p1 p2 p3 p4 : Pos) : Stmt := .Expr (.Call (.Attribute (.Call (.Name "super" p0) [] [] p1) "__init__" p2) [e] [] p3) p4
section
variable {CX : CXT} {P : Program} {w : World} {K : PySem.W.Frag} {mg : Str → Option Value} {base : Heap} {k : Nat} {f c cc C : Addr} {name qual : Str} {params : Arguments} {e : Expr} {p0 p1 p2 p3 p4 : Pos} {rest : List Stmt} {scope : Scope}
  {kV doc pm ct oc : Value} {an od : Option Addr} {osl : Array (Option Value)} {N ps : List Str} {sp : Sp}
abbrev supNF (name qual : Str) (params : Arguments) (e : Expr) (p0 p1 p2 p3 p4 : Pos) (rest : List Stmt) (scope : Scope) (cc c : Addr) : NF := ⟨name, qual, params, supSt e p0 p1 p2 p3 p4 :: rest, scope, [("__class__", cc)], c⟩
theorem fn_sup (lk : K.lookup f = some ⟨oc, od, .func (fnX name qual params (supSt e p0 p1 p2 p3 p4 :: rest) scope [("__class__", cc)] .none kV doc pm an (.ref c) ct), osl⟩) (hcd : codeIn K (.ref c) qual = true) (S : NScope N ("self" :: ps) ["__class__"] scope) (T : OexC K C)
    (F : SupF P K mg C f c cc (fnX name qual params (supSt e p0 p1 p2 p3 p4 :: rest) scope [("__class__", cc)] .none kV doc pm an (.ref c) ct)) (hks : scope.names.lookup ("super" : Str) = some .globalImplicit) (len : ∀ vs H Q E, sp vs H Q E → vs.length = ("self" :: ps : List Str).length)
    (hbody : ∀ (A : Around) (outer : List Env) (s : Shared) (H : Hp) (vs : List V) (Q : VK) (E : XK), Room k (A.deeper (envF (supNF name qual params e p0 p1 p2 p3 p4 rest scope cc c) f s.heap.objs.size)) → sp vs H Q E →
      ∃ (a : Addr) (ta : TA) (t : TS), vs.head? = some (.ref a) ∧ H a = some (exo a C none) ∧ PA (ncx CX P w K mg base N (supNF name qual params e p0 p1 p2 p3 p4 rest scope cc c) f A outer s H E) [e] ta ∧
        PSs (ncx CX P w K mg base N (supNF name qual params e p0 p1 p2 p3 p4 rest scope cc c) f A outer s H E) rest t ∧
        ta (startF N vs [some (.ref C)]) H fun us H1 => us.length ≤ 1000 ∧ H1 a = some (exo a C none) ∧ t { nx := fun _ H' => Q .non H', rt := Q } (startF N vs [some (.ref C)]) H1)
    (hi : ∀ L, interactive (envF (supNF name qual params e p0 p1 p2 p3 p4 rest scope cc c) f L) = false := by intro _; rfl) (hs : ∀ env, swapsWith (.Call (.Attribute (.Call (.Name "super" p0) [] [] p1) "__init__" p2) [e] [] p3) none p4.line env = pure false := by intro _; rfl)
    (hst : ∀ env, starEach [e] env = (false, eval e env) :: starEach [] env := by intro _; rfl) {pl : Sem Bool} (hev : ∀ env, eval (.Call (.Attribute (.Call (.Name "super" p0) [] [] p1) "__init__" p2) [e] [] p3) env = (do
      let ov ← attributeBase (.Call (.Name "super" p0) [] [] p1) "__init__" env (eval (.Call (.Name "super" p0) [] [] p1) env)
      standAt p2.atName
      let (f, first) ← holding [ov] (getMethod ov "__init__" pl)
      callWith p3 f first (backTo p3 (starEach [e] env)) []) := by intro _; rfl) :
    FnOk P w K mg base CX (k + 1) f (fnX name qual params (supSt e p0 p1 p2 p3 p4 :: rest) scope [("__class__", cc)] .none kV doc pm an (.ref c) ct) ("self" :: ps) sp := by
  refine ⟨len, fun A outer s H args us vs Q E hr e0 hb r hsp => ?_⟩
  have hl := len _ _ _ _ hsp
  have KX : K.In s.heap := e0.mod.kin.keeps fun b o z => (e0.bs b o z).1
  have lim : s.heap.NoLimit := e0.mod.nolimit.keeps fun b o z => (e0.bs b o z).1
  obtain ⟨cl, cld, csl, lcc⟩ := F.cell
  have hcc := e0.bs _ _ (e0.mod.kin _ _ lcc)
  have CA : CellsAt [(("__class__" : Str), cc)] ["__class__"] [some (V.ref C)] s.heap H := by
    have one : ∀ y c', List.lookup y [(("__class__" : Str), cc)] = some c' → c' = cc ∧ y = "__class__" := fun y c' z => by
      by_cases hy : y = "__class__"
      · subst hy; simp at z; exact ⟨z.symm, rfl⟩
      · have : (y == ("__class__" : Str)) = false := by simpa using hy
        simp [List.lookup, this] at z
    refine ⟨rfl, fun y c' z => ?_, fun x y c' zx zy => ?_, fun i y z => ?_⟩
    · obtain ⟨rfl, _⟩ := one y c' z
      exact ⟨hcc.2, _, _, hcc.1, rfl⟩
    · rw [(one x c' zx).2, (one y c' zy).2]
    · cases i with
      | zero =>
        cases z
        exact ⟨cc, by simp [List.lookup], fun v zv => by cases zv; exact ⟨.ref C, rfl, _, hcc.1, rfl⟩⟩
      | succ i => simp at z
  refine codeAny_call_function hr.depth (KX _ _ lk) rfl S.co S.gen rfl (codeRec_of KX hcd) (hb _ _ _ _ ?_)
  refine wpAny_newFunctionEnv S.nocell (fun ⟨n, _⟩ hy => S.par n (List.of_mem_zip hy).1) (fun h₁ hns hsb => ⟨lim.fresh _ hsb, ?_⟩) S.kind
  show codeAny _ _ (.func (supSt e p0 p1 p2 p3 p4 :: rest) (envF (supNF name qual params e p0 p1 p2 p3 p4 rest scope cc c) f s.heap.objs.size)) _ _
  refine ks_codeAny_funcAt ?_
  have kp : ∀ b o, s.heap.get? b = some o → h₁.get? b = some o := fun b o z => hsb.extBut b o (Nat.ne_of_lt (Heap.lt_size z)) (Heap.get?_push_of_some _ z)
  obtain ⟨a, ta, t, hva, ha, pa, ht, hq⟩ := hbody A outer s H vs Q E (hr.deeper _) hsp
  have I : L2.Inv (ncx CX P w K mg base N (supNF name qual params e p0 p1 p2 p3 p4 rest scope cc c) f A outer s H E) [] (startF N vs [some (.ref C)]) H { s with heap := h₁, toks := s.toks + ((("self" : Str) :: ps).zip us).length } := inv_startN S hr.hd e0 hl r CA hns kp
  have hN : N[0]? = some ("self" : Str) := by
    have z := congrArg (fun l : List Str => l[0]?) S.pre
    simp only [List.cons_append, List.getElem?_cons_zero] at z
    rw [List.getElem?_take_of_lt (by simp)] at z
    exact z
  have h0 : (startF N vs [some (V.ref C)])[0]? = some (some (.ref a)) := by
    cases vs with
    | nil => cases hva
    | cons v r => cases hva; rfl
  have hkF : ∀ (x : Str) (nk : NameKind), scope.names.lookup x = some nk → (ncx CX P w K mg base N (supNF name qual params e p0 p1 p2 p3 p4 rest scope cc c) f A outer s H E).env.kindOf x = some nk := fun x nk z => z
  refine ks_wpAt_mono (ks_wpAt_execs_cons (sup_stmt (X := ncx CX P w K mg base N (supNF name qual params e p0 p1 p2 p3 p4 rest scope cc c) f A outer s H E) (R := fun _ H1 => t { nx := fun _ H' => Q .non H', rt := Q } (startF N vs [some (V.ref C)]) H1) T F rfl rfl (by show List.lookup _ [_] = _; simp [List.lookup]) (hkF _ _ hks) (hkF _ _ (S.frk _ List.mem_cons_self)) (hkF _ _ (S.par _ List.mem_cons_self)) hN I h0 ha pa hq
    (fun s' us' H1 I1 h1 => _root_.PySem.wpAt_of_wpAny (ht.run [] s' _ H1 _ I1 h1)) (hi _) (hs _) (hst _) (hev _))) (fun fl s' hs => ?_) fun e s' hs => hs
  have fin : ∀ {σ' : L2.St} {H' : Hp} {v : V} {u : Value}, L2.Inv (ncx CX P w K mg base N (supNF name qual params e p0 p1 p2 p3 p4 rest scope cc c) f A outer s H E) [] σ' H' s' → L2.RelV v u → Q v H' → CE outer P w H s Q u s' :=
    fun {σ' H' v u} J rv q => ⟨v, H', J.os, J.bare, J.base, J.hok, rv, q⟩
  cases fl with
  | next => obtain ⟨σ', H', J, z⟩ := hs; exact fin (v := V.non) (u := Value.none) J rfl z
  | ret u => obtain ⟨v, σ', H', J, rv, z⟩ := hs; exact fin J rv z
  | brk => obtain ⟨_, _, _, z⟩ := hs; exact z.elim
  | cont => obtain ⟨_, _, _, z⟩ := hs; exact z.elim
end
end UV

set_option Elab.async false
set_option linter.all false
set_option maxRecDepth 100000
set_option maxHeartbeats 4000000
/-! isinstance of a caught exception that has a dict; several except clauses, each `as n` -/
namespace UV
open PySem PySem.W PySem.Calls PyProof.Rows L2
section
variable {P : Program} {w : World} {A : Around} {E : Value → Shared → Prop} {s : Shared} {K : Frag} {a D : Addr} {ox : Obj} {dd : Obj}
theorem cls_exc {Q : Option Value → Shared → Prop} (c : ExcC K D) (X : K.In s.heap) (I : InstAt s.heap a ox D (some dd)) (q : Q (some (.ref D)) { s with toks := s.toks + 1 }) : wpAny (model P w) A (getAttr? (.ref a) "__class__") Q E s := by
  have hc : (clsIn K D).isSome = true := by obtain ⟨cd, e, _⟩ := any_some c.hd; rw [e]; rfl
  have fo : findObj K D (some dd) "__class__" = some (.bind (.builtin "getset_descriptor.__get__") (.builtin "object.__class__")) := findObj_data hc c.ha c.hn c.ht
  obtain ⟨hp, g, d, t, os⟩ := s
  have k0 := I.type (M := model P w)
  have k1 := looks_findIn (M := model P w) X c.hg
  have k2 := looks_findIn (M := model P w) X c.hk
  have k3 := looks_find (M := model P w) X I fo
  have sb : Looks (model P w) hp (isInstance (.ref a) (.type "BaseException")) true := k0.andThen (looks_subIn X c.hs)
  have b2 : (Value.builtin "BaseException.__getattribute__" == Value.builtin "object.__getattribute__") = false := by decide +kernel
  have b1 : (onTheHeap (Value.ref D) && Value.builtin "BaseException.__getattribute__" == Value.builtin "object.__getattribute__") = false := by rw [b2]; rfl
  unfold getAttr? getAttrBy? getAttrBy
  refine wpAny_bind (wpAny_mkText (wpAny_bind (wpAny_attempt (wpAny_holding (wpAny_bind (k0.at (wpAny_bind (k1.at ?_)))))))); show wpAny _ _ (if (onTheHeap (Value.ref D) && Value.builtin "BaseException.__getattribute__" == Value.builtin "object.__getattribute__") = true then _ else _) _ _ _
  rw [b1, if_neg Bool.false_ne_true]; unfold getAttrByItsOwn hookBefore
  refine wpAny_bind ?_; rw [if_pos (show onTheHeap (Value.ref D) = true from rfl)]
  refine k2.at (wpAny_bind (wpAny_attempt (wpAny_holding ?_))); unfold callGetattribute
  rw [show (false && onTheHeap (Value.builtin "BaseException.__getattribute__")) = false from rfl, if_neg Bool.false_ne_true]; unfold boundAndCalled
  rw [PySem.F.excAttr_ValueError.ga.bind (.ref a)]
  refine wpAny_bind (wpAny_pure ?_); show wpAny _ _ (call (.builtin "BaseException.__getattribute__") [.ref a, .str "__class__" t]) _ _ _
  refine wpAny_call (codeAny_call_builtin PySem.F.excAttr_ValueError.ga.plain PySem.F.entry_bexc_ga (@check_slot (model P w) _ _ ⟨hp, g, d, t + 1, os⟩ "BaseException.__getattribute__" "BaseException" "__getattribute__" (.ref a) [.str "__class__" t] [] _ (by decide +kernel) (by decide +kernel) sb (PySem.F.args_bexc_ga (.ref a) (.str "__class__" t)) ?_))
  unfold Builtin.«object.__getattribute__»
  refine wpAny_bind (wpAny_of_eq (a := ((Value.ref a : Value), [Value.str "__class__" t])) (by first | rfl | (simp only [slotArgs]; rfl)) (wpAny_bind (wpAny_pure (wpAny_bind (k0.at (wpAny_bind (k3.at ?_))))))); show wpAny _ _ (holding [Value.builtin "object.__class__"] (call (.builtin "getset_descriptor.__get__") [.builtin "object.__class__", .ref a, .ref D]) >>= ret) _ _ _
  refine wpAny_bind (wpAny_holding (wpAny_call (class_get (s := ⟨hp, g, d, t + 1, os⟩) (ox := ox) (od := some dd) X I c.hm (wpAny_pure ?_)))); show wpAny _ _ (handedOut (.ref D)) _ _ _
  rw [handedOut_of (v := .ref D) rfl]
  first | exact wpAny_pure (wpAny_pure q) | exact wpAny_pure q | exact wpAny_pure (wpAny_bind (wpAny_pure (wpAny_pure q)))
theorem kx_exc (c : ExcC K D) : KitX K (.ref a) (.ref D) (fun h => InstAt h a ox D (some dd)) where
  ty := fun _ _ _ I => I.type
  it := fun _ _ X _ => by
    obtain ⟨cd, hcd, _⟩ := any_some c.hd
    unfold clsIn at hcd
    split at hcd
    · rename_i c' d' cd' sl' ho
      intro A' Q' E' s' k q; unfold isType loadHead
      exact wpAny_bind (wpAny_loadPart (k _ _ (X _ _ ho)) (wpAny_pure q))
    · cases hcd
  ne := fun h tp dx its n sl X htp => by
    obtain ⟨cd, hcd, _⟩ := any_some c.hd
    refine Bool.eq_false_iff.mpr fun q => ?_
    have e : D = tp := Value.ref.inj (beq_iff_eq.mp q)
    subst e
    unfold clsIn at hcd
    split at hcd
    · rename_i c' d' cd' sl' ho
      have z := (X _ _ ho).symm.trans htp; cases z
    · cases hcd
  ca := fun X I k => cls_exc c X I k
end
/-- isinstance(e, c) of an exception with a dict -/
def rIsX (K : PySem.W.Frag) (a : Addr) (cls : Value) (d : Option Addr) : List V → Hp → VK → Prop := fun xs H Q => ∃ (D dx : Addr) (fs : List (Str × V)) (c : V) (cv : Value) (b : Bool), cls = .ref D ∧ d = some dx ∧ H dx = some (.xd fs) ∧ ExcC K D ∧ xs = [.ref a, c] ∧ (∀ u, RelV c u → u = cv) ∧ PySem.W.kitOne K (.ref D) cv = some b ∧ Q (.bl b) H
theorem call_isX {X : Cx} {a : Addr} {cls : Value} {d : Option Addr} {oe : Obj} {pn : List (Addr × Obj)} (hz : Zc cls d oe) (hf : ∃ vs, oe.data = .fields vs) : CallR (X.suite a ((a, oe) :: pn)) (.builtin "isinstance") (rIsX X.K a cls d) := by
  intro pins s σ H xs us Q I r h
  obtain ⟨D, dx, fs, c, cv, b, rfl, rfl, hdx, ec, rfl, hcv, e, q⟩ := h
  obtain ⟨u1, u2, rfl, ru1, ru2⟩ := vals2 r
  cases ru1
  have e2 := hcv _ ru2
  subst e2
  obtain ⟨hg, _⟩ := I.pin (a, oe) (List.mem_append.mpr (.inl List.mem_cons_self))
  obtain ⟨vs, hv⟩ := hf
  have hx : ObjOk X.prog X.w H s.heap dx (.xd fs) := I.hok dx _ hdx
  obtain ⟨mA, hns, _⟩ := hx
  obtain ⟨od, ho, _⟩ := lookIn_ns hns
  have J : PySem.W.InstAt s.heap a oe D (some od) := ⟨hg, hz.1, by unfold PySem.W.notCls; rw [hv] <;> rfl, by rw [hz.2]; exact ho⟩
  exact PySem.W.kia_one (kx_exc ec) I.kIn J e (fun z => nomatch z) fun tk => ⟨.bl b, H, I.kept (t' := tk) fun _ _ z => z, rfl, q⟩
/-! ### several except clauses, each `as n` -/
/-- a clause: the class, the slot of its name, what its suite wants -/
abbrev Cl := Value × Nat × (Addr → Value → Option Addr → TS)
def offE (D : Ends) (i : Nat) : Ends := { nx := fun σ' H' => D.nx (σ'.set i none) H', rt := D.rt, bk := fun σ' H' => D.bk (σ'.set i none) H', ct := fun σ' H' => D.ct (σ'.set i none) H' }
def wAsMany (K : PySem.W.Frag) (Wo : WX) (D : Ends) : List Cl → WX
  | [] => Wo
  | (c, i, ts) :: r => fun cls d σ H => ∃ b, PySem.W.exmOne K cls c = some b ∧ (b = true → ∀ a, H a = none → ts a cls d (offE D i) (σ.set i (some (.ref a))) H) ∧ (b = false → wAsMany K Wo D r cls d σ H)
inductive ClsOk (X : Cx) : List ExceptHandler → List Cl → Prop
  | nil : ClsOk X [] []
  | cons {x n : Str} {c : Value} {i : Nat} {ts : Addr → Value → Option Addr → TS} {st : Stmt} {suite : List Stmt} {np p' : Pos} {hds : List ExceptHandler} {l : List Cl} (hN : X.N.Nodup) (hi : X.N[i]? = some n) (hl : X.env.kindOf n = some .local) (hc : Names X x c)
      (su : ∀ (a : Addr) (oe : Obj) (cls : Value) (d : Option Addr) (pn : List (Addr × Obj)), Zc cls d oe → (∃ vs, oe.data = .fields vs) → PSs (X.suite a ((a, oe) :: pn)) (st :: suite) (ts a cls d)) (r : ClsOk X hds l) :
      ClsOk X (.ExceptHandler (some (.Name x np)) (some n) (st :: suite) p' :: hds) ((c, i, ts) :: l)
section
variable {X : Cx} {body : List Stmt} {h0 : ExceptHandler} {hds : List ExceptHandler} {l : List Cl} {pos : Pos} {tb : WX → TS} {Wo : WX}
theorem ps_try_asMany (hs : X.stack = X.env :: X.outer) (hf : X.env.frame = some X.env.locals) (tk : Takes X Wo) (hb : ∀ (W : WX) (pn : List (Addr × Obj)) (xe : Value → Shared → Prop), Takes (X.tr pn xe) W → PassesOwn (model X.prog X.w) X.A X.env xe → PSs (X.tr pn xe) body (tb W)) (hh : ClsOk X (h0 :: hds) l) :
    PS X (.Try body (h0 :: hds) [] [] pos) (fun D σ H => tb (wAsMany X.K Wo D l) D σ H) := by
  refine ⟨fun pins s σ H D I h => ?_⟩
  have ok := I.ok
  have fr : X.A.frames = some (X.env :: X.outer) := by rw [ok.frames, hs]
  refine wpAny_Try_except (wpAny_mono ((hb (wAsMany X.K Wo D l) (X.pn ++ pins) (fun e s₁ => wpAny (model X.prog X.w) X.A (noteFrame e X.env) (fun _ s₂ => wpAny (model X.prog X.w) X.A (setFlight e none) (fun _ s₃ => wpAny (model X.prog X.w) X.A (handleBy e X.env (h0 :: hds)) (SP X pins D) X.xe s₃) X.xe s₂) X.xe s₁) (fun u s' xx => ?_) PassesOwn.looking).run [] s σ H D (I.toTry _) h) (fun f s1 hsp => ?_) (fun e s1 he => he))
  · obtain ⟨a, B, sI, pins', σ', H', cls, d, rfl, J', nb, up, sky, na, os, ag, w⟩ := xx
    have J : L2.Inv X pins σ' H' sI := J'.ofTry ok
    have sky2 : Sky B (X.env :: X.outer) a (Zc cls d) X.env.locals s'.heap := by rw [← hs]; exact sky
    show wpAny (model X.prog X.w) X.A (noteFrame (.ref a) X.env) _ _ _
    refine Sky.land Zc.steady fr hf sky2 fun g3 f3 u3 => ?_
    have J3 : L2.Inv X pins σ' H' { s' with heap := g3 } := J.landed nb f3.1 (up.trans u3) os ag
    obtain ⟨o3, w3, e3, z3, d3⟩ := f3.there
    have nfr : a ∉ frs (X.env :: X.outer) := fun hm => by
      obtain ⟨_, o', e', hnf⟩ := f3.2.2.1.mem hm
      rw [e3] at e'; cases e'; exact hnf _ d3
    have nL : a ≠ X.env.locals := fun z => nfr (List.mem_filterMap.mpr ⟨X.env, List.mem_cons_self, by rw [hf, z]⟩)
    have nF : a ∉ X.fs := fun hm => let ⟨e, he, q⟩ := List.mem_filterMap.mp hm; nfr (List.mem_filterMap.mpr ⟨e, List.mem_cons_of_mem _ he, q⟩)
    have S3 := J3.suite e3 d3 na nL nF
    have go : ∀ {hd2 : List ExceptHandler} {l2 : List Cl}, ClsOk X hd2 l2 → wAsMany X.K Wo D l2 cls d σ' H' → wpAny (model X.prog X.w) X.A (handleBy (.ref a) X.env hd2) (SP X pins D) X.xe { s' with heap := g3 } := by
      intro hd2 l2 hk
      induction hk with
      | nil =>
        intro w
        refine wpAny_handleBy_nil ?_
        obtain ⟨k1, k2, k3, oe, vs, T, oT, ts', he, hz, hd, h1, hr⟩ := id f3
        unfold PySem.passOn; refine wpAny_bind (wpAny_field he hd h1 ?_); rw [if_neg (show ¬ ((Value.ref T == Value.none) = true) from by simp)]
        have fin : wpAny (model X.prog X.w) X.A (setFlight (.ref a) X.env.frame) (fun _ s4 => wpAny (model X.prog X.w) X.A (throw (.ref a) : Sem Flow) (SP X pins D) X.xe s4) X.xe { s' with heap := g3 } := by
          rw [hf]; exact HandSPX.setFlight_upZ f3 fun h4 hh4 up4 => wpAny_throw (tk _ _ ⟨a, B, sI, pins, σ', H', cls, d, rfl, J, nb, (up.trans u3).trans up4, .inr (.inr (by rw [hs]; exact hh4)), na, os, ag, w⟩)
        first | exact wpAny_bind (wpAny_pure (wpAny_bind fin)) | exact wpAny_bind fin
      | @cons x n c i ts st suite np p' hd3 l3 hN hi hln hc su r ih =>
        intro w
        obtain ⟨b, hb1, hyes, hno⟩ := w
        refine wpAny_handleBy_cons (codeAny_handlers_test ?_) (by intro q; cases q)
        have LT : PySem.W.Looks (model X.prog X.w) g3 (typeOf (.ref a)) cls := fun A Q E s k q => wpAny_typeOf_ref (k _ _ e3) (by rw [z3.1]; exact q)
        have LM := PySem.W.exm_one (M := model X.prog X.w) (J3.kIn) LT hb1
        have ts2 : ∀ {Q : Value → Shared → Prop} {E : Value → Shared → Prop}, Q c { s' with heap := g3 } → wpAny (model X.prog X.w) (X.A.mark (some (.ref a))) (eval (.Name x np) X.env) Q E { s' with heap := g3 } := fun {Q E} q => by
          obtain ⟨hg, hdbg, hm | ⟨hm, hv, hnn⟩⟩ := hc
          · exact ld_glob (X := X.suite a ((a, o3) :: (X.pn ++ pins))) S3 hg hm q hdbg
          · exact ld_blt (X := X.suite a ((a, o3) :: (X.pn ++ pins))) S3 hg hm hv q hnn hdbg
        refine ts2 (LM.here ?_)
        cases b with
        | true =>
          refine codeAny_handlers_suite_as (HandSPX.lands_againZ f3 fun g4 f4 u4 => ?_)
          have J4 : L2.Inv X pins σ' H' { s' with heap := g4 } := J.landed nb f4.1 ((up.trans u3).trans u4) os ag
          obtain ⟨o4, w4, e4, z4, d4⟩ := f4.there
          refine store_ok (X := X.suite a ((a, o4) :: (X.pn ++ pins))) (v := .ref a) (J4.suite e4 d4 na nL nF) hN hi (.inl hln) rfl (fun s5 S5 => ?_) (.inr hln)
          refine wpAny_mono ((su a o4 cls d (X.pn ++ pins) z4 ⟨_, d4⟩).run [] s5 _ H' _ S5 (hyes rfl a na)) (fun f s6 hsp => ?_) (fun _ _ z => False.elim z)
          have ed : ∀ {σ6 : L2.St} {H6 : Hp} {Q : Shared → Prop}, L2.Inv (X.suite a ((a, o4) :: (X.pn ++ pins))) [] σ6 H6 s6 → (∀ s7, L2.Inv X pins (σ6.set i none) H6 s7 → Q s7) → wpAny (model X.prog X.w) X.A (do bindName X.env n .none; unbindBehindTheSuite X.env n p') (fun _ s7 => Q s7) X.xe s6 :=
            fun {σ6 H6 Q} S6 hq => gone_ok (S6.unsuite ok) hN hi hln hq
          cases f with
          | ret u => obtain ⟨v6, σ6, H6, S6, r6, q6⟩ := hsp; exact ed S6 fun s7 J7 => ⟨_, _, _, J7, r6, q6⟩
          | next => obtain ⟨σ6, H6, S6, q6⟩ := hsp; exact ed S6 fun s7 J7 => ⟨_, _, J7, q6⟩
          | brk => obtain ⟨σ6, H6, S6, q6⟩ := hsp; exact ed S6 fun s7 J7 => ⟨_, _, J7, q6⟩
          | cont => obtain ⟨σ6, H6, S6, q6⟩ := hsp; exact ed S6 fun s7 J7 => ⟨_, _, J7, q6⟩
        | false => exact ih (hno rfl)
    exact go hh w
  · cases f with
    | ret u => obtain ⟨v, σ', H', J', r, q⟩ := hsp; exact ⟨v, σ', H', J'.ofTry ok, r, q⟩
    | next => obtain ⟨σ', H', J', q⟩ := hsp; exact wpAny_execs_nil ⟨σ', H', J'.ofTry ok, q⟩
    | brk => obtain ⟨σ', H', J', q⟩ := hsp; exact ⟨σ', H', J'.ofTry ok, q⟩
    | cont => obtain ⟨σ', H', J', q⟩ := hsp; exact ⟨σ', H', J'.ofTry ok, q⟩
end
end UV

set_option Elab.async false
set_option linter.all false
set_option maxRecDepth 100000
set_option maxHeartbeats 4000000
/-! calls in a try's body: what is raised is wished for at the caller's slots -/
namespace UV
open PySem PySem.Spec PyProof.Rows L2 UL
section
variable {X : Cx} {CX : CXT} {k j : Nat} {C : Addr} {sp : Sp} {E : L2.St → XK} {m : Str} {p pos apos : Pos} {e o : Expr} {es : List Expr} {ta tb : TE} {t : TA}
def tMethX (C : Addr) (m : Str) (sp : Sp) (E : L2.St → XK) (ta : TE) (t : TA) : TE := fun σ H Q => ta σ H fun x H1 => ∃ a dx fs, x = .ref a ∧ H1 a = some (.ins C dx fs) ∧ fs.lookup m = none ∧ t σ H1 fun vs H2 => sp (x :: vs) H2 Q (E σ)
/-- o.m(e, ..) -/
theorem pe_mX {pl : Sem Bool} (d : Mn X.prog X.w X.K X.mg X.base CX k C m sp) (c : Cls X.K C) (hr : Room j X.A) (hk : k ≤ j) (hx : ∀ σ, PassesAt CX X σ (E σ)) (he : PE X o ta) (ha : PA X (e :: es) t)
    (hst : starEach (e :: es) X.env = (false, eval e X.env) :: starEach es X.env := by rfl) (hpl : (backTo pos (starEach es X.env)).any (·.1) = false := by rfl)
    (ht : eval (.Call (.Attribute o m apos) (e :: es) [] pos) X.env = (do
      let ov ← eval o X.env
      standAt apos.atName
      let (f, first) ← holding [ov] (getMethod ov m pl)
      callWith pos f first (backTo pos (starEach (e :: es) X.env)) (backToKw pos (keywordEach [] X.env))) := by rfl) : PE X (.Call (.Attribute o m apos) (e :: es) [] pos) (tMethX C m sp E ta t) := by
  obtain ⟨f, fd, ps, F, hm, hb⟩ := d.ex
  refine ⟨fun pins s σ H Q I h => PySem.W.methodCall_KW (pl := pl) (thn (he.run pins s σ H _ I h) fun u s1 ⟨x, H1, I1, rx, a, dx, fs, ex, ea, l, q⟩ => ?_) ht⟩
  subst ex
  obtain rfl : u = Value.ref a := rx
  refine getmeth_ok I1 ea c hm l (PySem.W.callWith_K (first := [.ref a]) (h₀ := X.base) I.ok.mod.kin hm.kp (thn (ha.run pos pins s1 σ H1 _ I1 q) fun us s2 ⟨vs, H2, I2, r, q2⟩ => ⟨I2.kIn, ?_⟩) hst hpl)
  exact run_fnS (us := .ref a :: us) (vs := .ref a :: vs) F (hr.mono hk) hb (hx σ) I2 (.cons rfl r) q2
def tSubX (C : Addr) (sp : Sp) (E : L2.St → XK) (ta tb : TE) : TE := fun σ H Q => ta σ H fun x H1 => tb σ H1 fun y H2 => ∃ a dx fs, x = .ref a ∧ H2 a = some (.ins C dx fs) ∧ sp [.ref a, y] H2 Q (E σ)
/-- o[i] by an own __getitem__ -/
theorem pe_subX {ea eb : Expr} (d : Gn X.prog X.w X.K X.mg X.base CX k C sp) (hr : Room j X.A) (hk : k + 1 ≤ j) (hx : ∀ σ, PassesAt CX X σ (E σ)) (ha : PE X ea ta) (hb : PE X eb tb)
    (hs : ∀ o i, subscripted eb true o i = runValue (.builtin "lifetime.subscript" ⟨[o, i], []⟩)) : PE X (.Subscript ea eb pos) (tSubX C sp E ta tb) := by
  obtain ⟨f, fd, ps, F, c, B⟩ := d.ex
  refine ⟨fun pins s σ H Q I h => Subscript_ (binT ha hb I h fun v u s2 x y H2 I2 rx ry q => ?_)⟩
  obtain ⟨a, dx, fs, e, ho, q⟩ := q
  subst e
  cases rx
  obtain ⟨od, J⟩ := inst_of I2 ho
  obtain ⟨m, hF⟩ := I2.fr
  have hl : (([Value.ref a, u] : List Value) ++ []).length = ps.length := by rw [← F.len _ _ _ _ q]; rfl
  have hb' := B s2 [.ref a, u] I2.kIn hl
  rw [List.append_nil] at hb'
  refine PySem.W.sub_K hF I2.ok.mod.kin J c.at_ c.fn c.is (wpAny_call (codeAny_mono (F.run X.A.in1 X.stack s2 H2 ⟨[.ref a, u], []⟩ [.ref a, u] [.ref a, y] Q (E σ) (hr.mono hk).in1 I2.env0.in1 hb' (.cons rfl (.cons ry .nil)) q) fun r s' hq => ?_)) (hs _ _)
  match r, hq with
  | .error er, hq => exact hx σ pins H2 s2 er s' I2 hq
  | .ok (.ret z), hq => exact I2.after hq
  | .ok .next, hq | .ok .brk, hq | .ok .cont, hq => exact hq.elim
end
end UV

set_option Elab.async false
set_option linter.all false
set_option maxRecDepth 100000
set_option maxHeartbeats 4000000
/-! o.f = v by a property's own setter -/
namespace UW
open PySem PySem.Spec PyProof.Rows L2 UL UV
/-- the class has the name as a property at p; the setter is the def at g -/
structure PutO (K : PySem.W.Frag) (C : Addr) (x : Str) (p g : Addr) : Prop where
  tk : PySem.W.takerIn K C x = some (some (.ref p))
  ty : PySem.W.typeIn K (.ref p) = some (.type "property")
  rc : ∃ a rest, PySem.W.recIn K p "property" = some (a :: .ref g :: rest)
structure PutN (P : Program) (w : World) (K : PySem.W.Frag) (mg : Str → Option Value) (base : Heap) (CX : CXT) (k : Nat) (C : Addr) (x : Str) (sp : Sp) : Prop where
  ex : ∃ (p g : Addr) (fd : FuncData) (ps : List Str), FnOk P w K mg base CX k g fd ps sp ∧ PutO K C x p g ∧ Binds K fd ps []
section
variable {X : Cx} {CX : CXT} {k j : Nat} {C a dx : Addr} {fs : List (Str × V)} {sp : Sp} {E : XK} {x : Str} {p pos pos' : Pos} {o e : Expr} {ta tv : TE}
theorem putprop_ok {pins : List (Addr × Obj)} {σ : L2.St} {H : Hp} {s : Shared} {y : V} {u : Value} {Q : VK} {R : Unit → Shared → Prop} (d : PutN X.prog X.w X.K X.mg X.base CX k C x sp) (c : Cls X.K C) (hr : Room j X.A) (hk : k + 2 ≤ j) (hx : PassesAt CX X σ E)
    (I : Inv X pins σ H s) (ea : H a = some (.ins C dx fs)) (ry : RelV y u) (q : sp [.ref a, y] H Q E) (h : ∀ v s' H', Inv X pins σ H' s' → Q v H' → R () s') : wpAny (model X.prog X.w) X.A (setAttr (.ref a) x u) R X.xe s := by
  obtain ⟨pa, g, fd, ps, F, po, B⟩ := d.ex
  obtain ⟨gv, rest, hrec⟩ := po.rc
  obtain ⟨od, J⟩ := inst_of I ea
  obtain ⟨m, hF⟩ := I.fr
  have I1 := I.tok (s.toks + 1)
  have hl : (([Value.ref a, u] : List Value) ++ []).length = ps.length := by rw [← F.len _ _ _ _ q]; rfl
  have hb := B { s with toks := s.toks + 1 } [.ref a, u] I1.kIn hl
  rw [List.append_nil] at hb
  refine PySem.W.set_prop hF I.ok.mod.kin J c.sa c.po po.tk po.ty hrec ?_
  refine codeAny_mono (F.run X.A.in1.in1 X.stack { s with toks := s.toks + 1 } H ⟨[.ref a, u], []⟩ [.ref a, u] [.ref a, y] Q E (hr.mono hk).in1.in1 I1.env0.in1.in1 hb (.cons rfl (.cons ry .nil)) q) fun r s' hq => ?_
  match r, hq with
  | .error er, hq => exact hx pins H _ er s' I1 hq
  | .ok (.ret z), hq =>
    obtain ⟨v, H', I3, _, q3⟩ := I1.after hq
    exact h v s' H' I3 q3
  | .ok .next, hq | .ok .brk, hq | .ok .cont, hq => exact hq.elim
/-- e.x = v, v's way first -/
def sPut (C : Addr) (sp : Sp) (E : L2.St → XK) (ta tv : TE) : TS := fun D σ H => tv σ H fun y H1 => ta σ H1 fun z H2 => ∃ a dx fs, z = .ref a ∧ H2 a = some (.ins C dx fs) ∧ sp [.ref a, y] H2 (fun _ H3 => D.nx σ H3) (E σ)
theorem ps_put {E : L2.St → XK} (d : PutN X.prog X.w X.K X.mg X.base CX k C x sp) (c : Cls X.K C) (hr : Room j X.A) (hk : k + 2 ≤ j) (hx : ∀ σ, PassesAt CX X σ (E σ)) (ha : PE X o ta) (hv : PE X e tv) (hs : swapsWith e (some (.Attribute o x pos')) pos.line X.env = pure false := by rfl) :
    PS X (.Assign [.Attribute o x pos'] e pos) (sPut C sp E ta tv) := by
  refine ⟨fun pins s σ H D I h => plainObj_wpAny_Assign_Attribute (thn (hv.run pins s σ H _ I h) fun u s1 ⟨y, H1, I1, ry, q⟩ => thn (ha.run pins s1 σ H1 _ I1 q) fun ov s2 ⟨z, H2, I2, rz, a, dx, fs, ez, ea, q2⟩ => ?_) hs⟩
  subst ez
  obtain rfl : ov = Value.ref a := rz
  exact putprop_ok d c hr hk (hx σ) I2 ea ry q2 fun v s3 H3 I3 q3 => ⟨σ, _, I3, q3⟩
end
end UW

set_option Elab.async false
set_option linter.all false
set_option maxRecDepth 100000
set_option maxHeartbeats 4000000
/-! raise C(..) from D(..) -/
namespace UW
open PySem PySem.Spec PyProof.Rows L2 UL UV
section
variable {X : Cx} {pins : List (Addr × Obj)} {σ : L2.St} {H : Hp} {s : Shared} {G : Heap} {a : Addr}
/-- one thing that is not tracked is hidden -/
theorem unseen (J : Inv X pins σ H s) (h0 : X.s_0.heap.get? a = none) (na : H a = none) (nl : a ≠ X.env.locals) (nc : ∀ x c, X.env.cells.lookup x = some c → c ≠ a) (np : ∀ p ∈ X.pn ++ pins, p.1 ≠ a) (gk : ∀ b, b ≠ a → G.get? b = s.heap.get? b) :
    Inv X pins σ H { s with heap := G } := by
  have n0 : ∀ {b : Addr} {o : Obj}, X.s_0.heap.get? b = some o → b ≠ a := fun {b o} z q => by rw [q, h0] at z; cases z
  have nt : ∀ {b : Addr} {o : HO}, H b = some o → b ≠ a := fun {b o} z q => by rw [q, na] at z; cases z
  have ic : ∀ {x c v}, X.env.cells.lookup x = some c → s.heap.IsCell c v → G.IsCell c v := fun {x c v} z q => let ⟨o, e, d⟩ := q; ⟨o, (gk c (nc x c z)).trans e, d⟩
  obtain ⟨m, hn, hl⟩ := J.loc
  refine ⟨J.ok, J.os, J.bare, ⟨fun b o e n hb hx => (gk b (n0 e)).trans (J.base.keep b o e n hb hx), fun b o e n hb hx => let ⟨sl, z⟩ := J.base.slot b o e n hb hx; ⟨sl, (gk b (n0 e)).trans z⟩, J.base.free, fun b o e hx => let ⟨u, z⟩ := J.base.there b o e hx; ⟨u, (gk b (n0 e)).trans z⟩, J.base.tups, J.base.frzs, J.base.tbls⟩,
    ⟨m, hn.at fun o z => (gk _ (Ne.symm nl)).trans z, fun i x v e1 e2 e3 => ?_⟩, fun x c z => let ⟨v, q⟩ := J.cell x c z; ⟨v, ic z q⟩, J.free, J.freeC, fun p hp => let ⟨e, n, l, f, d⟩ := J.pin p hp; ⟨(gk _ (np p hp)).trans e, n, l, f, d⟩, fun b o z => ?_, J.len⟩
  · obtain ⟨u, ru, lk⟩ := hl i x v e1 e2 e3
    exact ⟨u, ru, lk.elim .inl fun ⟨k, c, ce, q⟩ => .inr ⟨k, c, ce, ic ce q⟩⟩
  · refine (J.hok b o z).stay (fun c u hc q => (gk c ?_).trans q) (fun _ q => q) fun _ _ q => q
    rcases hc with hc | hc
    · rw [hc]; exact nt z
    · exact nt hc
/-- behind the two stores -/
def tied (h : Heap) (a : Addr) (u : Value) : Heap := (h.update a (Obj.mapFields (·.setIfInBounds 3 u))).update a (Obj.mapFields (·.setIfInBounds 4 (.bool true)))
theorem tied_other {h : Heap} {b : Addr} {u : Value} (n : a ≠ b) : (tied h a u).get? b = h.get? b := by
  unfold tied; rw [Heap.get?_update_other _ _ n, Heap.get?_update_other _ _ n]
theorem tied_at {h : Heap} {u : Value} {oe : Obj} {vs : Array Value} (ha : h.get? a = some oe) (hd : oe.data = .fields vs) :
    (tied h a u).get? a = some ((oe.mapFields (·.setIfInBounds 3 u)).mapFields (·.setIfInBounds 4 (.bool true))) ∧ ((oe.mapFields (·.setIfInBounds 3 u)).mapFields (·.setIfInBounds 4 (.bool true))).data = .fields ((vs.setIfInBounds 3 u).setIfInBounds 4 (.bool true)) := by
  have d3 := Obj.data_mapFields hd (·.setIfInBounds 3 u)
  have g3 := Heap.get?_update_self (Obj.mapFields (·.setIfInBounds 3 u)) ha (Obj.isFreed_of_fields d3)
  have d4 := Obj.data_mapFields d3 (·.setIfInBounds 4 (.bool true))
  exact ⟨Heap.get?_update_self (Obj.mapFields (·.setIfInBounds 4 (.bool true))) g3 (Obj.isFreed_of_fields d4), d4⟩
theorem raise_cause {prog : Program} {w : World} {A : Around} {E : Value → Shared → Prop} {env : Env} {s : Shared} {x c : Sem Value} {Q : Flow → Shared → Prop} (hh : A.handled = none)
    (h : wpAny (model prog w) A x (fun v s₁ => wpAny (model prog w) A c (fun u s₂ => ∃ a oe vs cls b ob ws cb, v = .ref a ∧ u = .ref b ∧ s₂.heap.get? a = some oe ∧ oe.cls = cls ∧ oe.data = .fields vs ∧ vs[1]? = some .none ∧ 4 < vs.size ∧
      s₂.heap.get? b = some ob ∧ ob.cls = cb ∧ ob.data = .fields ws ∧ PySem.W.Looks (model prog w) s₂.heap (isSubtype cls (.type "BaseException")) true ∧ PySem.W.Looks (model prog w) s₂.heap (isSubtype cb (.type "BaseException")) true ∧
      PySem.W.Looks (model prog w) (tied s₂.heap a (.ref b)) (typeOf cls) (.type "type") ∧ E (.ref a) { s₂ with heap := tied s₂.heap a (.ref b) }) E s₁) E s) :
    wpAny (model prog w) A (raiseStmt env (some x) (some c)) Q E s := by
  unfold raiseStmt
  dsimp only
  refine wpAny_bind (wpAny_mono h (fun v s₁ h₁ => ?_) fun _ _ x => x)
  refine wpAny_bind (wpAny_holding (wpAny_mono h₁ (fun u s₂ h₂ => wpAny_bind (wpAny_pure ?_)) fun _ _ x => x))
  obtain ⟨a, oe, vs, cls, b, ob, ws, cb, rfl, rfl, ha, hcls, hd, h1, hi, hb, hcb, hdb, L1, L2, L3, hE⟩ := h₂
  have LT : PySem.W.Looks (model prog w) s₂.heap (typeOf (.ref a)) cls := fun A Q E s k q => wpAny_typeOf_ref (k _ _ ha) (by rw [hcls]; exact q)
  have LU : PySem.W.Looks (model prog w) s₂.heap (typeOf (.ref b)) cb := fun A Q E s k q => wpAny_typeOf_ref (k _ _ hb) (by rw [hcb]; exact q)
  have LI : PySem.W.Looks (model prog w) s₂.heap (isInstance (.ref a) (.type "BaseException")) true := LT.andThen L1
  have LJ : PySem.W.Looks (model prog w) s₂.heap (isInstance (.ref b) (.type "BaseException")) true := LU.andThen L2
  have nota : ∀ {A' : Around} {E' : Value → Shared → Prop} {h' : Heap} {o' : Obj} {c' : Addr} {zs : Array Value} {Q' : Bool → Shared → Prop}, h'.get? c' = some o' → o'.data = .fields zs → Q' false { s₂ with heap := h' } → wpAny (model prog w) A' (isType (.ref c')) Q' E' { s₂ with heap := h' } := by
    intro A' E' h' o' c' zs Q' z1 z2 hq
    simp only [isType, loadHead]
    refine wpAny_bind (wpAny_loadPart z1 ?_)
    rw [z2]; exact wpAny_pure hq
  have d3 := Obj.data_mapFields hd (·.setIfInBounds 3 (.ref b))
  have g3 := Heap.get?_update_self (Obj.mapFields (·.setIfInBounds 3 (.ref b))) ha (Obj.isFreed_of_fields d3)
  obtain ⟨g4, d4⟩ := tied_at (u := .ref b) ha hd
  have s3 : 3 < vs.size := by omega
  have s4 : 4 < (vs.setIfInBounds 3 (Value.ref b)).size := by simpa using hi
  have h14 : ((vs.setIfInBounds 3 (Value.ref b)).setIfInBounds 4 (Value.bool true))[1]? = some Value.none := HotX.set_other (by decide) (HotX.set_other (by decide) h1)
  have c4 : ((oe.mapFields (·.setIfInBounds 3 (.ref b))).mapFields (·.setIfInBounds 4 (.bool true))).cls = cls := by rw [Obj.cls_mapFields, Obj.cls_mapFields]; exact hcls
  have LT4 : PySem.W.Looks (model prog w) (tied s₂.heap a (.ref b)) (typeOf (.ref a)) cls := fun A Q E s k q => wpAny_typeOf_ref (k _ _ g4) (by rw [c4]; exact q)
  have rest : wpAny (model prog w) A (do
      let b ← isType (.ref a)
      if b = true then do
        let e ← holding [.ref a] (raisedFor (.ref a) (.ref a))
        setFlight e none
        raiseNew e
      else do
        let e ← raisedInstance (.ref a)
        setFlight e none
        raiseNew e : Sem Flow) Q E { s₂ with heap := tied s₂.heap a (.ref b) } := by
    refine wpAny_bind (nota g4 d4 ?_)
    simp only [Bool.false_eq_true, if_false]
    unfold raisedInstance
    refine wpAny_bind (wpAny_bind (LT4.here (wpAny_bind (L3.here ?_))))
    rw [if_pos (beq_self_eq_true _)]
    refine wpAny_pure ?_
    unfold setFlight raiseNew
    refine wpAny_bind (wpAny_bind (wpAny_field g4 d4 h14 ?_))
    rw [if_neg (by decide)]
    refine wpAny_pure (wpAny_bind (wpAny_handled ?_))
    rw [hh]
    first
      | exact wpAny_throw hE
      | exact wpAny_bind (wpAny_pure (wpAny_throw hE))
  dsimp only
  refine wpAny_bind (wpAny_holding ?_)
  unfold excFromValue isExcClass
  refine wpAny_bind (wpAny_bind (nota ha hd ?_))
  simp only [Bool.false_eq_true, if_false]
  refine wpAny_pure ?_
  simp only [Bool.false_eq_true, if_false]
  refine wpAny_bind (LI.here ?_)
  simp only [if_true]
  refine wpAny_pure ?_
  rw [show (Value.ref b == Value.none) = false from rfl]
  simp only [Bool.false_eq_true, if_false]
  refine wpAny_bind (wpAny_holding ?_)
  refine wpAny_bind (wpAny_bind (nota hb hdb ?_))
  simp only [Bool.false_eq_true, if_false]
  refine wpAny_pure ?_
  simp only [Bool.false_eq_true, if_false]
  refine wpAny_bind (LJ.here ?_)
  simp only [if_true]
  refine wpAny_pure ?_
  first
  | exact wpAny_bind (wpAny_setField ha hd s3 (wpAny_bind (wpAny_setField g3 d3 s4 rest)))
  | exact wpAny_bind (wpAny_bind (wpAny_setField ha hd s3 (wpAny_setField g3 d3 s4 rest)))
end
section
variable {X : Cx} {CX : CXT} {C g : Addr} {k j : Nat} {fd : FuncData} {ps : List Str} {sp : Sp} {x : Str} {e : Expr} {es : List Expr} {ta : TA} {p pos : Pos}
/-- an expression that makes an exception whose record has its six fields -/
def PMkS (X : Cx) (e : Expr) (t : L2.St → Hp → XK → Prop) : Prop := ∀ (pn : List (Addr × Obj)) (s : Shared) (σ : L2.St) (H : Hp) (Q : XK), Inv X pn σ H s → t σ H Q → wpAny (model X.prog X.w) X.A (eval e X.env) (fun u z => MkP X pn σ Q u z ∧ L2H.Six u z) X.xe s
/-- C(e, ..) of an own class over ValueError; its record has its six fields -/
theorem made6 (T : OexC X.K C) (fi : PySem.W.findIn X.K (.ref C) "__init__" = some (some (.ref g))) (ty : PySem.W.typeIn X.K (.ref g) = some (.type "function")) (Fn : FnOk X.prog X.w X.K X.mg X.base CX0 k g fd ps sp) (hr : Room j X.A) (hk : k + 1 ≤ j) (B : Binds X.K fd ps [])
    (hg : Gl X x) (hm : X.mg x = some (.ref C)) (pa : PA X (e :: es) ta) (hdb : (x == ("__debug__" : Str)) = false := by decide) (hst : starEach (e :: es) X.env = (false, eval e X.env) :: starEach es X.env := by rfl) (hpl : (backTo pos (starEach es X.env)).any (·.1) = false := by rfl) :
    PMkS X (.Call (.Name x p) (e :: es) [] pos) (tMkO C sp [] ta) := by
  intro pn z0 sg H0 Qx I0 w0
  obtain ⟨nm, q, N, bs, bm, sn, sub, ab, col, dd, k0, k1, k2, k3, k5, lkC, bmE⟩ := T.cls
  refine wpAny_Call_Name_kw (ld_glob I0 hg hm ?_ hdb)
  refine PySem.W.callWith_K (h₀ := X.base) I0.ok.mod.kin T.kC (thn (pa.run pos pn z0 sg H0 _ I0 w0) fun us z1 ⟨vs, Ha, Ia, ra, la, qa⟩ => ⟨Ia.kIn, ?_⟩) hst hpl
  show wpAny _ _ (call (.ref C) us) _ _ _
  obtain ⟨hz, gz, dz, tz, oz⟩ := z1
  have le1 : hz.objs.size ≤ hz.objs.size + 1 := Nat.le_succ _
  have fresh := Ia.hok.fresh le1
  have want := qa (hz.objs.size + 1) fresh
  have kp : ∀ b o, hz.get? b = some o → ((hz.push (PySem.W.kdv_tup us)).push (PySem.HandSPX.excO C hz.objs.size)).get? b = some o := fun b o e => Heap.get?_push_of_some _ (Heap.get?_push_of_some _ e)
  have at2 : ((hz.push (PySem.W.kdv_tup us)).push (PySem.HandSPX.excO C hz.objs.size)).get? (hz.objs.size + 1) = some (PySem.HandSPX.excO C hz.objs.size) := by heap_get
  have Ib : Inv X pn sg (upd Ha (hz.objs.size + 1) (exo (hz.objs.size + 1) C none)) ⟨((hz.push (PySem.W.kdv_tup us)).push (PySem.HandSPX.excO C hz.objs.size)), gz, dz, tz, oz⟩ := Ia.laid (t' := tz) (a := hz.objs.size + 1) (o := exo (hz.objs.size + 1) C none) (h' := ((hz.push (PySem.W.kdv_tup us)).push (PySem.HandSPX.excO C hz.objs.size))) kp le1 (exo_ok at2)
  have rb : Vals (V.ref (hz.objs.size + 1) :: (vs ++ [])) (Value.ref (hz.objs.size + 1) :: (us ++ [])) := .cons rfl (ra.append .nil)
  have lb : (Value.ref (hz.objs.size + 1) :: us ++ []).length = ps.length := by
    have z := rb.length
    rw [Fn.len _ _ _ _ want] at z
    exact z.symm
  have bb : BindsTo ⟨((hz.push (PySem.W.kdv_tup us)).push (PySem.HandSPX.excO C hz.objs.size)), gz, dz, tz, oz⟩ fd ⟨Value.ref (hz.objs.size + 1) :: us, []⟩ (ps.zip (Value.ref (hz.objs.size + 1) :: (us ++ []))) := B _ (Value.ref (hz.objs.size + 1) :: us) Ib.kIn lb
  have lus : us.length ≤ sizeLine := by
    rw [← Paired.length ra, sizeLine_eq]; omega
  refine wpAny_call (PySem.HandSPX.call_own F.excBase_ValueError (fun Y => PySem.HandSPX.refsVE_contains Y bm bmE) (Ia.kIn _ _ lkC) (PySem.W.looks_findIn Ia.kIn fi) (fun self => PySem.W.bind_fn Ia.kIn self ty) lus
    (codeAny_mono (Fn.run _ X.stack _ _ ⟨Value.ref (hz.objs.size + 1) :: us, []⟩ (Value.ref (hz.objs.size + 1) :: (us ++ [])) _ _ (fun _ _ _ => False) ((hr.mono hk).make C us []) (Ib.env0.make C us []) bb rb want) fun r z3 hq => ?_))
  match r, hq with
  | .error er, hq => exact hq.elim
  | .ok (.ret u), hq =>
    obtain ⟨v, H3, os3, bare3, un3, hok3, rv, ev, d, fs, ea, ed, hd1, q3⟩ := hq
    subst ev
    obtain ⟨h3, g3, d3, t3, o3⟩ := z3
    obtain ⟨t0, hoe⟩ := exo_at hok3 ea
    refine ⟨rv, mk_end (raises_own T.exC T.tyC) Ia le1 kp un3 hok3 os3 bare3 ea ed hd1 q3, fun a' oe' vs' e1 e2 e3 => ?_⟩
    cases e1
    have e4 := hoe.symm.trans e2
    cases e4
    cases e3
    show (4 : Nat) < 6
    decide
  | .ok .next, hq | .ok .brk, hq | .ok .cont, hq => exact hq.elim
/-- raise e from c -/
theorem ps_raiseFrom {W : WX} {c : Expr} {te tc : L2.St → Hp → XK → Prop} (hc : X.calm = true) (hex : X.ex = []) (tk : Takes X W) (he : PMkS X e te) (hcs : PMk X c tc) :
    PS X (.Raise (some e) (some c) pos) (fun _ σ H => te σ H fun cls d H1 => tc σ H1 fun _ _ H2 => W cls d σ H2) := by
  refine ⟨fun pins s σ H D I h => ?_⟩
  show wpAny _ _ (do standAt pos; raiseStmt X.env (some (do let v ← eval e X.env; standAt pos; pure v)) (some (do let v ← eval c X.env; standAt pos; pure v))) _ _ _
  refine wpAny_bind (wpAny_standAt (raise_cause (I.ok.hd hc) (wpAny_bind (wpAny_mono (he pins s σ H _ I h) (fun u s1 hu => wpAny_bind (wpAny_standAt (wpAny_pure ?_))) fun _ _ x => x))))
  obtain ⟨⟨a, oe, vs, sI, H1, cls, d, rfl, J, kI, hne, ha, hz, hd, h1, na, os, ag, r, q⟩, h6⟩ := hu
  have hi : 4 < vs.size := h6 a oe vs rfl ha hd
  have J1 : Inv X pins σ H1 s1 := J.call' (ch := []) os (Un.kept kI) (J.hok.kept kI) ag (fun b z => absurd z (by simp))
  have s0 : X.s_0.heap.get? a = none := by
    cases z : X.s_0.heap.get? a with
    | none => rfl
    | some o =>
      obtain ⟨o', z'⟩ := J.base.there a o z (by rw [hex]; simp)
      rw [hne] at z'; cases z'
  have nl : a ≠ X.env.locals := fun z => by
    obtain ⟨m, ⟨o, _, _, e', _⟩, _⟩ := J.loc
    rw [← z, hne] at e'; cases e'
  have nf : a ∉ X.fs := fun hm => by
    obtain ⟨_, o', e', _⟩ := J.ok.funs.mem hm
    rw [s0] at e'; cases e'
  have nc : ∀ x c, X.env.cells.lookup x = some c → c ≠ a := fun x c z q => by
    obtain ⟨v, o, e', _⟩ := J.cell x c z
    rw [q, hne] at e'; cases e'
  have np : ∀ p ∈ X.pn ++ pins, p.1 ≠ a := fun p hp q => by
    have z := (J.pin p hp).1
    rw [q, hne] at z; cases z
  have J2 := pin1 J1 ha na nl nf (fun v z => by rw [hd] at z; cases z)
  refine wpAny_bind (wpAny_mono (hcs ((a, oe) :: pins) s1 σ H1 _ J2 q) (fun u s2 hu2 => wpAny_bind (wpAny_standAt (wpAny_pure ?_))) fun _ _ x => x)
  obtain ⟨b, ob, ws, sJ, H2, cb, db, rfl, K2, k2, hnb, hb, hzb, hdb, hb1, nb, os2, ag2, rb, q2⟩ := hu2
  obtain ⟨pa, na2, _⟩ := K2.pin (a, oe) (List.mem_append_right _ List.mem_cons_self)
  have ha2 : s2.heap.get? a = some oe := k2 _ _ pa
  obtain ⟨G, g1, g2⟩ := restrict sJ.heap fun b => decide (b ≠ a)
  have gk : ∀ b, b ≠ a → G.get? b = sJ.heap.get? b := fun b hb => g1 b (decide_eq_true hb)
  have ge : G.get? a = none := g2 a (by simp)
  have K3 : Inv X pins σ H2 { sJ with heap := G } := unseen (unpin1 K2) s0 na2 nl nc np gk
  obtain ⟨g4, d4⟩ := tied_at (u := .ref b) ha2 hd
  have kG : ∀ b' o, G.get? b' = some o → (tied s2.heap a (.ref b)).get? b' = some o := fun b' o z => by
    have n : b' ≠ a := fun y => by rw [y, ge] at z; cases z
    rw [tied_other (Ne.symm n)]
    exact k2 _ _ ((gk b' n).symm.trans z)
  have h14 : ((vs.setIfInBounds 3 (Value.ref b)).setIfInBounds 4 (Value.bool true))[1]? = some Value.none := HotX.set_other (by decide) (HotX.set_other (by decide) h1)
  exact ⟨a, oe, vs, cls, b, ob, ws, cb, rfl, rfl, ha2, hz.1, hd, h1, hi, hb, hzb.1, hdb, (r (model X.prog X.w) _ (K2.kIn.keeps k2)).1, (rb (model X.prog X.w) _ (K2.kIn.keeps k2)).1, (r (model X.prog X.w) _ (K3.kIn.keeps kG)).2,
    tk _ _ (XE.new K3 kG ge g4 ⟨by rw [Obj.cls_mapFields, Obj.cls_mapFields]; exact hz.1, by rw [HandSPX.dict_mapFields, HandSPX.dict_mapFields]; exact hz.2⟩ d4 h14 na2 os2 ag2 q2)⟩
end
end UW

set_option Elab.async false
set_option linter.all false
set_option maxRecDepth 100000
set_option maxHeartbeats 4000000
/-! a def that is handed a caught exception, called in the suite that caught it -/
namespace UW
open PySem PySem.Spec PyProof.Rows L2 UL UV
abbrev SpP := (Addr × Obj) → Sp
/-- what the def at f promises of the thing p, which is not tracked -/
structure FnP (P : Program) (w : World) (K : PySem.W.Frag) (mg : Str → Option Value) (base : Heap) (k : Nat) (f : Addr) (fd : FuncData) (ps : List Str) (sp : SpP) : Prop where
  len : ∀ p vs H Q E, sp p vs H Q E → vs.length = ps.length
  run : ∀ (p : Addr × Obj) (A : Around) (outer : List Env) (s : Shared) (H : Hp) (args : Args) (us : List Value) (vs : List V) (Q : VK) (E : XK), L2H.RoomH k A → L2H.PinOk outer H s p → Env0 P w K mg base A outer s H → BindsTo s fd args (ps.zip us) → Vals vs us → sp p vs H Q E →
    codeAny (model P w) A (.call (.ref f) args) (CR CX0 outer P w H s Q E) s
theorem fn_ofP {P : Program} {w : World} {K : PySem.W.Frag} {mg : Str → Option Value} {base : Heap} {k : Nat} {f : Addr} {name qual : Str} {params : Arguments} {body : List Stmt} {scope : Scope} {dV kV doc pm cdv ct oc : Value} {an od : Option Addr}
    {osl : Array (Option Value)} {N ps : List Str} {sp : SpP} (look : K.lookup f = some ⟨oc, od, .func (PySem.W.fnOf name qual params body scope dV kV doc pm an cdv ct), osl⟩) (cod : PySem.W.codeIn K cdv qual = true) (S : FnScope N ps scope)
    (len : ∀ p vs H Q E, sp p vs H Q E → vs.length = ps.length)
    (inner : ∀ (p : Addr × Obj) (A : Around) (outer : List Env) (s : Shared) (H : Hp) (vs : List V) (Q : VK) (E : XK), L2H.RoomH k (A.deeper (envOfC qual scope s.heap.objs.size f cdv)) → sp p vs H Q E →
      ∃ t, PSs (L2H.cxH CX0 P w K mg base N qual scope f cdv A outer s H E p) body t ∧ t { nx := fun _ H' => Q .non H', rt := Q } (L2.start N vs) H) :
    FnP P w K mg base (k + 1) f (PySem.W.fnOf name qual params body scope dV kV doc pm an cdv ct) ps sp := by
  refine ⟨len, fun p A outer s H args us vs Q E room pin en bind rel want => ?_⟩
  have ln := len _ _ _ _ _ want
  have KX : K.In s.heap := en.mod.kin.keeps fun b o e => (en.bs b o e).1
  have lim : s.heap.NoLimit := en.mod.nolimit.keeps fun b o e => (en.bs b o e).1
  have kinds : ∀ y ∈ ps.zip us, scope.names.lookup y.1 = some .local ∨ (scope.names.lookup y.1 = some .cell ∧ ((cellsFrom (s.heap.objs.size + 1) scope.names []).lookup y.1).isSome = true) := fun ⟨n, v⟩ hy => (S.par n (List.of_mem_zip hy).1).elim .inl fun q => .inr ⟨q, PySem.W.cellsFrom_some _ _ _ (.inl q)⟩
  refine codeAny_call_function room.depth (KX _ _ look) rfl S.co S.gen rfl (PySem.W.codeRec_of KX cod) (bind _ _ _ _ (wpAny_newFunctionEnv_cells S.kind kinds fun env he s1 x => ?_))
  subst he
  refine ⟨lim.keeps x.toInCall.keep, codeAny_func ?_⟩
  obtain ⟨t, ht, ok⟩ := inner p A outer s H vs Q E (room.deeper _) want
  have J0 : Inv (L2H.cxH CX0 P w K mg base N qual scope f cdv A outer s H E p) [] (L2.start N vs) H s1 := L2H.inv_startH S pin en ln rel x
  refine wpAny_mono (ht.run [] s1 (L2.start N vs) H _ J0 ok) (fun fl z hz => ?_) fun _ _ hz => hz
  match fl, hz with
  | .ret u, hz => obtain ⟨v, σ', H', J, rv, q⟩ := hz; exact ⟨v, H', J.os, J.bare, J.base, J.hok, rv, q⟩
  | .next, hz => obtain ⟨σ', H', J, q⟩ := hz; exact ⟨V.non, H', J.os, J.bare, J.base, J.hok, rfl, q⟩
  | .brk, hz | .cont, hz => obtain ⟨_, _, _, q⟩ := hz; exact q.elim
structure DnP (P : Program) (w : World) (K : PySem.W.Frag) (mg : Str → Option Value) (base : Heap) (k : Nat) (x : Str) (sp : SpP) : Prop where
  ex : ∃ (f : Addr) (fd : FuncData) (ps : List Str), FnP P w K mg base k f fd ps sp ∧ mg x = some (.ref f) ∧ PySem.W.keepIn K (.ref f) = true ∧ Binds K fd ps []
theorem TD_dp {P : Program} {w : World} {K : PySem.W.Frag} {mg : Str → Option Value} {base : Heap} {x : Str} {st : Stmt} {N ps : List Str} {k : Nat} {sp : SpP} (D : TD K mg x st) (S : FnScope N ps (defScope st)) (b : BindOk x x st ps) (len : ∀ p vs H Q E, sp p vs H Q E → vs.length = ps.length)
    (inner : ∀ (f : Addr) (cdv : Value) (p : Addr × Obj) (A : Around) (outer : List Env) (s : Shared) (H : Hp) (vs : List V) (Q : VK) (E : XK), L2H.RoomH k (A.deeper (envOfC x (defScope st) s.heap.objs.size f cdv)) → sp p vs H Q E →
      ∃ t, PSs (L2H.cxH CX0 P w K mg base N x (defScope st) f cdv A outer s H E p) (defBody st) t ∧ t { nx := fun _ H' => Q .non H', rt := Q } (L2.start N vs) H) : DnP P w K mg base (k + 1) x sp := by
  obtain ⟨f, fd, F, hm⟩ := D.ex
  have hb := F.binds b
  have kp := F.kp
  obtain ⟨oc, od, kV, doc, pm, an, cdv, ct, osl, e, lk, hcd⟩ := F.ex
  subst e
  exact ⟨f, _, ps, fn_ofP lk hcd S len fun p A outer s H vs Q E hr h => inner f cdv p A outer s H vs Q E hr h, hm, kp, hb⟩
section
variable {X : Cx} {k j : Nat} {sp : SpP} {x : Str} {p pos : Pos} {e : Expr} {es : List Expr} {t : TA} {a : Addr} {oe : Obj} {pn : List (Addr × Obj)}
theorem roomS {X : Cx} {a : Addr} {pn : List (Addr × Obj)} {j : Nat} (hr : Room j X.A) : L2H.RoomH j (X.suite a pn).A := ⟨hr.dp, hr.un⟩
theorem callS {Y : Cx} {pins : List (Addr × Obj)} {σ : L2.St} {H : Hp} {s : Shared} {Q : VK} {f : Addr} {fd : FuncData} {ps : List Str} {us : List Value} {vs : List V} (F : FnP Y.prog Y.w Y.K Y.mg Y.base k f fd ps sp) (hr : L2H.RoomH k Y.A) (hb : Binds Y.K fd ps []) (hp : (a, oe) ∈ Y.pn) (I : Inv Y pins σ H s) (r : Vals vs us)
    (q : sp (a, oe) vs H Q E0) : wpAny (model Y.prog Y.w) Y.A (call (.ref f) us) (EP Y pins σ Q) Y.xe s := by
  have lu : us.length = ps.length := by rw [← r.length]; exact F.len _ _ _ _ _ q
  have bb := hb s us I.kIn (by rw [List.append_nil]; exact lu)
  rw [List.append_nil] at bb
  obtain ⟨g1, g2, g3, g4, g5⟩ := I.pin (a, oe) (List.mem_append_left _ hp)
  have pin : L2H.PinOk Y.stack H s (a, oe) := ⟨g1, g2, fun hm => (List.mem_cons.mp (I.stkSub a hm)).elim g3 g4, g5⟩
  refine wpAny_call (codeAny_mono (F.run (a, oe) Y.A Y.stack s H ⟨us, []⟩ us vs Q E0 hr pin I.env0 bb r q) fun r s' hq => ?_)
  match r, hq with
  | .error er, hq => exact hq.elim
  | .ok (.ret z), hq => exact I.after hq
  | .ok .next, hq | .ok .brk, hq | .ok .cont, hq => exact hq.elim
/-- f(e) of the caught exception, in its suite -/
def tCallS (sp : SpP) (a : Addr) (cls : Value) (d : Option Addr) (t : TA) : TE := fun σ H Q => t σ H fun vs H1 => ∀ oe : Obj, Zc cls d oe → (∃ zs, oe.data = .fields zs) → sp (a, oe) vs H1 Q E0
theorem pe_dS {cls : Value} {dd : Option Addr} (d : DnP X.prog X.w X.K X.mg X.base k x sp) (hr : Room j X.A) (hk : k ≤ j) (hz : Zc cls dd oe) (hf : ∃ zs, oe.data = .fields zs) (hg : Gl X x) (ha : PA (X.suite a ((a, oe) :: pn)) (e :: es) t) (hdb : (x == ("__debug__" : Str)) = false := by decide)
    (he : starEach (e :: es) X.env = (false, eval e X.env) :: starEach es X.env := by rfl) (hpl : (backTo pos (starEach es X.env)).any (·.1) = false := by rfl) : PE (X.suite a ((a, oe) :: pn)) (.Call (.Name x p) (e :: es) [] pos) (tCallS sp a cls dd t) := by
  obtain ⟨f, fd, ps, F, hm, hkp, hb⟩ := d.ex
  refine ⟨fun pins s σ H Q I h => wpAny_Call_Name_kw (ld_glob (X := X.suite a ((a, oe) :: pn)) I hg hm (PySem.W.callWith_K (h₀ := X.base) I.ok.mod.kin hkp (thn (ha.run pos pins s σ H _ I h) fun us s1 ⟨vs, H1, I1, r, q⟩ => ⟨I1.kIn, ?_⟩) he hpl) hdb)⟩
  exact callS F ((roomS hr).mono hk) hb List.mem_cons_self I1 r (q oe hz hf)
/-- isinstance of a thing that is pinned -/
theorem call_isP {cls : Value} {d : Option Addr} (hp : (a, oe) ∈ X.pn) (hz : Zc cls d oe) (hf : ∃ vs, oe.data = .fields vs) : CallR X (.builtin "isinstance") (rIsX X.K a cls d) := by
  intro pins s σ H xs us Q I r h
  obtain ⟨D, dx, fs, c, cv, b, rfl, rfl, hdx, ec, rfl, hcv, e, q⟩ := h
  obtain ⟨u1, u2, rfl, ru1, ru2⟩ := vals2 r
  cases ru1
  have e2 := hcv _ ru2
  subst e2
  obtain ⟨hg, _⟩ := I.pin (a, oe) (List.mem_append_left _ hp)
  obtain ⟨vs, hv⟩ := hf
  have hx : ObjOk X.prog X.w H s.heap dx (.xd fs) := I.hok dx _ hdx
  obtain ⟨mA, hns, _⟩ := hx
  obtain ⟨od, ho, _⟩ := L2.lookIn_ns hns
  have J : PySem.W.InstAt s.heap a oe D (some od) := ⟨hg, hz.1, by unfold PySem.W.notCls; rw [hv] <;> rfl, by rw [hz.2]; exact ho⟩
  exact PySem.W.kia_one (kx_exc ec) I.kIn J e (fun z => nomatch z) fun tk => ⟨.bl b, H, I.kept (t' := tk) fun _ _ z => z, rfl, q⟩
end
end UW

set_option Elab.async false
set_option linter.all false
set_option maxRecDepth 100000
set_option maxHeartbeats 4000000
/-! {x} of None; == of flat lists and tuples of ints, texts and None -/
namespace UW
open PySem PySem.Spec PyProof.Rows L2 UL UV
section
variable {X : Cx}
/-- {x}: a text, an int, None -/
def tFmtN (te : TE) : TE := fun σ H Q => te σ H fun x H1 => (∃ y : Str, x = .str y ∧ y.length ≤ sizeLine ∧ Q (.str y) H1) ∨ (∃ i : Int, x = .int i ∧ i.natAbs.log2 < 1920 ∧ Q (.str (toString i)) H1) ∨ (x = .non ∧ Q (.str "None") H1)
theorem pe_fmtN {e : Expr} {te : TE} {pos : Pos} (he : PE X e te) : PE X (.FormattedValue e (-1) none pos) (tFmtN te) := by
  refine ⟨fun pins s σ H Q I h => wpAny_FormattedValue_plain (thn (he.run pins s σ H _ I h) fun v s1 ⟨x, H1, I1, r1, q⟩ => ?_)⟩
  rcases q with ⟨y, rfl, hz, q⟩ | ⟨i, rfl, hz, q⟩ | ⟨rfl, q⟩
  · obtain ⟨t, rfl⟩ := r1
    exact wpAny_formatField_str ⟨.str y, H1, I1, ⟨t, rfl⟩, q⟩ ⟨.str y, H1, I1.tok _, ⟨_, rfl⟩, q⟩ hz
  · obtain ⟨t, rfl⟩ := r1
    exact wpAny_formatField_int hz ⟨.str (toString i), H1, I1.tok _, ⟨_, rfl⟩, q⟩
  · obtain rfl : v = Value.none := r1
    exact wpAny_formatField_none ⟨.str "None", H1, I1.tok _, ⟨_, rfl⟩, q⟩
end
section
variable {K : PySem.W.Frag} {H : Hp} {Q : VK} {a b : Addr} {xs ys : List V}
def fl3 : V → Bool
  | .int _ => true
  | .str x => PyData.strOk x
  | .non => true
  | _ => false
theorem fl3_of {xs : List V} (h : xs.all fl2 = true) : xs.all fl3 = true := by
  rw [List.all_eq_true] at h ⊢
  intro v hv
  have := h v hv
  cases v <;> simp_all [fl2, fl3]
theorem d3_dp {v : V} (h : fl3 v = true) : Dp K H v (dV v) := by
  cases v <;> first | exact .int _ | exact .str _ | exact .non | exact nomatch h
theorem d3_all : ∀ {xs : List V}, xs.all fl3 = true → DpAll K H xs (xs.map dV)
  | [], _ => .nil
  | x :: r, h => by
    rw [List.all_cons, Bool.and_eq_true] at h
    exact .cons (d3_dp h.1) (d3_all h.2)
theorem d3_shape : ∀ {xs : List V}, xs.all fl3 = true → PyData.canLayAll0 (xs.map dV) = true ∧ PyData.depthAll (xs.map dV) ≤ 1
  | [], _ => by simp [PyData.canLayAll0, PyData.depthAll]
  | x :: r, h => by
    rw [List.all_cons, Bool.and_eq_true] at h
    have ih := d3_shape (xs := r) h.2
    have h0 : PyData.canLay0 (dV x) = true ∧ PyData.depth (dV x) ≤ 1 := by cases x <;> simp_all [dV, fl3, PyData.canLay0, PyData.depth]
    simp only [List.map_cons, PyData.canLayAll0, PyData.depthAll, h0.1, ih.1, Bool.and_self, true_and]
    omega
theorem d3_eq {x y : V} (hx : fl3 x = true) (hy : fl3 y = true) : PyData.eqv (dV x) (dV y) = decide (x = y) := by
  cases x <;> cases y <;> simp_all [fl3, dV, PyData.eqv] <;> rw [Bool.eq_iff_iff] <;> simp
theorem d3_eqAll : ∀ {xs ys : List V}, xs.all fl3 = true → ys.all fl3 = true → PyData.eqvAll (xs.map dV) (ys.map dV) = decide (xs = ys)
  | [], [], _, _ => by simp [PyData.eqvAll]
  | [], _ :: _, _, _ => by simp [PyData.eqvAll]
  | _ :: _, [], _, _ => by simp [PyData.eqvAll]
  | x :: r, y :: t, h1, h2 => by
    rw [List.all_cons, Bool.and_eq_true] at h1 h2
    rw [List.map_cons, List.map_cons, PyData.eqvAll, d3_eq h1.1 h2.1, d3_eqAll h1.2 h2.2, Bool.eq_iff_iff]
    simp
theorem l3_shape {xs : List V} (hf : xs.all fl3 = true) : SeqAt.shaped (.list (xs.map dV)) = true ∧ SeqAt.shaped (.tuple (xs.map dV)) = true := by
  have h := d3_shape hf
  have h2 := h.2
  have h1 : PyData.canLay0 (.list (xs.map dV)) = true := by rw [PyData.canLay0]; exact h.1
  have h3 : PyData.depth (.list (xs.map dV)) ≤ 64 := by rw [PyData.depth]; omega
  have h4 : PyData.canLay0 (.tuple (xs.map dV)) = true := by rw [PyData.canLay0]; exact h.1
  have h5 : PyData.depth (.tuple (xs.map dV)) ≤ 64 := by rw [PyData.depth]; omega
  refine ⟨?_, ?_⟩
  · show (_ && _) = true
    rw [h1, decide_eq_true h3]; rfl
  · show (_ && _) = true
    rw [h4, decide_eq_true h5]; rfl
/-- == and != of two lists, two tuples -/
theorem eqL3 (hx : xs.all fl3 = true) (hy : ys.all fl3 = true) (ha : SqL K H a xs) (hb : SqL K H b ys) (q : Q (.bl (decide (xs = ys))) H) : rEqA K (.ref a) (.ref b) H Q :=
  .inr ⟨_, _, .lst ha (d3_all hx), .lst hb (d3_all hy), (l3_shape hx).1, (l3_shape hy).1, by rw [PyData.eqv, d3_eqAll hx hy]; exact q⟩
theorem neL3 (hx : xs.all fl3 = true) (hy : ys.all fl3 = true) (ha : SqL K H a xs) (hb : SqL K H b ys) (q : Q (.bl (!decide (xs = ys))) H) : rNeA K (.ref a) (.ref b) H Q :=
  .inr ⟨_, _, .lst ha (d3_all hx), .lst hb (d3_all hy), (l3_shape hx).1, (l3_shape hy).1, by rw [PyData.eqv, d3_eqAll hx hy]; exact q⟩
theorem eqT3 (hx : xs.all fl3 = true) (hy : ys.all fl3 = true) (ha : SqT K H a xs) (hb : SqT K H b ys) (q : Q (.bl (decide (xs = ys))) H) : rEqA K (.ref a) (.ref b) H Q :=
  .inr ⟨_, _, .tup ha (d3_all hx), .tup hb (d3_all hy), (l3_shape hx).2, (l3_shape hy).2, by rw [PyData.eqv, d3_eqAll hx hy]; exact q⟩
theorem neT3 (hx : xs.all fl3 = true) (hy : ys.all fl3 = true) (ha : SqT K H a xs) (hb : SqT K H b ys) (q : Q (.bl (!decide (xs = ys))) H) : rNeA K (.ref a) (.ref b) H Q :=
  .inr ⟨_, _, .tup ha (d3_all hx), .tup hb (d3_all hy), (l3_shape hx).2, (l3_shape hy).2, by rw [PyData.eqv, d3_eqAll hx hy]; exact q⟩
theorem eqSS {x y : Str} (h1 : x.length ≤ sizeLine) (q : Q (.bl (decide (x = y))) H) : rEqA K (.str x) (.str y) H Q := by
  have e : (x == y) = decide (x = y) := by rw [Bool.eq_iff_iff]; simp
  first
  | exact .inl ⟨rfl, by simpa using q⟩
  | exact .inl ⟨rfl, by rw [e]; exact q⟩
  | exact .inl ⟨rfl, q⟩
end
end UW

set_option Elab.async false
set_option linter.all false
set_option maxRecDepth 100000
set_option maxHeartbeats 4000000
/-! with an own context manager, whose block may raise -/
namespace UW
open PySem PySem.Spec PyProof.Rows L2 UL UV
section
variable {prog : Program} {w : World} {A : Around} {E : Value → Shared → Prop} {s : Shared} {env : Env} {K : PySem.W.Frag} {x C fe fx : Addr} {ox : Obj} {od : Option Obj} {pos : Pos}
/-- what is asked where the block let u out -/
def OutX (prog : Program) (w : World) (A : Around) (E : Value → Shared → Prop) (env : Env) (x fx : Addr) (Q : Flow → Shared → Prop) (u : Value) (s : Shared) : Prop :=
  wpAny (model prog w) A (noteFrame u env) (fun _ s5 => wpAny (model prog w) A (setFlight u none) (fun _ s6 => ∃ a oe vs T oT ts cls, u = .ref a ∧ s6.heap.get? a = some oe ∧ oe.cls = cls ∧ oe.data = .fields vs ∧ vs[1]? = some (.ref T) ∧ s6.heap.get? T = some oT ∧ oT.data = .fields ts ∧ 3 < ts.size ∧
    ∀ tv, tv = Value.none ∨ tv = .ref T → codeAny (model prog w) (A.mark (some u)) (.call (.ref fx) ⟨[.ref x, cls, u, tv], []⟩) (fun r s7 => match r with | .ok (.ret v) => v = .none ∧ wpAny (model prog w) A (PySem.passOn "with" u env : Sem Flow) Q E s7 | .ok _ => False | .error e => E e s7) s6) E s5) E s
theorem with_core {bdy : Sem Flow} {Q : Flow → Shared → Prop} (X : K.In s.heap) (I : PySem.W.InstAt s.heap x ox C od) (he : PySem.W.findIn K (.ref C) "__enter__" = some (some (.ref fe))) (hfe : PySem.W.isFn K (.ref fe) = true) (hx : PySem.W.findIn K (.ref C) "__exit__" = some (some (.ref fx))) (hfx : PySem.W.isFn K (.ref fx) = true)
    (h : wpAny (model prog w) A (call (.ref fe) [.ref x]) (fun v s₂ => wpAny (model prog w) A bdy (fun f s₄ => wpAny (model prog w) A (call (.ref fx) [.ref x, .none, .none, .none]) (fun _ s₅ => Q f s₅) E s₄) (OutX prog w A E env x fx Q) s₂) E s) :
    wpAny (model prog w) A (withItem false pos env (pure (.ref x)) none bdy) Q E s := by
  obtain ⟨cd, hcd, ae⟩ := PySem.W.kw_along he
  obtain ⟨cd', hcd', ax⟩ := PySem.W.kw_along hx
  cases hcd.symm.trans hcd'
  obtain ⟨hh, g, d, tt, os⟩ := s
  have L1 : PySem.W.Looks (model prog w) hh (specialOnItsLine (.ref x) "__enter__") (some (.ref fe), cd.mro) := PySem.W.kw_special X I hcd ae
  have L2 : PySem.W.Looks (model prog w) hh (specialOnItsLine (.ref x) "__exit__") (some (.ref fx), cd.mro) := PySem.W.kw_special X I hcd ax
  have L3 : PySem.W.Looks (model prog w) hh (bindSpecial (.ref fe) (.ref x)) (.ref fe, [.ref x]) := PySem.W.bind_fn X _ (beq_iff_eq.mp hfe)
  have L4 : PySem.W.Looks (model prog w) hh (bindSpecial (.ref fx) (.ref x)) (.ref fx, [.ref x]) := PySem.W.bind_fn X _ (beq_iff_eq.mp hfx)
  have L5 : PySem.W.Looks (model prog w) hh (aMethodOfAnotherBuiltinTypeStops (.ref fe) cd.mro) () := PySem.W.Looks.of_pure rfl
  have L6 : PySem.W.Looks (model prog w) hh (aMethodOfAnotherBuiltinTypeStops (.ref fx) cd.mro) () := PySem.W.Looks.of_pure rfl
  unfold withItem
  refine wpAny_bind (wpAny_pure (wpAny_bind (wpAny_standAt ?_)))
  simp only [Bool.false_eq_true, if_false]
  kw_lk
  refine wpAny_mono h (fun v s₂ h₂ => ?_) fun _ _ z => z
  kw_lk
  refine wpAny_attempt (PySem.W.kw_held ?_)
  show wpAny _ _ bdy _ _ _
  refine wpAny_mono h₂ (fun f s₄ h₄ => ?_) fun u s₄ h₄ => ?_
  · kw_lk
    refine wpAny_mono h₄ (fun _ s₅ h₅ => ?_) fun _ _ z => z
    kw_lk
    exact h₅
  · show wpAny _ _ (noteFrame u env >>= _) _ _ _
    refine wpAny_bind (wpAny_mono h₄ (fun _ s5 h5 => wpAny_bind (wpAny_mono h5 (fun _ s6 h6 => wpAny_bind (wpAny_standAt (wpAny_holding ?_))) fun _ _ z => z)) fun _ _ z => z)
    obtain ⟨a, oe, vs, T, oT, ts, cls, rfl, ha, hc, hd, h1, hT, hdT, h3, hcode⟩ := h6
    refine wpAny_bind (wpAny_typeOf_ref ha ?_)
    rw [hc]
    have rest : ∀ tv, tv = Value.none ∨ tv = .ref T → wpAny (model prog w) A (withItem.marked (.ref a) (Code.call (.ref fx) ⟨[.ref x] ++ [cls, .ref a, tv], []⟩)) (fun r s7 => r = .none ∧ wpAny (model prog w) A (PySem.passOn "with" (.ref a) env : Sem Flow) Q E s7) E s6 := fun tv htv => by
      unfold withItem.marked
      refine wpAny_bind (wpAny_run (codeAny_mono (hcode tv htv) fun r s7 z => ?_) (by intro z; cases z))
      match r, z with
      | .ok (.ret v), z => exact wpAny_pure z
      | .error e, z => exact z
      | .ok .next, z | .ok .brk, z | .ok .cont, z => exact z.elim
    obtain ⟨y, hy⟩ : ∃ y, ts[1]? = some y := ⟨ts[1], by simp [show 1 < ts.size by omega]⟩
    unfold tracebackOf
    refine wpAny_bind (wpAny_bind (wpAny_field ha hd h1 ?_))
    dsimp only
    refine wpAny_bind (wpAny_field hT hdT hy ?_)
    by_cases q : (y == Value.none) = true
    · rw [if_pos q]
      refine wpAny_pure (wpAny_bind (wpAny_mono (rest _ (.inl rfl)) (fun r s7 hz => ?_) fun _ _ z => z))
      obtain ⟨rfl, z⟩ := hz
      refine wpAny_bind (wpAny_pure ?_)
      dsimp only
      refine wpAny_bind (wpAny_pure ?_)
      rw [if_neg (by decide)]
      exact z
    · rw [if_neg q]
      refine wpAny_pure (wpAny_bind (wpAny_mono (rest _ (.inr rfl)) (fun r s7 hz => ?_) fun _ _ z => z))
      obtain ⟨rfl, z⟩ := hz
      refine wpAny_bind (wpAny_pure ?_)
      dsimp only
      refine wpAny_bind (wpAny_pure ?_)
      rw [if_neg (by decide)]
      exact z
end
section
variable {X : Cx} {k j : Nat} {C fe fx : Addr} {fde fdx : FuncData} {pse psx : List Str} {spe : Sp} {spx : Sp} {Wout : WX}
/-- behind the block: __exit__ with three None, then what was due -/
def exW (spx : Sp) (m : Addr) (R : Hp → Prop) (H : Hp) : Prop := spx [.ref m, .non, .non, .non] H (fun v H3 => v = .non ∧ R H3) E0
def exO (spx : Sp) (m : Addr) (D : Ends) : Ends := ⟨fun σ2 H2 => exW spx m (fun H3 => D.nx σ2 H3) H2, fun v H2 => exW spx m (fun H3 => D.rt v H3) H2, fun σ2 H2 => exW spx m (fun H3 => D.bk σ2 H3) H2, fun σ2 H2 => exW spx m (fun H3 => D.ct σ2 H3) H2⟩
/-- the block raised -/
def wOut (spx : Sp) (m : Addr) (Wout : WX) : WX := fun cls d σ2 H2 => ∃ c : Addr, cls = .ref c ∧ ∀ (a : Addr) (tv : V), H2 a = none → spx [.ref m, .ref c, .ref a, tv] H2 (fun v H3 => v = .non ∧ Wout cls d σ2 H3) E0
def sWith (C : Addr) (spe spx : Sp) (Wout : WX) (tm : TE) (tb : WX → TS) : TS := fun D σ H => tm σ H fun x H1 => ∃ m dx fs, x = .ref m ∧ H1 m = some (.ins C dx fs) ∧ spe [.ref m] H1 (fun _ H2 => tb (wOut spx m Wout) (exO spx m D) σ H2) E0
/-- the exception of the block: __exit__ is called, on it goes -/
theorem with_exc {pins : List (Addr × Obj)} {D : Ends} {m : Addr} {u : Value} {s' : Shared} (hs : X.stack = X.env :: X.outer) (hf : X.env.frame = some X.env.locals) (hex : X.ex = []) (ok : X.Ok) (tk : Takes X Wout) (hr : Room j X.A) (hk : k ≤ j) (F : FnP X.prog X.w X.K X.mg X.base k fx fdx psx (fun _ => spx)) (hb : Binds X.K fdx psx [])
    {xe : Value → Shared → Prop} (xx : XE (X.tr (X.pn ++ pins) xe) (wOut spx m Wout) u s') : OutX X.prog X.w X.A X.xe X.env m fx (SP X pins D) u s' := by
  have hfr : X.A.frames = some (X.env :: X.outer) := by rw [ok.frames, hs]
  obtain ⟨a, B, sI, pins', σ', H', cls, d, rfl, J', nb, up, sky, na, os, ag, c, rfl, hw⟩ := xx
  have J : Inv X pins σ' H' sI := J'.ofTry ok
  have sky' : Sky B (X.env :: X.outer) a (Zc (.ref c) d) X.env.locals s'.heap := by rw [← hs]; exact sky
  unfold OutX
  refine Sky.land Zc.steady hfr hf sky' fun h3 fl3 up3 => ?_
  have J3 : Inv X pins σ' H' { s' with heap := h3 } := J.landed nb fl3.1 (up.trans up3) os ag
  obtain ⟨k1, k2, k3, oe, vs, T, oT, ts, he3, hz, hd, hv1, hnT, hTe, hT, hdT, ht3⟩ := id fl3
  refine ⟨a, oe, vs, T, oT, ts, .ref c, rfl, he3, hz.1, hd, hv1, hT, hdT, by have := (Array.getElem?_eq_some_iff.mp ht3).1; exact this, fun tv htv => ?_⟩
  have nT : H' T = none := (J.inGround nb).gone hnT
  have notFr : ∀ (b : Addr) (o : Obj) (fv : Array Value), h3.get? b = some o → o.data = .fields fv → b ∉ frs (X.env :: X.outer) := fun b o fv e dd hm => by
    obtain ⟨_, o', e', hnf⟩ := k3.mem hm
    rw [e] at e'; cases e'; exact hnf _ dd
  have locF : X.env.locals ∈ frs (X.env :: X.outer) := List.mem_filterMap.mpr ⟨X.env, List.mem_cons_self, hf⟩
  have fsF : ∀ b, b ∈ X.fs → b ∈ frs (X.env :: X.outer) := fun b hm => let ⟨e, he, q⟩ := List.mem_filterMap.mp hm; List.mem_filterMap.mpr ⟨e, List.mem_cons_of_mem _ he, q⟩
  have fa := notFr a oe vs he3 hd
  have fT := notFr T oT ts hT hdT
  have I1 := pin1 J3 hT nT (fun z => fT (z ▸ locF)) (fun z => fT (fsF _ z)) (fun v z => by rw [hdT] at z; cases z)
  have I2 := pin1 I1 he3 na (fun z => fa (z ▸ locF)) (fun z => fa (fsF _ z)) (fun v z => by rw [hd] at z; cases z)
  have S3 : Inv (X.suite a ((a, oe) :: (T, oT) :: (X.pn ++ pins))) [] σ' H' { s' with heap := h3 } :=
    ⟨I2.ok.suite _ _, I2.os, I2.bare, I2.base, I2.loc, I2.cell, I2.free, I2.freeC, fun p hp => by
      rw [List.append_nil] at hp
      refine I2.pin p ?_
      rcases List.mem_cons.mp hp with z | hp
      · rw [z]; exact List.mem_append_right _ List.mem_cons_self
      · rcases List.mem_cons.mp hp with z | hp
        · rw [z]; exact List.mem_append_right _ (List.mem_cons_of_mem _ List.mem_cons_self)
        · rcases List.mem_append.mp hp with z | z
          · exact List.mem_append_left _ z
          · exact List.mem_append_right _ (List.mem_cons_of_mem _ (List.mem_cons_of_mem _ z)), I2.hok, I2.len⟩
  obtain ⟨tv', rtv⟩ : ∃ tv' : V, RelV tv' tv := by
    rcases htv with rfl | rfl
    · exact ⟨.non, rfl⟩
    · exact ⟨.ref T, rfl⟩
  have q := hw a tv' na
  have r4 : Vals [V.ref m, V.ref c, V.ref a, tv'] [Value.ref m, Value.ref c, Value.ref a, tv] := .cons rfl (.cons rfl (.cons rfl (.cons rtv .nil)))
  have l4 : [Value.ref m, Value.ref c, Value.ref a, tv].length = psx.length := by rw [← r4.length]; exact F.len (a, oe) _ _ _ _ q
  have bb := hb { s' with heap := h3 } [Value.ref m, Value.ref c, Value.ref a, tv] S3.kIn (by rw [List.append_nil]; exact l4)
  rw [List.append_nil] at bb
  obtain ⟨g1, g2, g3, g4, g5⟩ := S3.pin (a, oe) (List.mem_append_left _ List.mem_cons_self)
  have pin : L2H.PinOk X.stack H' { s' with heap := h3 } (a, oe) := ⟨g1, g2, fun hm => (List.mem_cons.mp (S3.stkSub a hm)).elim g3 g4, g5⟩
  refine codeAny_mono (F.run (a, oe) (X.A.mark (some (.ref a))) X.stack { s' with heap := h3 } H' ⟨[.ref m, .ref c, .ref a, tv], []⟩ _ _ (fun v H3 => v = .non ∧ Wout (.ref c) d σ' H3) E0 ⟨(hr.mono hk).dp, (hr.mono hk).un⟩ pin S3.env0 bb r4 q) fun r s7 hq => ?_
  match r, hq with
  | .error er, hq => exact hq.elim
  | .ok .next, hq | .ok .brk, hq | .ok .cont, hq => exact hq.elim
  | .ok (.ret z), hq =>
    obtain ⟨v, H6, S6, rv, rfl, q6⟩ := S3.after hq
    refine ⟨rv, ?_⟩
    have K6 : Inv X pins σ' H6 s7 := ⟨ok, S6.os, S6.bare, S6.base, S6.loc, S6.cell, S6.free, S6.freeC, fun p hp => S6.pin p (List.mem_append_left _ (List.mem_cons_of_mem _ (List.mem_cons_of_mem _ hp))), S6.hok, S6.len⟩
    obtain ⟨ga, na6, _⟩ := S6.pin (a, oe) (List.mem_append_left _ List.mem_cons_self)
    obtain ⟨gT, nT6, _⟩ := S6.pin (T, oT) (List.mem_append_left _ (List.mem_cons_of_mem _ List.mem_cons_self))
    have apart : ∀ b o, sI.heap.get? b = some o → b ≠ a ∧ b ≠ T := fun b o e => by
      by_cases hb : b ∈ frs X.stack
      · rw [hs] at hb
        exact ⟨fun z => fa (z ▸ hb), fun z => fT (z ▸ hb)⟩
      · have z := nb b o e hb
        refine ⟨fun y => ?_, fun y => ?_⟩
        · rw [y, k2] at z; cases z
        · rw [y, hnT] at z; cases z
    have apart0 : ∀ b o, X.s_0.heap.get? b = some o → b ≠ a ∧ b ≠ T := fun b o e => let ⟨o', z⟩ := J.base.there b o e (by rw [hex]; simp); apart b o' z
    obtain ⟨G, g1, g2⟩ := restrict s7.heap fun b => !(decide (b = a) || decide (b = T))
    have gin : ∀ b o, G.get? b = some o → s7.heap.get? b = some o ∧ b ≠ a ∧ b ≠ T := fun b o e => by
      cases z : (!(decide (b = a) || decide (b = T))) with
      | false => rw [g2 b z] at e; cases e
      | true =>
        rw [g1 b z] at e
        simp only [Bool.not_eq_true', Bool.or_eq_false_iff, decide_eq_false_iff_not] at z
        exact ⟨e, z⟩
    have I6 : Inv X pins σ' H6 { s7 with heap := G } := K6.less (fun b o e => (gin b o e).1) (fun b o h1 h2 e => by rw [g1 b (by simp [h1, h2])]; exact e) ⟨oe, vs, ga, hd⟩ ⟨oT, ts, gT, hdT⟩ na6 nT6 apart0 fun p hp => apart p.1 p.2 (J.pin p hp).1
    have gno : ∀ b, (b = a ∨ b = T) → (PySem.W.hideAll G (frs X.stack)).get? b = none := fun b hb => by
      cases z : (PySem.W.hideAll G (frs X.stack)).get? b with
      | none => rfl
      | some o => exact absurd hb (fun y => y.elim (gin b o (PySem.W.of_hideAll _ z)).2.1 (gin b o (PySem.W.of_hideAll _ z)).2.2)
    have fl6 : HandSPX.FlyingZ (PySem.W.hideAll G (frs X.stack)) (X.env :: X.outer) a (Zc (.ref c) d) s7.heap := by
      refine ⟨fun b o e => (gin b o (PySem.W.of_hideAll _ e)).1, gno a (.inl rfl), ?_, oe, vs, T, oT, ts, ga, hz, hd, hv1, gno T (.inr rfl), hTe, gT, hdT, ht3⟩
      rw [← hs]
      exact funFrames_none (B := PySem.W.hideAll G (frs X.stack)) K6.stack fun b hb => PySem.W.hideAll_none _ hb
    unfold PySem.passOn
    refine wpAny_bind (wpAny_field ga hd hv1 ?_)
    rw [if_neg (show ¬ ((Value.ref T == Value.none) = true) from by simp)]
    have fin : wpAny (model X.prog X.w) X.A (setFlight (.ref a) X.env.frame) (fun _ s8 => wpAny (model X.prog X.w) X.A (throw (.ref a) : Sem Flow) (SP X pins D) X.xe s8) X.xe s7 := by
      rw [hf]
      refine HandSPX.setFlight_upZ fl6 fun h7 hh7 up7 => wpAny_throw (tk _ _ ⟨a, PySem.W.hideAll G (frs X.stack), { s7 with heap := G }, pins, σ', H6, .ref c, d, rfl, I6, fun b o e hb => PySem.W.hideAll_get _ e hb, Heap.UpToSlots.trans (Heap.UpToSlots.of_keeps fun b o e => (gin b o e).1) up7, .inr (.inr (by rw [← hs] at hh7; exact hh7)), na6, rfl, K6.bare, q6⟩)
    first
      | exact wpAny_bind (wpAny_pure (wpAny_bind fin))
      | exact wpAny_bind fin
theorem ps_with {CX : CXT} {ke kx : Nat} {ctx : Expr} {body : List Stmt} {pos : Pos} {tm : TE} {tb : WX → TS} (hs : X.stack = X.env :: X.outer) (hf : X.env.frame = some X.env.locals) (hex : X.ex = []) (hr : Room j X.A) (hke : ke ≤ j) (hkx : kx ≤ j) (tk : Takes X Wout)
    (Fe : FnOk X.prog X.w X.K X.mg X.base CX0 ke fe fde pse spe) (be : Binds X.K fde pse []) (Fx : FnOk X.prog X.w X.K X.mg X.base CX0 kx fx fdx psx spx) (Fp : FnP X.prog X.w X.K X.mg X.base kx fx fdx psx (fun _ => spx)) (bx : Binds X.K fdx psx [])
    (he : PySem.W.findIn X.K (.ref C) "__enter__" = some (some (.ref fe))) (hfe : PySem.W.isFn X.K (.ref fe) = true) (hx : PySem.W.findIn X.K (.ref C) "__exit__" = some (some (.ref fx))) (hfx : PySem.W.isFn X.K (.ref fx) = true) (hm : PE X ctx tm)
    (hb : ∀ (W : WX) (pn : List (Addr × Obj)) (xe : Value → Shared → Prop), Takes (X.tr pn xe) W → PassesOwn (model X.prog X.w) X.A X.env xe → PSs (X.tr pn xe) body (tb W)) : PS X (.With [⟨ctx, none⟩] body pos) (sWith C spe spx Wout tm tb) := by
  refine ⟨fun pins s σ H D I h => PySem.W.kw_exec0 (thn (hm.run pins s σ H _ I h) fun u s1 ⟨x, H1, I1, rx, m, dx, fs, ex, em, q⟩ => ?_)⟩
  subst ex
  obtain rfl : u = Value.ref m := rx
  have ok := I.ok
  obtain ⟨od, Jm⟩ := inst_of I1 em
  show wpAny _ _ (withItem false ctx.pos X.env (pure (.ref m)) none (execs body X.env)) _ _ _
  refine with_core I1.kIn Jm he hfe hx hfx ?_
  refine wpAny_mono (run_fn Fe (hr.mono hke) be .nil pass0 I1 (us := [.ref m]) (vs := [.ref m]) (.cons rfl .nil) q) (fun v s2 hv => ?_) fun _ _ z => z
  obtain ⟨v', H2, I2, rv, q2⟩ := hv
  have done : ∀ {σ' : L2.St} {H' : Hp} {s4 : Shared} {R : Hp → Prop} {Q' : Shared → Prop}, Inv X pins σ' H' s4 → exW spx m R H' → (∀ H3 s5, Inv X pins σ' H3 s5 → R H3 → Q' s5) → wpAny (model X.prog X.w) X.A (call (.ref fx) [.ref m, .none, .none, .none]) (fun _ s5 => Q' s5) X.xe s4 := fun {σ' H' s4 R Q'} J hq go => by
    refine wpAny_mono (run_fn Fx (hr.mono hkx) bx .nil pass0 J (us := [.ref m, .none, .none, .none]) (vs := [.ref m, .non, .non, .non]) (.cons rfl (.cons rfl (.cons rfl (.cons rfl .nil)))) hq) (fun r s5 hv => ?_) fun _ _ z => z
    obtain ⟨v3, H3, I3, _, _, q3⟩ := hv
    exact go H3 s5 I3 q3
  refine wpAny_mono ((hb (wOut spx m Wout) (X.pn ++ pins) (OutX X.prog X.w X.A X.xe X.env m fx (SP X pins D)) (fun u s' xx => with_exc hs hf hex ok tk hr hkx Fp bx xx) PassesOwn.looking).run [] s2 σ H2 (exO spx m D) (I2.toTry _) q2) (fun f s4 hsp => ?_) fun _ _ z => z
  cases f with
  | ret u => obtain ⟨v4, σ4, H4, J4, r4, q4⟩ := hsp; exact done (J4.ofTry ok) q4 fun H3 s5 I3 q3 => ⟨v4, σ4, H3, I3, r4, q3⟩
  | next => obtain ⟨σ4, H4, J4, q4⟩ := hsp; exact done (J4.ofTry ok) q4 fun H3 s5 I3 q3 => ⟨σ4, H3, I3, q3⟩
  | brk => obtain ⟨σ4, H4, J4, q4⟩ := hsp; exact done (J4.ofTry ok) q4 fun H3 s5 I3 q3 => ⟨σ4, H3, I3, q3⟩
  | cont => obtain ⟨σ4, H4, J4, q4⟩ := hsp; exact done (J4.ofTry ok) q4 fun H3 s5 I3 q3 => ⟨σ4, H3, I3, q3⟩
end
/-- what a def promises of a thing that is not tracked, by its body -/
theorem Fun_okP {P : Program} {w : World} {K : PySem.W.Frag} {mg : Str → Option Value} {base : Heap} {x qual : Str} {st : Stmt} {N ps : List Str} {k : Nat} {sp : SpP} {f : Addr} {fd : FuncData} (F : Fun K x qual st f fd) (S : FnScope N ps (defScope st)) (len : ∀ p vs H Q E, sp p vs H Q E → vs.length = ps.length)
    (inner : ∀ (cdv : Value) (p : Addr × Obj) (A : Around) (outer : List Env) (s : Shared) (H : Hp) (vs : List V) (Q : VK) (E : XK), L2H.RoomH k (A.deeper (envOfC qual (defScope st) s.heap.objs.size f cdv)) → sp p vs H Q E →
      ∃ t, PSs (L2H.cxH CX0 P w K mg base N qual (defScope st) f cdv A outer s H E p) (defBody st) t ∧ t { nx := fun _ H' => Q .non H', rt := Q } (L2.start N vs) H) : FnP P w K mg base (k + 1) f fd ps sp := by
  obtain ⟨oc, od, kV, doc, pm, an, cdv, ct, osl, e, lk, hcd⟩ := F.ex
  subst e
  exact fn_ofP lk hcd S len fun p A outer s H vs Q E hr h => inner cdv p A outer s H vs Q E hr h
/-- a context manager's two methods -/
structure WithN (P : Program) (w : World) (K : PySem.W.Frag) (mg : Str → Option Value) (base : Heap) (k : Nat) (C : Addr) (spe spx : Sp) : Prop where
  ex : ∃ (fe fx : Addr) (fde fdx : FuncData) (pse psx : List Str), FnOk P w K mg base CX0 k fe fde pse spe ∧ Binds K fde pse [] ∧ FnOk P w K mg base CX0 k fx fdx psx spx ∧ FnP P w K mg base k fx fdx psx (fun _ => spx) ∧ Binds K fdx psx [] ∧
    PySem.W.findIn K (.ref C) "__enter__" = some (some (.ref fe)) ∧ PySem.W.isFn K (.ref fe) = true ∧ PySem.W.findIn K (.ref C) "__exit__" = some (some (.ref fx)) ∧ PySem.W.isFn K (.ref fx) = true
section
variable {X : Cx} {k j : Nat} {C : Addr} {spe : Sp} {spx : Sp} {Wout : WX}
theorem ps_withN {ctx : Expr} {body : List Stmt} {pos : Pos} {tm : TE} {tb : WX → TS} (d : WithN X.prog X.w X.K X.mg X.base k C spe spx) (hs : X.stack = X.env :: X.outer) (hf : X.env.frame = some X.env.locals) (hex : X.ex = []) (hr : Room j X.A) (hk : k ≤ j) (tk : Takes X Wout) (hm : PE X ctx tm)
    (hb : ∀ (W : WX) (pn : List (Addr × Obj)) (xe : Value → Shared → Prop), Takes (X.tr pn xe) W → PassesOwn (model X.prog X.w) X.A X.env xe → PSs (X.tr pn xe) body (tb W)) : PS X (.With [⟨ctx, none⟩] body pos) (sWith C spe spx Wout tm tb) := by
  obtain ⟨fe, fx, fde, fdx, pse, psx, Fe, be, Fx, Fp, bx, he, hfe, hx, hfx⟩ := d.ex
  exact ps_with (CX := CX0) hs hf hex hr hk hk tk Fe be Fx Fp bx he hfe hx hfx hm hb
end
section
variable {X : Cx} {tg l : Expr} {tl : TE}
/-- in a block whose context is open: K by its name -/
theorem pi_listK (K : PySem.W.Frag) (hK : X.K = K) (hl : PE X l tl) : PI X tg l (iList K tl) := hK ▸ pi_list hl
theorem pg_tupK (K : PySem.W.Frag) (n : Nat) {es : List Expr} {k : Nat} {t : TGs} {pos : Pos} (hK : X.K = K) (hc : X.calm = true) (h : PGs X es t) (hn : (assignEach es X.env).length = n := by rfl) (hst : (assignEach es X.env).findIdx? (·.1) = none := by rfl) : PG X (.Tuple es k pos) (gTup K n t) := hK ▸ pg_tup hc h hn hst
end
end UW

set_option Elab.async false
set_option linter.all false
set_option maxRecDepth 100000
set_option maxHeartbeats 4000000
/-! an own exception without arguments: raised, caught, asked for its class -/
namespace UW
open PySem PySem.Spec PyProof.Rows L2 UL UV
section
variable {X : Cx} {pins : List (Addr × Obj)} {σ : L2.St} {H : Hp} {s : Shared} {G : Heap} {a C : Addr} {d : Option Addr}
/-- a tracked record is let go and hidden -/
theorem forget (J : Inv X pins σ H s) (ha : H a = some (exo a C d)) (h0 : X.s_0.heap.get? a = none) (gk : ∀ b, b ≠ a → G.get? b = s.heap.get? b) : Inv X pins σ (del H a) { s with heap := G } := by
  have n0 : ∀ {b : Addr} {o : Obj}, X.s_0.heap.get? b = some o → b ≠ a := fun {b o} z q => by rw [q, h0] at z; cases z
  have nn : ∀ {b : Addr}, H b = none → b ≠ a := fun {b} z q => by rw [q, ha] at z; cases z
  have dn : ∀ {b : Addr}, H b = none → del H a b = none := fun {b} z => by rw [del_ne (nn z)]; exact z
  have ic : ∀ {x c v}, X.env.cells.lookup x = some c → s.heap.IsCell c v → G.IsCell c v := fun {x c v} z q => let ⟨o, e, y⟩ := q; ⟨o, (gk c (nn (J.freeC x c z))).trans e, y⟩
  obtain ⟨m, hn, hl⟩ := J.loc
  refine ⟨J.ok, J.os, J.bare, ⟨fun b o e n hb hx => (gk b (n0 e)).trans (J.base.keep b o e n hb hx), fun b o e n hb hx => let ⟨sl, z⟩ := J.base.slot b o e n hb hx; ⟨sl, (gk b (n0 e)).trans z⟩, fun b o e n hx => dn (J.base.free b o e n hx), fun b o e hx => let ⟨u, z⟩ := J.base.there b o e hx; ⟨u, (gk b (n0 e)).trans z⟩,
      fun b xs e => ?_, fun b o u e => ?_, fun b ps e => ?_⟩, ⟨m, hn.at fun o z => (gk _ (nn J.free)).trans z, fun i x v e1 e2 e3 => ?_⟩, fun x c z => let ⟨v, q⟩ := J.cell x c z; ⟨v, ic z q⟩, dn J.free, fun x c z => dn (J.freeC x c z), fun p hp => let ⟨e, n, l, f, y⟩ := J.pin p hp; ⟨(gk _ (nn n)).trans e, dn n, l, f, y⟩, fun b o z => ?_, J.len⟩
  · have z := J.base.tups b xs e
    rw [del_ne (at_ne ha z exo_tup)]; exact z
  · have z := J.base.frzs b o u e
    rw [del_ne (at_ne ha z exo_frz)]; exact z
  · obtain ⟨more, z⟩ := J.base.tbls b ps e
    exact ⟨more, by rw [del_ne (at_ne ha z exo_tbl)]; exact z⟩
  · obtain ⟨u, ru, lk⟩ := hl i x v e1 e2 e3
    exact ⟨u, ru, lk.elim .inl fun ⟨k, c, ce, q⟩ => .inr ⟨k, c, ce, ic ce q⟩⟩
  · have hb : b ≠ a := fun q => by rw [q, del_same] at z; cases z
    rw [del_ne hb] at z
    refine (J.hok b o z).stay (fun c u hc q => (gk c ?_).trans q) (fun c hc => ?_) fun c xs hc => ?_
    · rcases hc with hc | hc
      · rw [hc]; exact hb
      · exact at_ne ha hc exo_own
    · rw [del_ne (at_ne ha hc exo_own)]; exact hc
    · rw [del_ne (at_ne ha hc exo_tup)]; exact hc
end
section
variable {X : Cx} {C g : Addr} {k j : Nat} {fd : FuncData} {ps : List Str} {sp : Sp} {x : Str} {p pos : Pos}
/-- C(), C's own __init__ keeping sp: the exception has no dict -/
def tMk0 (C : Addr) (sp : Sp) : L2.St → Hp → XK → Prop := fun σ H Q => ∀ a, H a = none → sp [.ref a] (upd H a (exo a C none)) (fun v H2 => v = .non ∧ H2 a = some (exo a C none) ∧ Q (.ref C) none (del H2 a)) E0
theorem made0 (T : OexC X.K C) (fi : PySem.W.findIn X.K (.ref C) "__init__" = some (some (.ref g))) (ty : PySem.W.typeIn X.K (.ref g) = some (.type "function")) (Fn : FnOk X.prog X.w X.K X.mg X.base CX0 k g fd ps sp) (hr : Room j X.A) (hk : k + 1 ≤ j) (B : Binds X.K fd ps [])
    (hex : X.ex = []) (hg : Gl X x) (hm : X.mg x = some (.ref C)) (hdb : (x == ("__debug__" : Str)) = false := by decide) : PMk X (.Call (.Name x p) [] [] pos) (tMk0 C sp) := by
  intro pn z1 sg Ha Qx Ia qa
  obtain ⟨nm, q, N, bs, bm, sn, sub, ab, col, dd, k0, k1, k2, k3, k5, lkC, bmE⟩ := T.cls
  refine wpAny_Call_Name_kw (ld_glob Ia hg hm (PySem.W.callWith_K0 Ia.kIn T.kC ?_) hdb)
  show wpAny _ _ (call (.ref C) []) _ _ _
  have hsz := Ia.sz
  obtain ⟨hz, gz, dz, tz, oz⟩ := z1
  have le1 : hz.objs.size ≤ hz.objs.size + 1 := Nat.le_succ _
  have fresh := Ia.hok.fresh le1
  have want := qa (hz.objs.size + 1) fresh
  have kp : ∀ b o, hz.get? b = some o → ((hz.push (PySem.W.kdv_tup [])).push (PySem.HandSPX.excO C hz.objs.size)).get? b = some o := fun b o e => Heap.get?_push_of_some _ (Heap.get?_push_of_some _ e)
  have at2 : ((hz.push (PySem.W.kdv_tup [])).push (PySem.HandSPX.excO C hz.objs.size)).get? (hz.objs.size + 1) = some (PySem.HandSPX.excO C hz.objs.size) := by heap_get
  have Ib : Inv X pn sg (upd Ha (hz.objs.size + 1) (exo (hz.objs.size + 1) C none)) ⟨((hz.push (PySem.W.kdv_tup [])).push (PySem.HandSPX.excO C hz.objs.size)), gz, dz, tz, oz⟩ := Ia.laid (t' := tz) (a := hz.objs.size + 1) (o := exo (hz.objs.size + 1) C none) (h' := ((hz.push (PySem.W.kdv_tup [])).push (PySem.HandSPX.excO C hz.objs.size))) kp le1 (exo_ok at2)
  have rb : Vals [V.ref (hz.objs.size + 1)] [Value.ref (hz.objs.size + 1)] := .cons rfl .nil
  have lb : ([Value.ref (hz.objs.size + 1)] ++ ([] : List Value)).length = ps.length := by
    rw [List.append_nil, ← rb.length]; exact Fn.len _ _ _ _ want
  have bb := B ⟨((hz.push (PySem.W.kdv_tup [])).push (PySem.HandSPX.excO C hz.objs.size)), gz, dz, tz, oz⟩ [Value.ref (hz.objs.size + 1)] Ib.kIn lb
  rw [List.append_nil] at bb
  refine wpAny_call (PySem.HandSPX.call_own F.excBase_ValueError (fun Y => PySem.HandSPX.refsVE_contains Y bm bmE) (Ia.kIn _ _ lkC) (PySem.W.looks_findIn Ia.kIn fi) (fun self => PySem.W.bind_fn Ia.kIn self ty) (by rw [sizeLine_eq]; simp)
    (codeAny_mono (Fn.run _ X.stack _ _ ⟨[Value.ref (hz.objs.size + 1)], []⟩ [Value.ref (hz.objs.size + 1)] _ _ E0 ((hr.mono hk).make C [] []) (Ib.env0.make C [] []) bb rb want) fun r z3 hq => ?_))
  match r, hq with
  | .error er, hq => exact hq.elim
  | .ok .next, hq | .ok .brk, hq | .ok .cont, hq => exact hq.elim
  | .ok (.ret u), hq =>
    obtain ⟨v, H3, I3, rv, ev, ea, q3⟩ := Ib.after hq
    subst ev
    refine ⟨rv, ?_⟩
    obtain ⟨t0, hoe⟩ := exo_at I3.hok ea
    have s0 : X.s_0.heap.get? (hz.objs.size + 1) = none := by
      cases z : X.s_0.heap.get? (hz.objs.size + 1) with
      | none => rfl
      | some o =>
        exact absurd (Nat.lt_of_lt_of_le (Heap.lt_size z) hsz) (Nat.not_lt.mpr (Nat.le_succ _))
    obtain ⟨G, g1, g2⟩ := restrict z3.heap fun b => decide (b ≠ hz.objs.size + 1)
    have gk : ∀ b, b ≠ hz.objs.size + 1 → G.get? b = z3.heap.get? b := fun b hb => g1 b (decide_eq_true hb)
    have ge : G.get? (hz.objs.size + 1) = none := g2 _ (by simp)
    have I4 := forget I3 ea s0 gk
    refine ⟨hz.objs.size + 1, _, _, { z3 with heap := G }, _, .ref C, none, rfl, I4, fun b o z => ?_, ge, hoe, ⟨rfl, rfl⟩, rfl, rfl, del_same, rfl, I3.bare, raises_own T.exC T.tyC, q3⟩
    have n : b ≠ hz.objs.size + 1 := fun y => by rw [y, ge] at z; cases z
    exact (gk b n).symm.trans z
/-- isinstance of a caught exception without a dict -/
def rIs0 (K : PySem.W.Frag) (a : Addr) (cls : Value) (d : Option Addr) : List V → Hp → VK → Prop := fun xs H Q => ∃ (D : Addr) (c : V) (cv : Value) (b : Bool), cls = .ref D ∧ d = none ∧ ExcC K D ∧ xs = [.ref a, c] ∧ (∀ u, RelV c u → u = cv) ∧ PySem.W.kitOne K (.ref D) cv = some b ∧ Q (.bl b) H
theorem call_is0 {a : Addr} {cls : Value} {d : Option Addr} {oe : Obj} {pn : List (Addr × Obj)} (hz : Zc cls d oe) (hf : ∃ vs, oe.data = .fields vs) : CallR (X.suite a ((a, oe) :: pn)) (.builtin "isinstance") (rIs0 X.K a cls d) := by
  intro pins s σ H xs us Q I r h
  obtain ⟨D, c, cv, b, rfl, rfl, ec, rfl, hcv, e, q⟩ := h
  exact call_isE (X := X) (a := a) (D := D) (oe := oe) (pn := pn) ec hz hf pins s σ H _ us Q I r ⟨c, cv, b, rfl, hcv, e, q⟩
end
end UW

set_option Elab.async false
set_option linter.all false
set_option maxRecDepth 100000
set_option maxHeartbeats 4000000
/-! match of a list of texts against sequences of words and names, the last one with a star -/
namespace UX
open PySem PySem.Spec PyProof.Rows L2 UL UV UW
/-- an item of a sequence pattern: a word, or a name (by its place among the locals) -/
inductive Itm where
  | wd (c : Str)
  | nm (i : Nat)
def NmOk (X : Cx) (i : Nat) (x : Str) : Prop := X.N[i]? = some x ∧ Loc X.env.scope x ∧ (X.fn x = true ∨ X.env.scope.names.lookup x = some .local)
def ItOk (X : Cx) : Itm → Pattern → Prop
  | .wd c, p => ∃ k q q', p = .MatchValue (.Constant (.str c) k q) q'
  | .nm i, p => ∃ x q, p = .MatchAs none (some x) q ∧ NmOk X i x
inductive ItsOk (X : Cx) : List Itm → List Pattern → Prop
  | nil : ItsOk X [] []
  | cons {i p is ps} : ItOk X i p → ItsOk X is ps → ItsOk X (i :: is) (p :: ps)
/-- what the words bind, or none -/
def mt : List Itm → List Str → Option (List (Nat × V))
  | [], [] => some []
  | .wd c :: r, s :: ss => if s = c then mt r ss else none
  | .nm i :: r, s :: ss => match mt r ss with
    | none => none
    | some bs => some ((i, .str s) :: bs)
  | _, _ => none
def puts (σ : L2.St) : List (Nat × V) → L2.St
  | [] => σ
  | (i, v) :: r => puts (σ.set i (some v)) r
inductive Bds (X : Cx) : List (Nat × V) → List (Str × Value) → Prop
  | nil : Bds X [] []
  | cons {i v x u bs cs} : NmOk X i x → RelV v u → Bds X bs cs → Bds X ((i, v) :: bs) ((x, u) :: cs)
theorem Bds.app {X : Cx} : ∀ {a b : List (Nat × V)} {c d : List (Str × Value)}, Bds X a c → Bds X b d → Bds X (a ++ b) (c ++ d)
  | _, _, _, _, .nil, h => h
  | _, _, _, _, .cons n r t, h => .cons n r (t.app h)
def Res (X : Cx) : Option (List (Nat × V)) → Option (List (Str × Value)) → Prop
  | none, none => True
  | some bs, some cs => Bds X bs cs
  | _, _ => False
section
variable {X : Cx} {pins : List (Addr × Obj)}
theorem each {prog : Program} {w : World} {A : Around} {E : Value → Shared → Prop} {pt : List Pattern} {ut : List Value} {bt : List (Str × Value)} (tail : ∀ (R' : Option (List (Str × Value)) → Shared → Prop) (s' : Shared), R' (some bt) s' → wpAny (model prog w) A (matchEach pt X.env ut) R' E s') :
    ∀ (its : List Itm) {ps : List Pattern} {ws : List Str} {us : List Value} {s : Shared} {R : Option (List (Str × Value)) → Shared → Prop}, ItsOk X its ps → its.length = ws.length → Vals (ws.map V.str) us →
      (∀ tk r, Res X (mt its ws) r → R (r.map (· ++ bt)) { s with toks := tk }) → wpAny (model prog w) A (matchEach (ps ++ pt) X.env (us ++ ut)) R E s
  | [], ps, ws, us, s, R, ok, hl, hv, hR => by
    cases ok
    cases ws with
    | cons _ _ => cases hl
    | nil =>
      cases hv
      exact tail R s (hR s.toks (some []) .nil)
  | .wd c :: its, ps, ws, us, s, R, ok, hl, hv, hR => by
    cases ok with
    | cons hi ht =>
      obtain ⟨k, q, q', rfl⟩ := hi
      cases ws with
      | nil => cases hl
      | cons a ws =>
        cases hv with
        | cons r rs =>
          obtain ⟨t, rfl⟩ := r
          refine wpAny_matchEach_cons (wpAny_matchPattern_Value (wpAny_Constant_str (PyProof.Rows.eq_str (wpAny_truthy_bool ?_))))
          by_cases e : a = c
          · subst e
            rw [beq_self_eq_true, if_pos rfl]
            refine each tail its (s := { s with toks := s.toks + 1 }) ht (Nat.succ.inj hl) rs fun tk r hr => ?_
            have := hR tk r (by show Res X (if a = a then mt its ws else none) r; rw [if_pos rfl]; exact hr)
            cases r with
            | none => exact this
            | some cs => exact this
          · rw [if_neg (by simpa using e)]
            exact hR (s.toks + 1) none (by show Res X (if a = c then mt its ws else none) none; rw [if_neg e]; trivial)
  | .nm i :: its, ps, ws, us, s, R, ok, hl, hv, hR => by
    cases ok with
    | cons hi ht =>
      obtain ⟨x, q, rfl, hn⟩ := hi
      cases ws with
      | nil => cases hl
      | cons a ws =>
        cases hv with
        | cons r rs =>
          refine wpAny_matchEach_cons (wpAny_matchPattern_Capture ?_)
          refine each tail its ht (Nat.succ.inj hl) rs fun tk r' hr => ?_
          cases e : mt its ws with
          | none =>
            rw [e] at hr
            cases r' with
            | none => exact hR tk none (by show Res X (match mt its ws with | none => none | some bs => some ((i, V.str a) :: bs)) none; rw [e]; trivial)
            | some cs => exact hr.elim
          | some bs =>
            rw [e] at hr
            cases r' with
            | none => exact hr.elim
            | some cs => exact hR tk (some ((x, _) :: cs)) (by show Res X (match mt its ws with | none => none | some bs => some ((i, V.str a) :: bs)) _; rw [e]; exact .cons hn r hr)
/-- the names are bound one after another -/
theorem binds {prog : Program} {w : World} {A : Around} {E : Value → Shared → Prop} (hN : X.N.Nodup) : ∀ {bs : List (Nat × V)} {cs : List (Str × Value)} {σ : L2.St} {H : Hp} {s : Shared} {Q : Unit → Shared → Prop}, Bds X bs cs → Inv X pins σ H s → (∀ s', Inv X pins (puts σ bs) H s' → Q () s') →
    wpAny (model prog w) A (assignInOrder (cs.map fun (n, _) => bindName X.env n) (cs.map (·.2))) Q E s
  | _, _, σ, H, s, Q, .nil, I, h => wpAny_assignInOrder_none (h s I)
  | _, _, σ, H, s, Q, .cons hn r t, I, h => by
    refine wpAny_assignInOrder_more (wpAny_bindName (store_ok I hN hn.1 hn.2.1 r (fun s1 I1 => ?_) hn.2.2))
    exact binds hN t I1 h
/-- cases, of a list of texts -/
structure PM (X : Cx) (cs : List MatchCase) (t : List Str → TS) : Prop where
  run : ∀ (pins : List (Addr × Obj)) (s : Shared) (σ : L2.St) (H : Hp) (D : Ends) (p : Addr) (ws : List Str) (b : Bool), Inv X pins σ H s → SqL X.K H p (ws.map V.str) → t ws D σ H → wpAny (model X.prog X.w) X.A (matchCases cs X.env (.ref p) b) (SP X pins D) X.xe s
theorem pm_nil : PM X [] (fun _ D σ H => D.nx σ H) := ⟨fun pins s σ H D p ws b I _ h => wpAny_matchCases_nil ⟨σ, H, I, h⟩⟩
theorem pm_any {body : List Stmt} {cs : List MatchCase} {q : Pos} {tb : TS} (hb : PSs X body tb) : PM X (⟨.MatchAs none none q, none, body⟩ :: cs) (fun _ => tb) :=
  ⟨fun pins s σ H D p ws b I _ h => wpAny_matchCases_cons (wpAny_matchPattern_Capture (wpAny_assignInOrder_none (hb.run pins s σ H D I h)))⟩
theorem mt_len : ∀ {its : List Itm} {ws : List Str} {bs : List (Nat × V)}, mt its ws = some bs → its.length = ws.length
  | [], [], _, _ => rfl
  | [], _ :: _, _, h => by cases h
  | .wd _ :: _, [], _, h => by cases h
  | .nm _ :: _, [], _, h => by cases h
  | .wd c :: r, a :: ss, bs, h => by
    have h : (if a = c then mt r ss else none) = some bs := h
    by_cases e : a = c
    · rw [if_pos e] at h
      exact congrArg Nat.succ (mt_len h)
    · rw [if_neg e] at h; cases h
  | .nm i :: r, a :: ss, bs, h => by
    have h : (match mt r ss with | none => none | some bs => some ((i, V.str a) :: bs)) = some bs := h
    cases e : mt r ss with
    | none => rw [e] at h; cases h
    | some cs => exact congrArg Nat.succ (mt_len e)
theorem its_len {X : Cx} : ∀ {its : List Itm} {ps : List Pattern}, ItsOk X its ps → its.length = ps.length
  | _, _, .nil => rfl
  | _, _, .cons _ t => congrArg Nat.succ (its_len t)
/-- a sequence without a star -/
def sSeq (its : List Itm) (tb : TS) (tn : List Str → TS) : List Str → TS := fun ws D σ H => match mt its ws with
  | some bs => tb D (puts σ bs) H
  | none => tn ws D σ H
theorem pm_seq {its : List Itm} {ps : List Pattern} {body : List Stmt} {cs : List MatchCase} {q : Pos} {tb : TS} {tn : List Str → TS} (hN : X.N.Nodup) (hc : X.calm = true) (ok : ItsOk X its ps) (hb : PSs X body tb) (hn : PM X cs tn)
    (hst : ps.findIdx? (·.isStar) = none := by rfl) (hw : (ps.all fun p => p.isWildcard || (p.isStar && p.names.isEmpty)) = false := by rfl) : PM X (⟨.MatchSequence ps q, none, body⟩ :: cs) (sSeq its tb tn) := by
  refine ⟨fun pins s σ H D p ws b I hp h => ?_⟩
  obtain ⟨us, rv, pl, hz⟩ := I.list hp
  have lu : ws.length = us.length := by rw [← List.length_map (f := V.str)]; exact rv.length
  have zs : sizeLine < 2 ^ 63 := by rw [sizeLine_eq]; decide
  rw [List.length_map] at hz
  refine wpAny_matchCases_cons (wpAny_matchPattern_Sequence (wpAny_collectionFlag pl.isList.typeIs flag_seq_list ?_) hst hw)
  rw [if_pos rfl]
  refine pyLen_list pl.isList (by simp only [List.size_toArray]; omega) ?_
  have lp := its_len ok
  have no : ∀ {tk : Nat} {hh : Heap}, (∀ b o, s.heap.get? b = some o → hh.get? b = some o) → mt its ws = none → wpAny (model X.prog X.w) X.A (matchCases cs X.env (.ref p) false) (SP X pins D) X.xe { s with heap := hh, toks := tk } := fun {tk hh} k e => by
    have h : (match mt its ws with | some bs => tb D (puts σ bs) H | none => tn ws D σ H) := h
    rw [e] at h
    exact hn.run pins _ σ H D p ws false (I.kept k) hp h
  by_cases e : us.length = ps.length
  · rw [if_neg (by simp [e])]
    have e' : ps.length = us.toArray.size := by rw [List.size_toArray, e]
    rw [e']
    refine PySem.W.kun_itemsOf (I.ok.hd hc) pl.isList fun h' hx => ?_
    have kp : ∀ b o, s.heap.get? b = some o → h'.get? b = some o := fun b o z => hx b o (Nat.ne_of_lt (Heap.lt_size z)) z
    have go := each (X := X) (prog := X.prog) (w := X.w) (A := X.A) (E := X.xe) (pt := []) (ut := []) (bt := []) (fun R' s' z => wpAny_matchEach_nil z) its (ps := ps) (ws := ws) (us := us) (s := { s with heap := h', toks := s.toks + 1 + 1 }) ok (by omega) rv
      (R := fun r s₁ => match r with
        | none => wpAny (model X.prog X.w) X.A (matchCases cs X.env (.ref p) false) (SP X pins D) X.xe s₁
        | some bs => wpAny (model X.prog X.w) X.A (assignInOrder (bs.map fun (n, _) => bindName X.env n) (bs.map (·.2))) (fun _ s₂ => wpAny (model X.prog X.w) X.A (execs body X.env) (SP X pins D) X.xe s₂) X.xe s₁) (fun tk r hr => ?_)
    · rw [List.append_nil, List.append_nil] at go
      exact go
    · have h : (match mt its ws with | some bs => tb D (puts σ bs) H | none => tn ws D σ H) := h
      cases em : mt its ws with
      | none =>
        rw [em] at hr
        cases r with
        | some _ => exact hr.elim
        | none => exact no kp em
      | some bs =>
        rw [em] at hr h
        cases r with
        | none => exact hr.elim
        | some cs' =>
          show wpAny _ _ (assignInOrder ((cs' ++ []).map _) ((cs' ++ []).map _)) _ _ _
          rw [List.append_nil]
          exact binds hN hr (I.kept kp) fun s' I' => hb.run pins s' (puts σ bs) H D I' h
  · have e2 : mt its ws = none := by
      cases em : mt its ws with
      | none => rfl
      | some bs => exact absurd (mt_len em) (by omega)
    rw [if_pos (by simp only [List.size_toArray, bne_iff_ne, ne_eq]; omega)]
    exact no (fun _ _ z => z) e2
theorem unpackS {prog : Program} {w : World} {A : Around} {E : Value → Shared → Prop} {s : Shared} {l : Addr} {items : Array Value} {i : Nat} {Q : List Value → Shared → Prop} (hl : s.heap.IsList l items) (hh : A.handled = none) (hn : i ≤ items.size) (hz : items.size ≤ sizeLine)
    (h : ∀ (h' : Heap) (tk : Nat), (∀ b o, s.heap.get? b = some o → h'.get? b = some o) → Q (items.toList.take i ++ [.ref h'.objs.size]) { s with heap := h'.push { cls := .type "list", data := .seq (items.toList.drop i).toArray }, toks := tk }) : wpAny (model prog w) A (unpackItems (.ref l) (i + 1) (some i)) Q E s := by
  have hl' := hl
  obtain ⟨o0, e0, _⟩ := hl'
  have hlt : l < s.heap.objs.size := Heap.lt_size e0
  have hne : l ≠ s.heap.objs.size := Nat.ne_of_lt hlt
  unfold unpackItems notIterableAtAll
  refine wpAny_bind (wpAny_bind (wpAny_specialOf hl.typeIs slot_list_iter.lookup (wpAny_pure ?_)))
  rw [if_neg (by simp)]
  refine wpAny_bind (wpAny_holding (wpAny_pyIter_list hl (wpAny_bind (wpAny_holding (PySem.W.kun_draw hne i 0 _ _ ⟨_, Heap.get?_push_size _ rfl, rfl, rfl⟩ (hl.push _) (by omega) fun h₁ hit hs => ?_)))))
  rw [Nat.zero_add] at hit
  have L1 : h₁.IsList l items := (hl.push _).extBut hs.extBut hne
  have hit' := hit
  have L1' := L1
  obtain ⟨oi, ei, _⟩ := hit'
  obtain ⟨ol, el, _⟩ := L1'
  rw [List.drop_zero]
  have f1 : (items.toList.take i).length = i := by rw [List.length_take, Array.length_toList]; omega
  rw [f1, if_neg (Nat.lt_irrefl i)]
  refine wpAny_bind (wpAny_holding (PySem.W.kun_collect (s := { s with heap := h₁ }) (T := "list_iterator") (.inr (.inr (.inl rfl))) (PySem.Walks.list (A := A.in1) hh s.heap.objs.size l hne items) (fun j u st => st.1.typeIs) (k := i) hn ⟨hit, L1⟩ (Heap.lt_size ei) (Heap.lt_size el) (fun h₂ tk hk => ?_) hz))
  have z0 : i + 1 - 1 - i = 0 := by omega
  rw [z0]
  show wpAny _ _ (if (items.toList.drop i).length < 0 then _ else _) _ _ _
  rw [if_neg (Nat.not_lt_zero _)]
  show wpAny _ _ (newList ((items.toList.drop i).take ((items.toList.drop i).length - 0)) >>= fun d => pure (items.toList.take i ++ [d] ++ (items.toList.drop i).drop ((items.toList.drop i).length - 0))) _ _ _
  rw [Nat.sub_zero, List.take_length, List.drop_length]
  refine wpAny_bind (wpAny_newList (wpAny_pure ?_) (by rw [List.length_drop, Array.length_toList]; omega))
  rw [List.append_nil]
  exact h h₂ tk fun b o e => hk b o (Nat.ne_of_lt (Heap.lt_size e)) (hs.extBut b o (Nat.ne_of_lt (Heap.lt_size e)) (Heap.get?_push_of_some _ e))
/-- a sequence with a star at its end -/
def sStar (its : List Itm) (i : Nat) (tb : TS) (tn : List Str → TS) : List Str → TS := fun ws D σ H => if its.length ≤ ws.length then (match mt its (ws.take its.length) with
  | some bs => ∀ r, H r = none → tb D (puts σ (bs ++ [(i, .ref r)])) (upd H r (.lst ((ws.drop its.length).map V.str)))
  | none => tn ws D σ H) else tn ws D σ H
theorem pm_star {its : List Itm} {i : Nat} {x : Str} {q' : Pos} {ps : List Pattern} {body : List Stmt} {cs : List MatchCase} {q : Pos} {tb : TS} {tn : List Str → TS} (hN : X.N.Nodup) (hc : X.calm = true) (ok : ItsOk X its ps) (hx : NmOk X i x) (hb : PSs X body tb) (hn : PM X cs tn)
    (h0 : ps.length ≠ 0) (hst : (ps ++ [Pattern.MatchStar (some x) q']).findIdx? (·.isStar) = some ps.length) (hw : ((ps ++ [Pattern.MatchStar (some x) q']).all fun p => p.isWildcard || (p.isStar && p.names.isEmpty)) = false) :
    PM X (⟨.MatchSequence (ps ++ [.MatchStar (some x) q']) q, none, body⟩ :: cs) (sStar its i tb tn) := by
  refine ⟨fun pins s σ H D p ws b I hp h => ?_⟩
  obtain ⟨us, rv, pl, hz⟩ := I.list hp
  have lu : ws.length = us.length := by rw [← List.length_map (f := V.str)]; exact rv.length
  have zs : sizeLine < 2 ^ 63 := by rw [sizeLine_eq]; decide
  rw [List.length_map] at hz
  have lp := its_len ok
  have lps : (ps ++ [Pattern.MatchStar (some x) q']).length = ps.length + 1 := by rw [List.length_append] <;> rfl
  have h : (if its.length ≤ ws.length then (match mt its (ws.take its.length) with | some bs => ∀ r, H r = none → tb D (puts σ (bs ++ [(i, .ref r)])) (upd H r (.lst ((ws.drop its.length).map V.str))) | none => tn ws D σ H) else tn ws D σ H) := h
  by_cases hl : its.length ≤ ws.length
  · rw [if_pos hl] at h
    refine wpAny_matchCases_cons (PySem.W.kun_seqL pl.isList (by simp only [List.size_toArray]; omega) hst hw (by rw [List.getElem?_append_right (Nat.le_refl _), Nat.sub_self] <;> rfl) (by rw [lps]; omega) (by rw [lps]; simp only [List.size_toArray]; omega) ?_)
    rw [lps]
    refine unpackS pl.isList (I.ok.hd hc) (by simp only [List.size_toArray]; omega) (by simp only [List.size_toArray]; omega) fun h' tk kp => ?_
    have tk1 : Vals ((ws.take its.length).map V.str) (us.take ps.length) := by rw [← lp, List.map_take]; exact rv.take _
    have dr1 : Vals ((ws.drop its.length).map V.str) (us.drop ps.length) := by rw [← lp, List.map_drop]; exact rv.drop _
    have I1 : Inv X pins σ H { s with heap := h', toks := tk } := I.kept kp
    show wpAny _ _ (matchEach (ps ++ [Pattern.MatchStar (some x) q']) X.env (us.take ps.length ++ [Value.ref h'.objs.size])) _ _ _
    refine each (X := X) (bt := [(x, Value.ref h'.objs.size)]) (fun R' s' z => PySem.W.kun_each (name := some x) (wpAny_matchEach_nil z)) its ok (by rw [List.length_take]; omega) tk1 fun tk2 r hr => ?_
    cases em : mt its (ws.take its.length) with
    | none =>
      rw [em] at hr h
      cases r with
      | some _ => exact hr.elim
      | none => exact hn.run pins _ σ H D p ws false (I.kept fun b o e => Heap.get?_push_of_some _ (kp b o e)) hp h
    | some bs =>
      rw [em] at hr h
      cases r with
      | none => exact hr.elim
      | some cs' =>
        have hf : H h'.objs.size = none := I1.hok.fresh (Nat.le_refl _)
        have I2 : Inv X pins σ (upd H h'.objs.size (.lst ((ws.drop its.length).map V.str))) { s with heap := h'.push { cls := .type "list", data := .seq (us.drop ps.length).toArray }, toks := tk2 } :=
          I1.laid (t' := tk2) (fun b o e => Heap.get?_push_of_some _ e) (Nat.le_refl _) ⟨by rw [List.length_map, List.length_drop]; omega, _, _, dr1, Heap.get?_push_size _ rfl⟩
        exact binds hN (hr.app (.cons (v := V.ref h'.objs.size) hx rfl .nil)) I2 fun s' I' => hb.run pins s' _ _ D I' (h _ hf)
  · rw [if_neg hl] at h
    refine wpAny_matchCases_cons (PySem.W.kun_fewL pl.isList (by simp only [List.size_toArray]; omega) hst (by rw [lps]; omega) (by rw [lps]; simp only [List.size_toArray]; omega) ?_)
    exact hn.run pins _ σ H D p ws false (I.kept fun _ _ z => z) hp h
/-- match e: .. of a list of texts -/
def sMatch (K : PySem.W.Frag) (te : TE) (tc : List Str → TS) : TS := fun D σ H => te σ H fun x H1 => ∃ p ws, x = .ref p ∧ SqL K H1 p (ws.map V.str) ∧ tc ws D σ H1
theorem ps_match {e : Expr} {cs : List MatchCase} {pos : Pos} {te : TE} {tc : List Str → TS} (he : PE X e te) (hm : PM X cs tc) : PS X (.Match e cs pos) (sMatch X.K te tc) := by
  refine ⟨fun pins s σ H D I h => wpAny_Match (thn (he.run pins s σ H _ I h) fun u s1 ⟨x, H1, I1, r1, p, ws, ex, hp, q⟩ => ?_)⟩
  subst ex
  obtain rfl : u = Value.ref p := r1
  exact hm.run pins s1 σ H1 D p ws true I1 hp q
end
end UX

set_option Elab.async false
set_option linter.all false
set_option maxRecDepth 100000
set_option maxHeartbeats 4000000
/-! C.m(self, ..): a def read off a class; cls(..): the call of a local name that holds a class -/
namespace UX
open PySem PySem.Spec PyProof.Rows L2 UL UV UW ClX
/-- m, read off the class at C, is the def at f -/
structure CFn (K : PySem.W.Frag) (C : Addr) (m : Str) (f : Addr) : Prop where
  at_ : PySem.W.findCls K (.ref C) (.type "type") m = some (.val (.ref f))
  rd : CRead K C (.type "type")
  kp : PySem.W.keepIn K (.ref f) = true
/-- e.m(..), e the class at C, m a def -/
def tBMeth (C : Addr) (sp : Sp) (ta : TE) (t : TA) : TE := fun σ H Q => ta σ H fun x H1 => x = .ref C ∧ t σ H1 fun vs H2 => sp vs H2 Q (fun _ _ _ => False)
/-- cls(..), cls the class at C -/
def tMakeL (i : Nat) (C : Addr) (sp : Sp) (t : TA) : TE := fun σ H Q => σ[i]? = some (some (.ref C)) ∧ t σ H fun vs H1 => ∀ x dx, H1 x = none → H1 dx = none → dx ≠ x → sp (.ref x :: vs) (upd (upd H1 dx (.own x)) x (.ins C dx [])) (fun v H2 => v = .non ∧ Q (.ref x) H2) (fun _ _ _ => False)
section
variable {X : Cx} {k i : Nat} {C f : Addr} {fd : FuncData} {ps : List Str} {sp : Sp} {o e : Expr} {es : List Expr} {m x : Str} {p pos apos : Pos} {ta : TE} {t : TA} {pl : Sem Bool}
theorem pe_bmeth (he : PE X o ta) (c : CFn X.K C m f) (F : FnOk X.prog X.w X.K X.mg X.base (fun _ _ _ _ _ _ => False) k f fd ps sp) (hr : Room k X.A) (hb : Binds X.K fd ps []) (ha : PA X (e :: es) t)
    (hst : starEach (e :: es) X.env = (false, eval e X.env) :: starEach es X.env := by rfl) (hpl : (backTo pos (starEach es X.env)).any (·.1) = false := by rfl)
    (ht : eval (.Call (.Attribute o m apos) (e :: es) [] pos) X.env = (do
      let ov ← eval o X.env
      standAt apos.atName
      let (f, first) ← holding [ov] (getMethod ov m pl)
      callWith pos f first (backTo pos (starEach (e :: es) X.env)) (backToKw pos (keywordEach [] X.env))) := by rfl) :
    PE X (.Call (.Attribute o m apos) (e :: es) [] pos) (tBMeth C sp ta t) := by
  refine ⟨fun pins s σ H Q I h => ?_⟩
  refine PySem.W.methodCall_KW (pl := pl) (thn (he.run pins s σ H _ I h) fun u s1 ⟨x, H1, I1, rx, ex, q⟩ => ?_) ht
  subst ex
  obtain rfl : u = Value.ref C := rx
  refine PySem.W.method_cls I1.kIn c.rd.ga (PySem.W.cls_value I1.kIn c.rd.rd c.at_ (handed_of (v := V.ref f) (u := Value.ref f) rfl) ?_)
  refine PySem.W.callWith_K (first := []) (h₀ := X.base) I.ok.mod.kin c.kp (thn (ha.run pos pins _ σ H1 _ (I1.tok _) q) fun us s2 ⟨vs, H2, I2, r, q2⟩ => ⟨I2.kIn, ?_⟩) hst hpl
  exact run_fn (dvs := []) F hr hb .nil (fun _ _ _ _ _ _ _ z => z.elim) I2 r (by rw [List.append_nil]; exact q2)
theorem pe_makeL (M : Mk X.K C f) (F : FnOk X.prog X.w X.K X.mg X.base (fun _ _ _ _ _ _ => False) k f fd ps sp) (hr : Room (k + 1) X.A) (hN : X.N[i]? = some x) (hv : Vis X.env.scope x) (hb : Binds X.K fd ps []) (ha : PA X (e :: es) t)
    (hdb : (x == ("__debug__" : Str)) = false := by decide) (hcd : (x == ("__classdict__" : Str)) = false := by decide)
    (he : starEach (e :: es) X.env = (false, eval e X.env) :: starEach es X.env := by rfl) (hpl : (backTo pos (starEach es X.env)).any (·.1) = false := by rfl) : PE X (.Call (.Name x p) (e :: es) [] pos) (tMakeL i C sp t) := by
  refine ⟨fun pins s σ H Q I h => ?_⟩
  obtain ⟨hs, ht⟩ := h
  refine wpAny_Call_Name_kw (thn ((pe_var (pos := p) hN hv hdb hcd).run pins s σ H (fun v H1 => v = .ref C ∧ H1 = H) I ⟨.ref C, hs, rfl, rfl⟩) fun u s1 ⟨v, H1, I1, r1, q1⟩ => ?_)
  obtain ⟨rfl, rfl⟩ := q1
  cases r1
  refine PySem.W.callWith_K (h₀ := X.base) I.ok.mod.kin M.kp (thn (ha.run pos pins s1 σ _ _ I1 ht) fun us s2 ⟨vs, H2, I2, r, q⟩ => ⟨I2.kIn, ?_⟩) he hpl
  have q' : ∀ x dx, H2 x = none → H2 dx = none → dx ≠ x → sp (.ref x :: (vs ++ [])) (upd (upd H2 dx (.own x)) x (.ins C dx [])) (fun v H3 => v = .non ∧ Q (.ref x) H3) (fun _ _ _ => False) := fun x dx h1 h2 h3 => by
    rw [List.append_nil]
    exact q x dx h1 h2 h3
  exact run_make (dvs := []) (E := fun _ _ _ => False) M F hr hb .nil (fun _ _ _ _ _ _ _ z => z.elim) I2 r q'
end
end UX

set_option Elab.async false
set_option linter.all false
set_option maxRecDepth 100000
set_option maxHeartbeats 4000000
/-! for n, x in enumerate(list, start=k) -/
namespace UX
open PySem PySem.Spec PyProof.Rows L2 UL UV UW
theorem draws_from {prog : Program} {w : World} {A : Around} {it : Addr} {fp : List Addr} {n : Nat} {P : Nat → Value → Prop} {St : Nat → Heap → Prop} (D : Draws prog w A it fp n P St) (k : Nat) : Draws prog w A it fp (n + k) (fun j v => k ≤ j ∧ P (j - k) v) (fun j h => k ≤ j ∧ St (j - k) h) where
  live := fun _ _ st => D.live _ _ st.2
  frame := fun _ _ _ st hk => ⟨st.1, D.frame _ _ _ st.2 hk⟩
  item := fun j s Q E hj st hQ => D.item (j - k) s Q E (by have := st.1; omega) st.2 fun x h' tk p s1 sb => hQ x h' tk ⟨st.1, p⟩ ⟨by have := st.1; omega, by have := st.1; rw [show j + 1 - k = j - k + 1 by omega]; exact s1⟩ sb
  done := fun s Q E st hE => D.done s Q E (by have := st.2; rw [Nat.add_sub_cancel] at this; exact this) hE
/-- the list at a as it stands at each turn, each item in a new pair, counted from k -/
def IteS (K : PySem.W.Frag) (k : Nat) (a : Addr) : L2.It :=
  ⟨fun i H => ∃ (xs : List V) (x : V), SqL K H a xs ∧ xs[i]? = some x, fun i H v H' => ∃ T x, v = .ref T ∧ H T = none ∧ H' = upd H T (.tup [.int (i + k : Nat), x]) ∧ ∀ xs, SqL K H a xs → xs[i]? = some x, fun i H => ∃ xs : List V, SqL K H a xs ∧ xs.length ≤ i⟩
theorem turn_enumS {P : Program} {w : World} {K : PySem.W.Frag} {elts : List Expr} {kk : Nat} {tpos : Pos} (k : Nat) (a e it : Addr) :
    Turn P w K (.Tuple elts kk tpos) (IteS K k a) [e, it] e (fun i h => (∃ old, IsEnum h e it ((i + k : Nat) : Int) old) ∧ h.IsListIter it a i ∧ e ≠ it ∧ a ≠ it ∧ a ≠ e) where
  mem := by simp
  obj := fun i h st b hb => by
    obtain ⟨⟨old, he⟩, ⟨o, ho, hc, hd⟩, _⟩ := st
    have e' : b = e ∨ b = it := by simpa using hb
    rcases e' with z | z
    · rw [z]; exact ⟨_, he, fun v q => nomatch q⟩
    · rw [z]; exact ⟨o, ho, fun v q => by rw [hd] at q; cases q⟩
  keep := fun i h h' st kp => let ⟨⟨old, he⟩, hi, hne⟩ := st; ⟨⟨old, kp e (by simp) _ he⟩, hi.at fun o q => kp it (by simp) o q, hne⟩
  item := by
    intro X hP hw hK hc i pins s σ H E I hf st hg
    subst hP hw hK
    obtain ⟨⟨old, he⟩, hit, hne, hai, hae⟩ := st
    obtain ⟨xs, x, hq, hx⟩ := hg
    obtain ⟨its, rv, p, hz⟩ := I.list hq
    obtain ⟨u, hu, ru⟩ := rv.get hx
    have hel : e < s.heap.objs.size := Heap.lt_size he
    have hil : it < s.heap.objs.size := by obtain ⟨_, q, _⟩ := hit; exact Heap.lt_size q
    have hix : i < its.toArray.size := by have := (List.getElem?_eq_some_iff.mp hu).1; simpa using this
    have D := draws_from (Draws.list (prog := X.prog) (w := X.w) (A := X.A.in1) (I.ok.hd hc) it a hai its.toArray) k
    refine wpAny_pyNext_enum_itemD (i := i + k) D he ⟨by omega, by rw [Nat.add_sub_cancel]; exact ⟨hit, p.isList⟩⟩ (by omega) hne (by simp only [List.mem_cons, List.not_mem_nil, or_false]; exact fun z => z.elim hne fun z => hae z.symm) fun x' h' tk px ho hst hT hsz hk => ?_
    have hxu : x' = u := by
      have z := px.2
      rw [Nat.add_sub_cancel] at z
      have z2 : its[i]? = some x' := by simpa using z
      exact Option.some.inj (z2.symm.trans hu)
    subst hxu
    have hit' : h'.IsListIter it a (i + 1) := by
      have z := hst.2.1
      rw [show i + k + 1 - k = i + 1 by omega] at z
      exact z
    refine ⟨_, rfl, wpAny_letOwnedTupleGo_enum (s := { s with heap := h', toks := tk + 1 }) ho fun h'' he' sb => ?_⟩
    have hT2 : h''.get? s.heap.objs.size = some { cls := .type "tuple", data := .seq #[.int (i + k : Nat) tk, x'] } := (sb.2 _ (Nat.ne_of_gt hel)).trans hT
    have new : ObjOk X.prog X.w (upd H s.heap.objs.size (.tup [.int (i + k : Nat), x])) h'' s.heap.objs.size (.tup [.int (i + k : Nat), x]) :=
      ⟨by show 2 ≤ sizeLine; decide, [.int (i + k : Nat) tk, x'], .cons ⟨_, rfl⟩ (.cons ru .nil), ⟨_, hT2, rfl, _, rfl⟩⟩
    have I1 : Inv X pins σ (upd H s.heap.objs.size (.tup [.int (i + k : Nat), x])) { s with heap := h'', toks := tk + 1 } :=
      I.turnedNew (ch := [e, it]) (fun b ob hb q => (sb.2 b (fun z => hb (by simp [z]))).trans (hk b ob (fun z => hb (by simp [z])) (fun z => hb (by simp [z])) q)) hf (Nat.le_refl _) new
    refine ⟨.ref s.heap.objs.size, _, I1, rfl, ⟨_, x, rfl, I.hok.fresh (Nat.le_refl _), rfl, fun ys hy => by rw [I.list_inj hy hq]; exact hx⟩, ⟨⟨x', ?_⟩, hit'.at fun o q => (sb.2 it (Ne.symm hne)).trans q, hne, hai, hae⟩, fun b hb => ?_⟩
    · have e1 : ((i + 1 + k : Nat) : Int) = ((i + k : Nat) : Int) + 1 := by omega
      rw [e1]; exact he'
    · have hb' : b < s.heap.objs.size := by
        have e' : b = e ∨ b = it := by simpa using hb
        rcases e' with z | z
        · rw [z]; exact hel
        · rw [z]; exact hil
      rw [upd_ne (Nat.ne_of_lt hb')]
      exact (hf b hb).1
  done := by
    intro X hP hw hK hc i pins s σ H E I hf st hg
    subst hP hw hK
    obtain ⟨⟨old, he⟩, hit, hne, hai, hae⟩ := st
    obtain ⟨xs, hq, hx⟩ := hg
    obtain ⟨its, rv, p, hz⟩ := I.list hq
    obtain ⟨f0, f1, f2, f3, f4, f5⟩ := hf it (by simp)
    have hl := rv.length
    have D : Draws X.prog X.w X.A.in1 it [it, a] (i + k) (fun _ _ => False) (fun j h => j = i + k ∧ h.IsListIter it a i ∧ h.IsList a its.toArray) := {
      live := fun _ _ st => let ⟨o, ho, _⟩ := st.2.1; ⟨o, ho⟩
      frame := fun _ _ _ st kp => ⟨st.1, st.2.1.at fun o q => kp it (by simp) o q, st.2.2.at fun o q => kp a (by simp) o q⟩
      item := fun j s Q E hj st hQ => absurd st.1 (Nat.ne_of_lt hj)
      done := fun s Q E st hE => wpAny_nextOf_list_end (I.ok.hd hc) st.2.1 st.2.2 (by simp; omega) hE }
    exact wpAny_pyNext_enum_endD D he ⟨rfl, hit, p.isList⟩ fun h' eb => ⟨rfl, I.turned (t' := s.toks) (fun b o hb q => eb b o hb q) f0 f1 f3 f4 f5⟩
  self := fun A i s Q E st h => let ⟨⟨_, he⟩, _⟩ := st; wpAny_pyIter_enum he h
theorem cw_typeK {M : Model} {A : Around} {E : Value → Shared → Prop} {s : Shared} {pos : Pos} {T : String} {args : List (Bool × Sem Value)} {kws : List (Option Str × Sem Value)} {Q : Value → Shared → Prop} (hp : (args.any (·.1) || kws.any (·.1.isNone)) = false)
    (h : wpAny M A (evalArgs (.type T) true args kws) (fun a s₁ => wpAny M A (call (.type T) ([] ++ a.pos) a.kw) Q E s₁) E s) : wpAny M A (callWith pos (.type T) [] args kws) Q E s := by
  unfold callWith
  refine wpAny_bind (wpAny_holding (wpAny_mono h (fun a s₁ h₁ => wpAny_bind (wpAny_standAt ?_)) fun _ _ z => z))
  simp only [hp]
  exact wpAny_bind (wpAny_pure (wpAny_bind (wpAny_mono h₁ (fun r s₂ hr => wpAny_bind (wpAny_holding (wpAny_point (wpAny_pure hr)))) fun _ _ z => z)))
def iEnumS (K : PySem.W.Frag) (k : Nat) (ta : TA) : TI := fun σ H R => ta σ H fun vs H1 => ∃ a xs, vs = [.ref a] ∧ SqL K H1 a xs ∧ R (IteS K k a) H1
theorem pi_enumS {X : Cx} {e : Expr} {ta : TA} {p pos tpos cpos kpos : Pos} {elts : List Expr} {kk ck k : Nat} (hk : (k : Int) < 2 ^ 63) (hg : Gl X "enumerate") (hm : X.mg "enumerate" = none) (ha : PA X [e] ta)
    (hs : starEach [e] X.env = [(false, eval e X.env)] := by rfl) : PI X (.Tuple elts kk tpos) (.Call (.Name "enumerate" p) [e] [⟨some "start", .Constant (.int k) ck cpos, kpos⟩] pos) (iEnumS X.K k ta) := by
  refine ⟨fun pins s σ H R I h => ?_⟩
  refine wpAny_Call_Name_kw (ld_blt I hg hm boot_enumerate ?_)
  refine cw_typeK (by rw [hs]; rfl) (evalArgs_kw2 rfl (thn (ha.run pos pins s σ H _ I h) fun us s1 ⟨vs, H1, I1, r1, q1⟩ => ?_) hs)
  refine thn ((pk_cons (nm := some "start") (kpos := kpos) (pe_int (X := X) (i := (k : Int)) (j := ck) (pos := cpos)) pk_nil).run pos pins s1 σ H1 (fun zs H2 => zs = [.int k] ∧ H2 = H1) I1 (show _ ∧ _ from ⟨rfl, rfl⟩)) fun ws s2 ⟨zs, H2, I2, rz, e1, e2⟩ => ?_
  subst e1 e2
  obtain ⟨a, xs, ev, hq, q⟩ := q1
  subst ev
  obtain rfl := Vals.ref1 r1
  cases rz with
  | cons rk rn =>
    cases rn
    obtain ⟨tk, rfl⟩ := rk
    obtain ⟨its, rv, pl, hz⟩ := I2.list hq
    refine enum_begins_start (begins_list a its.toArray) pl.isList (by omega) hk fun h' he hit hsz hkp => wpAny_pyIter_enum he ?_
    have hlt : a < s2.heap.objs.size := by obtain ⟨o, z, _⟩ := pl.isList; exact Heap.lt_size z
    have I3 : Inv X pins σ H2 { s2 with heap := h' } := I2.kept (t' := s2.toks) hkp
    refine ⟨s2.heap.objs.size + 1, [s2.heap.objs.size + 1, s2.heap.objs.size], _, _, H2, rfl, I3, turn_enumS k a (s2.heap.objs.size + 1) s2.heap.objs.size, ⟨⟨.none, by rw [Nat.zero_add]; exact he⟩, ⟨_, hit, rfl, rfl⟩, Nat.succ_ne_self _, Nat.ne_of_lt hlt, Nat.ne_of_lt (Nat.lt_succ_of_lt hlt)⟩, fun b hb => ?_, q⟩
    have hle : s2.heap.objs.size ≤ b := by
      have e' : b = s2.heap.objs.size + 1 ∨ b = s2.heap.objs.size := by simpa using hb
      rcases e' with z | z
      · rw [z]; exact Nat.le_add_right _ _
      · rw [z]; exact Nat.le_refl _
    exact I2.fpOk hle (I2.hok.fresh hle)
theorem walk_enumS {K : PySem.W.Frag} {k : Nat} {a : Addr} {xs : List V} : L2.Walk (IteS K k a) xs.length (fun H => SqL K H a xs) (L2.YPair (fun i => some (.int (i + k : Nat))) (fun i => xs[i]?)) := by
  refine ⟨fun i _ hi q => ⟨xs, xs[i], q, by simp [hi]⟩, fun _ q => ⟨xs, q, Nat.le_refl _⟩, fun i H v H' _ q y => ?_⟩
  obtain ⟨T, x, h1, h2, h3, h4⟩ := y
  exact ⟨T, .int (i + k : Nat), x, h1, h2, h3, rfl, h4 xs q⟩
end UX

set_option Elab.async false
set_option linter.all false
set_option maxRecDepth 100000
set_option maxHeartbeats 4000000
/-! a base's def called by its class's name; a method of one of several classes; a classmethod by its promise -/
namespace UX
open PySem PySem.Spec PyProof.Rows L2 UL UV UW ClX
/-- C.m(self, ..) -/
structure Bn (P : Program) (w : World) (K : PySem.W.Frag) (mg : Str → Option Value) (base : Heap) (k : Nat) (C : Addr) (x m : Str) (sp : Sp) : Prop where
  ex : ∃ (f : Addr) (fd : FuncData) (ps : List Str), FnOk P w K mg base CX0 k f fd ps sp ∧ CFn K C m f ∧ Binds K fd ps [] ∧ mg x = some (.ref C)
/-- C.m(..), m a classmethod -/
structure CMn (P : Program) (w : World) (K : PySem.W.Frag) (mg : Str → Option Value) (base : Heap) (k : Nat) (C : Addr) (x m : Str) (sp : Sp) : Prop where
  ex : ∃ (q g : Addr) (mc : Value), CRead K C mc ∧ CMet K C mc m q g ∧ FnR P w K mg base CX0 k g sp ∧ mg x = some (.ref C)
def tBC (sp : Sp) (t : TA) : TE := fun σ H Q => t σ H fun vs H2 => sp vs H2 Q (fun _ _ _ => False)
/-- the i-th slot holds an object of one of the classes -/
def tMethA (i : Nat) (m : Str) (S : Addr → Sp → Prop) : TE := fun σ H Q => ∃ C sp, S C sp ∧ tMeth C m sp [] (fun _ _ _ => False) (tVar i) tNil σ H Q
section
variable {X : Cx} {k j i : Nat} {C : Addr} {sp : Sp} {e : Expr} {es : List Expr} {m x : Str} {p pos apos : Pos} {t : TA} {pl : Sem Bool}
theorem pe_b (d : Bn X.prog X.w X.K X.mg X.base k C x m sp) (hr : Room j X.A) (hk : k ≤ j) (hg : Gl X x) (ha : PA X (e :: es) t) (hdb : (x == ("__debug__" : Str)) = false := by decide)
    (hst : starEach (e :: es) X.env = (false, eval e X.env) :: starEach es X.env := by rfl) (hpl : (backTo pos (starEach es X.env)).any (·.1) = false := by rfl)
    (ht : eval (.Call (.Attribute (.Name x p) m apos) (e :: es) [] pos) X.env = (do
      let ov ← eval (.Name x p) X.env
      standAt apos.atName
      let (f, first) ← holding [ov] (getMethod ov m pl)
      callWith pos f first (backTo pos (starEach (e :: es) X.env)) (backToKw pos (keywordEach [] X.env))) := by rfl) : PE X (.Call (.Attribute (.Name x p) m apos) (e :: es) [] pos) (tBC sp t) := by
  obtain ⟨f, fd, ps, F, c, hb, hm⟩ := d.ex
  have g : PE X (.Name x p) (tC (.ref C)) := C8.pe_gc (v := .ref C) hg ⟨_, hm, rfl⟩ hdb
  refine ⟨fun pins s σ H Q I h => ?_⟩
  exact (pe_bmeth (pl := pl) g c F (hr.mono hk) hb ha hst hpl ht).run pins s σ H Q I ⟨rfl, h⟩
theorem pe_cm (d : CMn X.prog X.w X.K X.mg X.base k C x m sp) (hr : Room j X.A) (hk : k ≤ j) (hg : Gl X x) (ha : PA X (e :: es) t) (hdb : (x == ("__debug__" : Str)) = false := by decide)
    (hst : starEach (e :: es) X.env = (false, eval e X.env) :: starEach es X.env := by rfl) (hpl : (backTo pos (starEach es X.env)).any (·.1) = false := by rfl)
    (ht : eval (.Call (.Attribute (.Name x p) m apos) (e :: es) [] pos) X.env = (do
      let ov ← eval (.Name x p) X.env
      standAt apos.atName
      let (f, first) ← holding [ov] (getMethod ov m pl)
      callWith pos f first (backTo pos (starEach (e :: es) X.env)) (backToKw pos (keywordEach [] X.env))) := by rfl) : PE X (.Call (.Attribute (.Name x p) m apos) (e :: es) [] pos) (tBC (fun vs H Q E => sp (.ref C :: vs) H Q E) t) := by
  obtain ⟨q, g, mc, r, c, F, hm⟩ := d.ex
  have gl : PE X (.Name x p) (tC (.ref C)) := C8.pe_gc (v := .ref C) hg ⟨_, hm, rfl⟩ hdb
  refine ⟨fun pins s σ H Q I h => ?_⟩
  exact (pe_cmeth (pl := pl) (E := fun _ _ _ => False) gl r c F (hr.mono hk) (fun _ _ _ _ _ _ _ z => z.elim) ha hst hpl ht).run pins s σ H Q I ⟨rfl, h⟩
theorem pe_mA {S : Addr → Sp → Prop} (A : ∀ C sp, S C sp → Mn X.prog X.w X.K X.mg X.base CX0 k C m sp ∧ Cls X.K C) (hr : Room j X.A) (hk : k ≤ j) (he : PE X (.Name x p) (tVar i))
    (ht : eval (.Call (.Attribute (.Name x p) m apos) [] [] pos) X.env = (do
      let ov ← eval (.Name x p) X.env
      standAt apos.atName
      let (f, first) ← holding [ov] (getMethod ov m pl)
      callWith pos f first (backTo pos (starEach [] X.env)) (backToKw pos (keywordEach [] X.env))) := by rfl) : PE X (.Call (.Attribute (.Name x p) m apos) [] [] pos) (tMethA i m S) := by
  refine ⟨fun pins s σ H Q I h => ?_⟩
  obtain ⟨C, sp, hS, h⟩ := h
  obtain ⟨d, c⟩ := A C sp hS
  exact (pe_m' (pl := pl) (E := fun _ _ _ => False) d c hr hk (fun _ _ _ _ _ _ _ z => z.elim) he ht).run pins s σ H Q I h
theorem pe_makeLK {x0 : Str} (d : Kn X.prog X.w X.K X.mg X.base CX0 k C x0 sp) (hr : Room j X.A) (hk : k + 1 ≤ j) (hN : X.N[i]? = some x) (hv : Vis X.env.scope x) (ha : PA X (e :: es) t) (hdb : (x == ("__debug__" : Str)) = false := by decide) (hcd : (x == ("__classdict__" : Str)) = false := by decide)
    (he : starEach (e :: es) X.env = (false, eval e X.env) :: starEach es X.env := by rfl) (hpl : (backTo pos (starEach es X.env)).any (·.1) = false := by rfl) : PE X (.Call (.Name x p) (e :: es) [] pos) (tMakeL i C sp t) := by
  obtain ⟨f, fd, ps, F, M, hb, hm⟩ := d.ex
  exact pe_makeL M F (hr.mono hk) hN hv hb ha hdb hcd he hpl
theorem pm_starL {its : List Itm} {i : Nat} {x : Str} {q' q : Pos} {qs : List Pattern} {body : List Stmt} {cs : List MatchCase} {tb : TS} {tn : List Str → TS} (hN : X.N.Nodup) (hc : X.calm = true) (hq : qs = qs.dropLast ++ [Pattern.MatchStar (some x) q']) (ok : ItsOk X its qs.dropLast) (hx : NmOk X i x)
    (hb : PSs X body tb) (hn : PM X cs tn) (h0 : qs.dropLast.length ≠ 0) (hst : (qs.dropLast ++ [Pattern.MatchStar (some x) q']).findIdx? (·.isStar) = some qs.dropLast.length)
    (hw : ((qs.dropLast ++ [Pattern.MatchStar (some x) q']).all fun p => p.isWildcard || (p.isStar && p.names.isEmpty)) = false) : PM X (⟨.MatchSequence qs q, none, body⟩ :: cs) (sStar its i tb tn) := by
  rw [hq]
  exact pm_star hN hc ok hx hb hn h0 hst hw
end
section
variable {X : Cx}
/-- a tuple as tuple(..) lays it: no dict, no slots -/
def FT (H : Hp) (a : Addr) (xs : List V) : Prop := ∃ o, H a = some (.frz o (.tup xs)) ∧ o.dict = none ∧ o.slots = #[]
def cTupG (K : PySem.W.Frag) : List V → Hp → VK → Prop := fun xs H Q => ∃ p ys, xs = [.ref p] ∧ ((SqL K H p ys ∧ ∀ l o, H l = none → o.dict = none → o.slots = #[] → Q (.ref l) (upd H l (.frz o (.tup ys)))) ∨ (SqT K H p ys ∧ Q (.ref p) H))
theorem call_tupG : CallR X (.type "tuple") (cTupG X.K) := by
  intro pins s σ H xs us Q I r h
  obtain ⟨p, ys, rfl, h⟩ := h
  rcases h with ⟨hq, q⟩ | ⟨hq, q⟩
  · obtain rfl := Vals.ref1 r
    obtain ⟨its, r', pl, hz⟩ := I.list hq
    have hlen := r'.length
    refine call_tuple_list pl.isList (fun h' kp => ?_) (by simp only [List.size_toArray]; omega)
    have I1 : Inv X pins σ H { s with heap := h' } := I.kept (t' := s.toks) kp
    exact ⟨.ref h'.objs.size, _, I1.laid (t' := s.toks) (fun b o e => Heap.get?_push_of_some _ e) (Nat.le_refl _) (show ObjOk X.prog X.w _ _ _ (.frz { cls := .type "tuple", data := .seq its.toArray } (.tup ys)) from ⟨Heap.get?_push_size _ rfl, hz, its, r', IsTup.new _ _⟩), rfl, q _ _ (I1.hok.fresh (Nat.le_refl _)) rfl rfl⟩
  · exact call_tupA pins s σ H _ us Q I r ⟨p, ys, rfl, .inr ⟨hq, q⟩⟩
def rExtendT : V → List V → Hp → VK → Prop := fun x vs H Q => ∃ l b xs zs, x = .ref l ∧ vs = [.ref b] ∧ H l = some (.lst xs) ∧ FT H b zs ∧ xs.length + zs.length ≤ sizeLine ∧ Q .non (upd H l (.lst (xs ++ zs)))
theorem mt_extendT : MtM X "list.extend" rExtendT := by
  intro pins s σ H x vs v us Q I rx rv h
  obtain ⟨l, b, xs, zs, rfl, rfl, hH, ⟨o, hB, hd, hs⟩, hz, q⟩ := h
  cases rx
  obtain ⟨u, rfl, ru⟩ := rv.one
  cases ru
  obtain ⟨z, its, n, r, hl, e⟩ := I.lstM hH
  obtain ⟨e1, hl2, its2, r2, ht⟩ := I.hok b _ hB
  obtain ⟨o2, e2, hc2, n2, hd2⟩ := ht
  cases e1.symm.trans e2
  have r2l := r2.length
  obtain ⟨oc, od, dt, sl⟩ := o
  simp only at hd hs hc2 hd2
  subst hd hs hc2 hd2
  have hsz : its.toArray.size + its2.toArray.size ≤ sizeLine := by rw [List.size_toArray, List.size_toArray]; omega
  have hlong : ¬ (!its.toArray.isEmpty && Builtin.List.listTooLong (its.toArray.size + its2.toArray.size)) = true := by
    rw [notLongL hsz, Bool.and_false]
    exact Bool.false_ne_true
  refine call_meets F.slot_list_extend ⟨_, e, rfl⟩ F.entry_list_extend (F.args_list_extend_2 _ _) (AutoSeq1.list_extend_list_tuple_0 l its.toArray n b its2.toArray n2 hlong (by rw [List.size_toArray]; omega) (by omega)) ⟨e, e1, ?_⟩
  refine ⟨.non, _, I.lset (its' := its ++ its2) hH e (by simp) (r.append r2) (by rw [List.length_append]; omega), rfl, q⟩
end
end UX

set_option Elab.async false
set_option linter.all false
set_option maxRecDepth 100000
set_option maxHeartbeats 4000000
/-! k01: what the top leaves, by names -/
namespace U
open PySem L2 UL
def top (i : Nat) : Stmt := PySem.Challenge.pw_untoldrule_k09_systems_are_refused.main.body.getD i (.Pass ⟨0, 0, 0, 0⟩)
local macro_rules | `(tactic| walk_at "rd") => `(tactic| simp only [tSeq, tAsg, tOp, tCB, tCons, tNil, tVar, tC, rI, rI0, gName, tRet, L2.start, List.length_cons, List.length_nil, List.map_cons, List.map_nil, List.replicate, List.cons_append, List.nil_append, List.getElem?_cons_zero, List.getElem?_cons_succ, List.set_cons_zero, List.set_cons_succ, Option.some.injEq, exists_eq_left', exists_eq_left, V.int.injEq, V.bl.injEq, V.str.injEq, V.ref.injEq, V.ty.injEq, List.cons.injEq, and_true, true_and, reduceCtorEq, false_and, exists_false, or_false, false_or, exists_and_left, exists_and_right])
/-- names that the module does not take -/
structure Nm (mg : Str → Option Value) : Prop where
  n_int : mg "int" = none
  n_bool : mg "bool" = none
  n_str : mg "str" = none
  n_list : mg "list" = none
  n_tuple : mg "tuple" = none
  n_set : mg "set" = none
  n_len : mg "len" = none
  n_abs : mg "abs" = none
  n_all : mg "all" = none
  n_iter : mg "iter" = none
  n_range : mg "range" = none
  n_zip : mg "zip" = none
  n_isinstance : mg "isinstance" = none
  c_LETTERS : ∃ u, mg "LETTERS" = some u ∧ RelV (.str "abcdefghijklmnopqrstuvwxyz") u
  c_MOST_LETTERS : ∃ u, mg "MOST_LETTERS" = some u ∧ RelV (.int 8) u
  c_MOST_CELLS : ∃ u, mg "MOST_CELLS" = some u ∧ RelV (.int 3) u
/-- list or tuple -/
def ItA : Kd → PySem.W.Frag → Addr → It
  | .l, K, a => Itl K a
  | .t, K, a => Itt K a
def iAny (K : PySem.W.Frag) (te : TE) : TI := fun σ H R => iList K te σ H R ∨ iTup K te σ H R
theorem pi_any {X : Cx} {tg l : Expr} {tl : TE} (hl : PE X l tl) : PI X tg l (iAny X.K tl) :=
  ⟨fun pins s σ H R I h => h.elim (fun z => (pi_list hl).run pins s σ H R I z) fun z => (pi_tup hl).run pins s σ H R I z⟩
def SqA (K : PySem.W.Frag) (H : Hp) (a : Addr) (xs : List V) : Prop := ∃ k : Kd, k.Sq K H a xs
theorem iAny_var {K : PySem.W.Frag} {i : Nat} {σ : L2.St} {H : Hp} {R : It → Hp → Prop} : iAny K (tVar i) σ H R ↔ ∃ v a k, σ[i]? = some (some v) ∧ v = .ref a ∧ (∃ xs, Kd.Sq k K H a xs) ∧ R (ItA k K a) H := by
  constructor
  · rintro (⟨v, h, a, e, x, r⟩ | ⟨v, h, a, e, x, r⟩)
    · exact ⟨v, a, .l, h, e, x, r⟩
    · exact ⟨v, a, .t, h, e, x, r⟩
  · rintro ⟨v, a, k, h, e, x, r⟩
    cases k
    · exact .inl ⟨v, h, a, e, x, r⟩
    · exact .inr ⟨v, h, a, e, x, r⟩
theorem walk_any {K : PySem.W.Frag} {a : Addr} {xs : List V} : ∀ k : Kd, L2.Walk (ItA k K a) xs.length (fun H => k.Sq K H a xs) (L2.YAt xs)
  | .l => L2.walk_list
  | .t => L2.walk_tup
theorem Kd.same {k : Kd} {K : PySem.W.Frag} {a : Addr} {H H' : Hp} {xs : List V} (s : Same H H') (h : k.Sq K H a xs) : k.Sq K H' a xs := match k, h with
  | .l, h => UL.Same.sqL s h
  | .t, h => UL.Same.sqT s h
theorem Kd.len {k : Kd} {K : PySem.W.Frag} {a : Addr} {H : Hp} {Q : VK} {xs : List V} (h : k.Sq K H a xs) (q : Q (.int xs.length) H) : cLen K [.ref a] H Q := match k, h with
  | .l, h => lenL h q
  | .t, h => lenT h q
theorem Kd.or {k : Kd} {K : PySem.W.Frag} {a : Addr} {H : Hp} {xs : List V} (h : k.Sq K H a xs) : SqL K H a xs ∨ SqT K H a xs := match k, h with
  | .l, h => .inl h
  | .t, h => .inr h
theorem fj_any {K : PySem.W.Frag} {a : Addr} {xs : List V} {g : TG} {tb : TS} {D : Ends} {σ : L2.St} {H : Hp} (k : Kd) (Pv : Nat → L2.St → Hp → Prop) (h0 : Pv 0 σ H) (hl : ∀ i σ H, i ≤ xs.length → Pv i σ H → k.Sq K H a xs)
    (hs : ∀ i x σ H, xs[i]? = some x → Pv i σ H → g x σ H fun σ2 H2 => tb { D with nx := Pv (i + 1), ct := Pv (i + 1), bk := D.nx } σ2 H2) (hd : ∀ σ H, Pv xs.length σ H → D.nx σ H) : FJ (ItA k K a) g tb D σ H := match k, hl with
  | .l, hl => FJ.list Pv h0 hl hs hd
  | .t, hl => FJ.tup Pv h0 hl hs hd
/-- what isinstance asks of an own class -/
structure CI (K : PySem.W.Frag) (C : Addr) : Prop where
  ha : PySem.W.findIn K (.ref C) "__class__" = some (some (.builtin "object.__class__"))
  hn : PySem.W.specialIn K (.builtin "object.__class__") "__get__" = some (some (.builtin "getset_descriptor.__get__"))
  ht : PySem.W.takesIn K (.builtin "object.__class__") = some true
  hm : PySem.W.mroIn K C (.type "object") = some true
theorem CI.ty {K : PySem.W.Frag} {C a dx : Addr} {fs : List (Str × V)} {H : Hp} (i : CI K C) (c : Cls K C) (e : H a = some (.ins C dx fs)) : TyX K H (.ref a) (.ref C) := .base (.ins e c i.ha i.hn i.ht i.hm)
/-- what the top of the programs leaves -/
structure PT (K : PySem.W.Frag) (mg : Str → Option Value) (R Wr B Pg : Addr) : Prop extends Nm mg where
  n_enumerate : mg "enumerate" = none
  c_MOST_STEPS : ∃ u, mg "MOST_STEPS" = some u ∧ RelV (.int 4) u
  c_MOST_ARGUMENTS : ∃ u, mg "MOST_ARGUMENTS" = some u ∧ RelV (.int 3) u
  c_Read : ∃ u, mg "Read" = some u ∧ RelV (.ref R) u
  c_Write : ∃ u, mg "Write" = some u ∧ RelV (.ref Wr) u
  c_ReadWrite : ∃ u, mg "ReadWrite" = some u ∧ RelV (.ref B) u
  cR : Cls K R
  cW : Cls K Wr
  cB : Cls K B
  cP : Cls K Pg
  aR_source : NoAttr K R "source"
  aR_local : NoAttr K R "local"
  aW_target : NoAttr K Wr "target"
  aW_function : NoAttr K Wr "function"
  aW_arguments : NoAttr K Wr "arguments"
  aB_source : NoAttr K B "source"
  aB_local : NoAttr K B "local"
  aB_target : NoAttr K B "target"
  aB_function : NoAttr K B "function"
  aB_arguments : NoAttr K B "arguments"
  aP_name : NoAttr K Pg "name"
  aP_steps : NoAttr K Pg "steps"
  iR : CI K R
  iW : CI K Wr
  iB : CI K B
  kRR : PySem.W.kitOne K (.ref R) (.ref R) = some true
  kWR : PySem.W.kitOne K (.ref Wr) (.ref R) = some false
  kBR : PySem.W.kitOne K (.ref B) (.ref R) = some true
  kRW : PySem.W.kitOne K (.ref R) (.ref Wr) = some false
  kRB : PySem.W.kitOne K (.ref R) (.ref B) = some false
  kWW : PySem.W.kitOne K (.ref Wr) (.ref Wr) = some true
  kWB : PySem.W.kitOne K (.ref Wr) (.ref B) = some false
  kBW : PySem.W.kitOne K (.ref B) (.ref Wr) = some true
  kBB : PySem.W.kitOne K (.ref B) (.ref B) = some true
end U

set_option Elab.async false
set_option linter.all false
set_option maxRecDepth 100000
set_option maxHeartbeats 4000000
set_option pp.deepTerms true
set_option pp.maxSteps 400000
namespace U
open PySem PySem.Spec PyProof.Rows L2 UL UX
local macro_rules | `(tactic| walk_at "rd") => `(tactic| simp only [sMatch, tJs, tFmt, tBC, tMethA, tMakeL, iEnumS, tSeq, tAsg, tOp, tCB, tCons, tNil, tVar, tC, tB, tTest, tNot, tIfS, tNext, tYes, tUn, rU, tM0, tGFrom, tGThen, tG0, tYfLst, gcxK, tSubO, tProp, tListG, tMethG, tBMF, tFld, sFld, tMeth, tMake, tSl, tNoPart, tPart, tM1, gTup, gCons, gNil, tDrop, tFor_eq, tLc_eq, tLc2_eq, iRng1_eq, StX.tStar, iList, iTup, iStr, iAny_var, iZipB, tLenSetS, wipe, tVar, tAndV, tOrV, tNotV, tOr, tAnd, tLst, tTup, tBM, tBM0, tChain, tCall, cxK, noxK, addII, addSS, mulII, eqII, neII, neSS, cIntI, cAbsI, rI, rI0, rLt, rLe, rGt_, rGe_, rSub_, rMod, rPow, rDivW, rNeg, gName, tRet, L2.start, List.length_cons, List.length_nil, List.map_cons, List.map_nil, List.replicate, List.cons_append, List.nil_append, List.getElem?_cons_zero, List.getElem?_cons_succ, List.set_cons_zero, List.set_cons_succ, Option.some.injEq, exists_eq_left', exists_eq_left, V.int.injEq, V.bl.injEq, V.str.injEq, V.ref.injEq, V.ty.injEq, List.cons.injEq, and_true, true_and, reduceCtorEq, false_and, exists_false, or_false, false_or, exists_and_left, exists_and_right, List.append_nil, forall_eq, decide_eq_true_eq, Bool.not_eq_true, Nat.reduceAdd, Nat.reduceSub, List.replicate_zero, List.replicate_succ, Nat.zero_le, ite_true, ite_false, if_true, if_false])
section
variable {P : Program} {w : World} {K : PySem.W.Frag} {mg : Str → Option Value} {base : Heap}

abbrev abc : Str := "abcdefghijklmnopqrstuvwxyz"
def nmB (z : Str) : Bool := decide (1 ≤ z.length) && decide (z.length ≤ 8) && z.cps.toList.all fun c => decide (c ∈ abc.cps.toList)
abbrev s_is_name : Stmt := top 11
abbrev sc_is_name_N : List Str := ["word", ".0", "letter"]
theorem sc_is_name : FnScope sc_is_name_N ["word"] (defScope s_is_name) := ⟨rfl, rfl, rfl, by decide +kernel, rfl, by decide +kernel, by decide +kernel⟩
-- 0 word, 1 .0, 2 letter
/-- any text -/
def sp_isnm : Sp := fun vs H Q _ => ∃ z : Str, vs = [.str z] ∧ z.length ≤ 1000 ∧ ∀ H', Same H H' → Q (.bl (nmB z)) H'
theorem d_isnm (T : Nm mg) (D : TD K mg "is_name" s_is_name) : Dn P w K mg base CX0 1 "is_name" sp_isnm := by
  refine D.dn sc_is_name (fun _ _ _ _ _ _ us hl => match us, hl with | [_], _ => rfl) (fun vs H Q E h => ?_) (fun f cdv A outer s H vs Q E hr h => ?_)
  · obtain ⟨p, rfl, _⟩ := h; rfl
  · obtain ⟨z, rfl, hz, q⟩ := h
    refine ⟨_, (pss_one (ps_ret (pe_and (pe_chain op_leA op_leA pe_int (pe_callB call_lenA (by rfl) T.n_len (by decide +kernel) (pa_cons (pv 0) pa_nil)) (C8.pe_gc (by rfl) T.c_MOST_LETTERS)) (pe_one (pe_callB (cr_all rfl) (by rfl) T.n_all (by decide +kernel) (pa_cons (pe_lc (own := [(".0", 1), ("letter", 2)]) (g := (gName 2)) (tt := tYes) rfl sc_is_name.nd (pi_str (pv 0)) (blkOk_by (N := sc_is_name_N) (sc := defScope s_is_name) (by decide +kernel)) (fun _ _ _ _ _ => pg_name (i := 2) sc_is_name.nd rfl (Or.inl rfl)) (fun _ _ _ _ _ => pts_nil) (fun _ _ _ _ _ => (pe_cmpR (op_inK K rfl) (pv 2) (C8.pe_gc (by rfl) T.c_LETTERS) (by with_unfolding_all rfl)))) pa_nil)))))), ?_⟩
    walk_at "rd"
    have hl : z.cps.size = z.length := rfl
    refine lenS (by rw [sizeLine_eq]; omega) ⟨_, rfl, ?_⟩
    by_cases h1 : 1 ≤ z.length
    · rw [if_pos (by omega)]
      refine ⟨_, rfl, ?_⟩
      by_cases h2 : z.length ≤ 8
      · rw [if_pos (by omega)]
        refine fun D hD => LJ.it walk_str (fun i H' => ∃ bs : List Bool, bs = (z.cps.toList.take i).map (fun c => decide (c ∈ abc.cps.toList)) ∧ H' = upd H D (.lst (bs.map V.bl))) ⟨[], rfl, rfl⟩ (fun _ _ _ _ => trivial) (fun i x H1 H2 hi e y => ?_) fun H2 e => ?_
        · obtain ⟨rfl, c, hc, rfl⟩ := y
          obtain ⟨bs, hb, rfl⟩ := e
          refine ⟨rfl, ?_⟩
          walk_at "rd"
          have hbl : bs.length ≤ 8 := by rw [hb, List.length_map, List.length_take, Array.length_toList]; omega
          refine .inl ⟨c, _, rfl, rfl, _, upd_same, by rw [List.length_map, sizeLine_eq]; omega, ?_⟩
          have hc' : z.cps.toList[i]? = some c := by rw [Array.getElem?_toList]; exact hc
          rw [upd_upd, List.take_add_one, hc', hb]
          simp
        · obtain ⟨bs, hb, rfl⟩ := e
          refine ⟨D, bs, rfl, .inl (.inl upd_same), ?_⟩
          have e1 : bs.all id = nmB z := by
            have hn : z.cps.toList.take z.cps.size = z.cps.toList := List.take_of_length_le (by simp)
            rw [hb]
            simp only [hn, nmB, decide_eq_true h1, decide_eq_true h2, Bool.true_and, List.all_map]
            rfl
          rw [e1]; exact q _ (UL.Same.new hD)
      · rw [if_neg (by omega)]
        have e1 : nmB z = false := by simp [nmB, h2]
        rw [← e1]; exact q _ fun _ _ z => z
    · rw [if_neg (by omega)]
      have e1 : nmB z = false := by simp [nmB, h1]
      rw [← e1]; exact q _ fun _ _ z => z
theorem len_app (x y : Str) : (x ++ y).length = x.length + y.length := by show (x.cps ++ y.cps).size = _; simp; rfl
theorem nil_app (x : Str) : Str.empty ++ x = x := by
  show (⟨#[] ++ x.cps⟩ : Str) = x
  simp
abbrev s_read_text : Stmt := top 18
abbrev sc_read_text_N : List Str := ["source", "local"]
theorem sc_read_text : FnScope sc_read_text_N ["source", "local"] (defScope s_read_text) := ⟨rfl, rfl, rfl, by decide +kernel, rfl, by decide +kernel, by decide +kernel⟩
-- 0 source, 1 local
def rdT (s l : Str) : Str := "read " ++ s ++ " as " ++ l
def sp_readt : Sp := fun vs H Q _ => ∃ s l : Str, vs = [.str s, .str l] ∧ s.length ≤ 1000 ∧ l.length ≤ 1000 ∧ Q (.str (rdT s l)) H
theorem d_readt (T : Nm mg) (D : TD K mg "read_text" s_read_text) : Dn P w K mg base CX0 1 "read_text" sp_readt := by
  refine D.dn sc_read_text (fun _ _ _ _ _ _ us hl => match us, hl with | [_, _], _ => rfl) (fun vs H Q E h => ?_) (fun f cdv A outer s H vs Q E hr h => ?_)
  · obtain ⟨p, l, rfl, _⟩ := h; rfl
  · obtain ⟨s, l, rfl, hs, hl, q⟩ := h
    refine ⟨_, (pss_one (ps_ret (pe_joined (PJ.cons pe_str (PJ.cons (pe_fmt (pv 0)) (PJ.cons pe_str (PJ.cons (pe_fmt (pv 1)) PJ.nil))))))), ?_⟩
    walk_at "rd"
    have l1 : ("read " : Str).length = 5 := by decide +kernel
    have l2 : (" as " : Str).length = 4 := by decide +kernel
    rw [nil_app]
    refine ⟨?_, ?_, ?_, ?_, ?_, ?_, q⟩ <;> simp only [len_app, l1, l2, sizeLine_eq] <;> omega
def wrT (t f : Str) (xs : List Str) : List Str := (("write" : Str) :: t :: ("by" : Str) :: f :: (if xs = [] then [] else ("of" : Str) :: xs))
theorem sum_le {m : Nat} : ∀ {l : List Str}, (∀ x ∈ l, x.length ≤ m) → (l.map (·.length)).sum ≤ l.length * m
  | [], _ => by simp
  | x :: r, h => by
    have h1 := h x List.mem_cons_self
    have h2 := sum_le (l := r) fun y hy => h y (List.mem_cons_of_mem _ hy)
    rw [List.map_cons, List.sum_cons, List.length_cons, Nat.add_mul]
    omega
theorem FT.sq {H : Hp} {a : Addr} {xs : List V} (h : FT H a xs) : SqT K H a xs := let ⟨o, e, _⟩ := h; .inl (.inr ⟨o, e⟩)
theorem FT.same {H H' : Hp} {a : Addr} {xs : List V} (s : Same H H') (h : FT H a xs) : FT H' a xs := let ⟨o, e, d⟩ := h; ⟨o, s _ _ e, d⟩
theorem FT.but {H H' : Hp} {a p : Addr} {xs : List V} (s : But p H H') (n : a ≠ p) (h : FT H a xs) : FT H' a xs := let ⟨o, e, d⟩ := h; ⟨o, s _ _ e n, d⟩
theorem FT.ne {H : Hp} {a p : Addr} {xs : List V} (h : FT H a xs) (hp : H p = none) : a ≠ p := let ⟨_, e, _⟩ := h; ne_of_none e hp
theorem l_write : ("write" : Str).length = 5 := by decide +kernel
theorem l_by : ("by" : Str).length = 2 := by decide +kernel
theorem l_of : ("of" : Str).length = 2 := by decide +kernel
theorem l_sp : (" " : Str).length = 1 := by decide +kernel
theorem wr_len {t f : Str} {xs : List Str} (ht : t.length ≤ 1000) (hf : f.length ≤ 1000) (hx : ∀ x ∈ xs, x.length ≤ 1000) : ∀ x ∈ wrT t f xs, x.length ≤ 1000 := by
  intro x h
  unfold wrT at h
  rcases List.mem_cons.mp h with rfl | h
  · rw [l_write]; omega
  rcases List.mem_cons.mp h with rfl | h
  · exact ht
  rcases List.mem_cons.mp h with rfl | h
  · rw [l_by]; omega
  rcases List.mem_cons.mp h with rfl | h
  · exact hf
  by_cases e : xs = []
  · rw [if_pos e] at h; cases h
  · rw [if_neg e] at h
    rcases List.mem_cons.mp h with rfl | h
    · rw [l_of]; omega
    · exact hx x h
theorem wr_many {t f : Str} {xs : List Str} : (wrT t f xs).length ≤ xs.length + 5 := by
  unfold wrT
  by_cases e : xs = []
  · rw [if_pos e]; simp
  · rw [if_neg e]; simp
abbrev s_write_text : Stmt := top 19
abbrev sc_write_text_N : List Str := ["target", "function", "arguments", "words"]
theorem sc_write_text : FnScope sc_write_text_N ["target", "function", "arguments"] (defScope s_write_text) := ⟨rfl, rfl, rfl, by decide +kernel, rfl, by decide +kernel, by decide +kernel⟩
-- 0 target, 1 function, 2 arguments, 3 words
def sp_writet : PySem.W.Frag → Sp := fun K vs H Q _ => ∃ (t f : Str) (a : Addr) (xs : List Str), vs = [.str t, .str f, .ref a] ∧ FT H a (xs.map V.str) ∧ t.length ≤ 1000 ∧ f.length ≤ 1000 ∧ (∀ x ∈ xs, x.length ≤ 1000) ∧ xs.length ≤ 100 ∧ ∀ H', Same H H' → Q (.str (Txt.join " " (wrT t f xs))) H'
theorem d_writet (T : Nm mg) (D : TD K mg "write_text" s_write_text) : Dn P w K mg base CX0 1 "write_text" (sp_writet K) := by
  refine D.dn sc_write_text (fun _ _ _ _ _ _ us hl => match us, hl with | [_, _, _], _ => rfl) (fun vs H Q E h => ?_) (fun f cdv A outer s H vs Q E hr h => ?_)
  · obtain ⟨p, l, a, xs, rfl, _⟩ := h; rfl
  · obtain ⟨t, f, a, xs, rfl, ha, ht, hf, hx, hn, q⟩ := h
    refine ⟨_, (pss_cons (ps_set (i := 3) sc_write_text.nd rfl (Or.inl rfl) (pe_lst (pa_cons pe_str (pa_cons (pv 0) (pa_cons pe_str (pa_cons (pv 1) pa_nil))))))
      (pss_cons (ps_if (pt_truth (pv 2) (fun _ => rfl)) (pss_cons (ps_expr (pe_bm PySem.F.plainAttrs_list PySem.F.slot_list_append PySem.F.type_list_append mt_append (pv 3) (pa_cons pe_str pa_nil)))
      (pss_one (ps_expr (pe_bm PySem.F.plainAttrs_list PySem.F.slot_list_extend PySem.F.type_list_extend mt_extendT (pv 3) (pa_cons (pv 2) pa_nil))))) pss_nil)
      (pss_one (ps_ret (pe_join pe_str (pv 3)))))), ?_⟩
    walk_at "rd"
    have hj : ((wrT t f xs).map (·.length)).sum + (wrT t f xs).length * (" " : Str).length ≤ 16777216 := by
      have h1 := sum_le (wr_len ht hf hx)
      have h2 := wr_many (t := t) (f := f) (xs := xs)
      rw [l_sp]
      have h3 : (wrT t f xs).length * 1000 ≤ 105 * 1000 := Nat.mul_le_mul_right _ (by omega)
      omega
    refine ⟨by rw [sizeLine_eq]; decide, fun p hp => ⟨!(xs.map V.str).isEmpty, .inr (.inl ⟨_, FT.sq (FT.same (UL.Same.new hp) ha), rfl⟩), ?_⟩⟩
    by_cases e : xs = []
    · subst e
      rw [if_neg (by simp)]
      exact ⟨⟨_, rfl⟩, wrT t f [], .inl (.inl (.inl upd_same)), hj, q _ (UL.Same.new hp)⟩
    · rw [if_pos (by simp [e])]
      have ew : wrT t f xs = (("write" : Str) :: t :: ("by" : Str) :: f :: ("of" : Str) :: xs) := by unfold wrT; rw [if_neg e]
      refine ⟨.inl ⟨rfl, _, .inl (.inl upd_same)⟩, p, _, _, rfl, rfl, upd_same, by rw [sizeLine_eq]; simp, .inl ⟨rfl, _, .inl (.inl upd_same)⟩, p, a, _, xs.map V.str, rfl, rfl, upd_same, ?_, ?_, ⟨_, rfl⟩, wrT t f xs, .inl (.inl (.inl ?_)), hj, ?_⟩
      · rw [upd_upd]; exact FT.same (UL.Same.new hp) ha
      · simp only [List.length_append, List.length_cons, List.length_nil, List.length_map, sizeLine_eq]; omega
      · rw [upd_same, ew]; simp
      · rw [upd_upd, upd_upd]; exact q _ (UL.Same.new hp)
end
end U

set_option Elab.async false
set_option linter.all false
set_option maxRecDepth 100000
set_option maxHeartbeats 4000000
set_option pp.deepTerms true
set_option pp.maxSteps 400000
namespace U
open PySem PySem.Spec PyProof.Rows L2 UL UX
local macro_rules | `(tactic| walk_at "rd") => `(tactic| simp only [sMatch, tJs, tFmt, tBC, tMethA, tMakeL, iEnumS, tSeq, tAsg, tOp, tCB, tCons, tNil, tVar, tC, tB, tTest, tNot, tIfS, tNext, tYes, tUn, rU, tM0, tGFrom, tGThen, tG0, tYfLst, gcxK, tSubO, tProp, tListG, tMethG, tBMF, tFld, sFld, tMeth, tMake, tSl, tNoPart, tPart, tM1, gTup, gCons, gNil, tDrop, tFor_eq, tLc_eq, tLc2_eq, iRng1_eq, StX.tStar, iList, iTup, iStr, iAny_var, iZipB, tLenSetS, wipe, tVar, tAndV, tOrV, tNotV, tOr, tAnd, tLst, tTup, tBM, tBM0, tChain, tCall, cxK, noxK, addII, addSS, mulII, eqII, neII, neSS, cIntI, cAbsI, rI, rI0, rLt, rLe, rGt_, rGe_, rSub_, rMod, rPow, rDivW, rNeg, gName, tRet, L2.start, List.length_cons, List.length_nil, List.map_cons, List.map_nil, List.replicate, List.cons_append, List.nil_append, List.getElem?_cons_zero, List.getElem?_cons_succ, List.set_cons_zero, List.set_cons_succ, Option.some.injEq, exists_eq_left', exists_eq_left, V.int.injEq, V.bl.injEq, V.str.injEq, V.ref.injEq, V.ty.injEq, List.cons.injEq, and_true, true_and, reduceCtorEq, false_and, exists_false, or_false, false_or, exists_and_left, exists_and_right, List.append_nil, forall_eq, decide_eq_true_eq, Bool.not_eq_true, Nat.reduceAdd, Nat.reduceSub, List.replicate_zero, List.replicate_succ, Nat.zero_le, ite_true, ite_false, if_true, if_false])
section
variable {P : Program} {w : World} {K : PySem.W.Frag} {mg : Str → Option Value} {base : Heap}

/-- a step: a read, a write, both -/
inductive Sk where
  | rd (s l : Str)
  | wr (t f : Str) (xs : List Str)
  | rw (s l t f : Str) (xs : List Str)
def fsR (s l : Str) : List (Str × V) := [("source", .str s), ("local", .str l)]
def fsW (t f : Str) (p : Addr) : List (Str × V) := [("target", .str t), ("function", .str f), ("arguments", .ref p)]
def Sk.cls (R Wr B : Addr) : Sk → Addr
  | .rd .. => R
  | .wr .. => Wr
  | .rw .. => B
def Sk.src : Sk → List Str
  | .rd s _ | .rw s _ _ _ _ => [s]
  | .wr .. => []
def Sk.tgt : Sk → List Str
  | .rd .. => []
  | .wr t _ _ | .rw _ _ t _ _ => [t]
def Sk.line : Sk → Str
  | .rd s l => rdT s l
  | .wr t f xs => Txt.join " " (wrT t f xs)
  | .rw s l t f xs => rdT s l ++ " " ++ Txt.join " " (wrT t f xs)
def Sk.small : Sk → Prop
  | .rd s l => s.length ≤ 1000 ∧ l.length ≤ 1000
  | .wr t f xs => t.length ≤ 1000 ∧ f.length ≤ 1000 ∧ (∀ x ∈ xs, x.length ≤ 1000) ∧ xs.length ≤ 100
  | .rw s l t f xs => (s.length ≤ 1000 ∧ l.length ≤ 1000) ∧ t.length ≤ 1000 ∧ f.length ≤ 1000 ∧ (∀ x ∈ xs, x.length ≤ 1000) ∧ xs.length ≤ 100
/-- the object at a is this step -/
def StA (H : Hp) (R Wr B a : Addr) : Sk → Prop
  | .rd s l => ∃ dx, H a = some (.ins R dx (fsR s l))
  | .wr t f xs => ∃ dx p, H a = some (.ins Wr dx (fsW t f p)) ∧ FT H p (xs.map V.str)
  | .rw s l t f xs => ∃ dx p, H a = some (.ins B dx (fsR s l ++ fsW t f p)) ∧ FT H p (xs.map V.str)
theorem StA.same {H H' : Hp} {R Wr B a : Addr} {k : Sk} (s : Same H H') (h : StA H R Wr B a k) : StA H' R Wr B a k := by
  cases k with
  | rd => obtain ⟨dx, e⟩ := h; exact ⟨dx, s _ _ e⟩
  | wr => obtain ⟨dx, p, e, q⟩ := h; exact ⟨dx, p, s _ _ e, FT.same s q⟩
  | rw => obtain ⟨dx, p, e, q⟩ := h; exact ⟨dx, p, s _ _ e, FT.same s q⟩
variable {R Wr B Pg : Addr}
theorem n12 : ("source" : Str) ≠ "local" := by decide +kernel
theorem n13 : ("source" : Str) ≠ "target" := by decide +kernel
theorem n14 : ("source" : Str) ≠ "function" := by decide +kernel
theorem n15 : ("source" : Str) ≠ "arguments" := by decide +kernel
theorem n23 : ("local" : Str) ≠ "target" := by decide +kernel
theorem n24 : ("local" : Str) ≠ "function" := by decide +kernel
theorem n25 : ("local" : Str) ≠ "arguments" := by decide +kernel
theorem n34 : ("target" : Str) ≠ "function" := by decide +kernel
theorem n35 : ("target" : Str) ≠ "arguments" := by decide +kernel
theorem n45 : ("function" : Str) ≠ "arguments" := by decide +kernel
abbrev s_Read___init__ : Stmt := inClass (top 20) 0
abbrev sc_Read___init___N : List Str := ["self", "source", "local"]
theorem sc_Read___init__ : FnScope sc_Read___init___N ["self", "source", "local"] (defScope s_Read___init__) := ⟨rfl, rfl, rfl, by decide +kernel, rfl, by decide +kernel, by decide +kernel⟩
-- 0 self, 1 source, 2 local
def sp_initR (R B : Addr) : Sp := fun vs H Q _ => ∃ (x dx C : Addr) (s l : Str), vs = [.ref x, .str s, .str l] ∧ (C = R ∨ C = B) ∧ H x = some (.ins C dx []) ∧ Q .non (upd H x (.ins C dx (fsR s l)))
theorem m_initR {C0 : Addr} (T : PT K mg R Wr B Pg) (D : MD K C0 "__init__" "Read.__init__" s_Read___init__) : Mn P w K mg base CX0 1 C0 "__init__" (sp_initR R B) := by
  refine D.mn sc_Read___init__ (fun _ _ _ _ _ _ us hl => match us, hl with | [_, _, _], _ => rfl) (fun vs H Q E h => ?_) (fun f cdv A outer s H vs Q E hr h => ?_)
  · obtain ⟨x, dx, C, s, l, rfl, _⟩ := h; rfl
  · obtain ⟨x, dx, C, sr, l, rfl, hC, hx, q⟩ := h
    have c1 : Cls K C := by rcases hC with rfl | rfl; exact T.cR; exact T.cB
    have c2 : NoAttr K C "source" := by rcases hC with rfl | rfl; exact T.aR_source; exact T.aB_source
    have c3 : NoAttr K C "local" := by rcases hC with rfl | rfl; exact T.aR_local; exact T.aB_local
    refine ⟨_, (pss_cons (ps_fld (pv 0) (pv 1) rfl)
      (pss_one (ps_fld (pv 0) (pv 2) rfl))), ?_⟩
    walk_at "rd"
    refine ⟨C, dx, [], hx, c1, c2, by decide, C, dx, _, upd_same, c1, c3, by show 1 < 1000; decide, ?_⟩
    rw [upd_upd]
    have e : putF "local" (V.str l) (putF "source" (V.str sr) []) = fsR sr l := by simp [putF, n12, fsR]
    rw [e]; exact q
theorem sqL_ins {H : Hp} {x b C dx : Addr} {f0 : List (Str × V)} {o : HO} {ys : List V} (hx : H x = some (.ins C dx f0)) (h : SqL K H b ys) : SqL K (upd H x o) b ys := by
  rcases h with (h | ⟨o', h⟩) | h
  · exact .inl (.inl (by rw [upd_ne (fun e => by rw [e, hx] at h; cases h)]; exact h))
  · exact .inl (.inr ⟨o', by rw [upd_ne (fun e => by rw [e, hx] at h; cases h)]; exact h⟩)
  · exact .inr h
theorem FT.ins {H : Hp} {x b C dx : Addr} {f0 : List (Str × V)} {o : HO} {ys : List V} (hx : H x = some (.ins C dx f0)) (h : FT H b ys) : FT (upd H x o) b ys := by
  obtain ⟨o', h, d⟩ := h
  exact ⟨o', by rw [upd_ne (fun e => by rw [e, hx] at h; cases h)]; exact h, d⟩
abbrev s_Write___init__ : Stmt := inClass (top 21) 0
abbrev sc_Write___init___N : List Str := ["self", "target", "function", "arguments"]
theorem sc_Write___init__ : FnScope sc_Write___init___N ["self", "target", "function", "arguments"] (defScope s_Write___init__) := ⟨rfl, rfl, rfl, by decide +kernel, rfl, by decide +kernel, by decide +kernel⟩
-- 0 self, 1 target, 2 function, 3 arguments
/-- the arguments: a list, or a tuple as it was laid -/
def sp_initW (K : PySem.W.Frag) (Wr B : Addr) : Sp := fun vs H Q _ => ∃ (x dx C b : Addr) (t f : Str) (xs : List Str) (f0 : List (Str × V)), vs = [.ref x, .str t, .str f, .ref b] ∧ (C = Wr ∧ f0 = [] ∨ C = B ∧ ∃ s l, f0 = fsR s l) ∧ H x = some (.ins C dx f0) ∧
  (SqL K H b (xs.map V.str) ∨ FT H b (xs.map V.str)) ∧ ∀ p H', FT H' p (xs.map V.str) → H' x = some (.ins C dx (f0 ++ fsW t f p)) → But x H H' → Q .non H'
theorem m_initW {C0 : Addr} (T : PT K mg R Wr B Pg) (D : MD K C0 "__init__" "Write.__init__" s_Write___init__) : Mn P w K mg base CX0 1 C0 "__init__" (sp_initW K Wr B) := by
  refine D.mn sc_Write___init__ (fun _ _ _ _ _ _ us hl => match us, hl with | [_, _, _, _], _ => rfl) (fun vs H Q E h => ?_) (fun f cdv A outer s H vs Q E hr h => ?_)
  · obtain ⟨x, dx, C, b, t, f, xs, f0, rfl, _⟩ := h; rfl
  · obtain ⟨x, dx, C, b, t, fn, xs, f0, rfl, hC, hx, hb, q⟩ := h
    have c1 : Cls K C := by rcases hC with ⟨rfl, _⟩ | ⟨rfl, _⟩; exact T.cW; exact T.cB
    have c2 : NoAttr K C "target" := by rcases hC with ⟨rfl, _⟩ | ⟨rfl, _⟩; exact T.aW_target; exact T.aB_target
    have c3 : NoAttr K C "function" := by rcases hC with ⟨rfl, _⟩ | ⟨rfl, _⟩; exact T.aW_function; exact T.aB_function
    have c4 : NoAttr K C "arguments" := by rcases hC with ⟨rfl, _⟩ | ⟨rfl, _⟩; exact T.aW_arguments; exact T.aB_arguments
    have p1 : putF "target" (V.str t) f0 = f0 ++ [(("target" : Str), V.str t)] := by rcases hC with ⟨_, rfl⟩ | ⟨_, s, l, rfl⟩ <;> simp [putF, fsR, n13, n23, Ne.symm n13, Ne.symm n23]
    have p2 : putF "function" (V.str fn) (f0 ++ [(("target" : Str), V.str t)]) = f0 ++ [(("target" : Str), V.str t), (("function" : Str), V.str fn)] := by rcases hC with ⟨_, rfl⟩ | ⟨_, s, l, rfl⟩ <;> simp [putF, fsR, n14, n24, n34, Ne.symm n14, Ne.symm n24, Ne.symm n34]
    have p3 : ∀ p : Addr, putF "arguments" (V.ref p) (f0 ++ [(("target" : Str), V.str t), (("function" : Str), V.str fn)]) = f0 ++ fsW t fn p := fun p => by rcases hC with ⟨_, rfl⟩ | ⟨_, s, l, rfl⟩ <;> simp [putF, fsR, fsW, n15, n25, n35, n45, Ne.symm n15, Ne.symm n25, Ne.symm n35, Ne.symm n45]
    have lf : f0.length ≤ 2 := by rcases hC with ⟨_, rfl⟩ | ⟨_, s, l, rfl⟩ <;> simp [fsR]
    refine ⟨_, (pss_cons (ps_fld (pv 0) (pv 1) rfl)
      (pss_cons (ps_fld (pv 0) (pv 2) rfl)
      (pss_one (ps_fld (pv 0) (pe_callTy call_tupG (by rfl) T.n_tuple (by decide +kernel) (pa_cons (pv 3) pa_nil)) rfl)))), ?_⟩
    walk_at "rd"
    refine ⟨C, dx, f0, hx, c1, c2, by omega, C, dx, _, upd_same, c1, c3, by rw [p1]; simp; omega, ?_⟩
    rw [upd_upd, p1, p2]
    have b1 : ∀ o : HO, But x H (upd H x o) := fun o => But.at_
    rcases hb with hb | hb
    · refine ⟨b, _, rfl, .inl ⟨sqL_ins hx hb, fun l o hl ho hs => ?_⟩⟩
      have nx : x ≠ l := ne_of_none upd_same hl
      refine ⟨C, dx, _, by rw [upd_ne nx]; exact upd_same, c1, c4, by simp; omega, ?_⟩
      rw [p3]
      refine q l _ ⟨o, by rw [upd_ne (Ne.symm nx)]; exact upd_same, ho, hs⟩ upd_same fun c u e n => ?_
      rw [upd_ne n, upd_ne (ne_of_none (b1 _ c u e n) hl)]
      exact b1 _ c u e n
    · refine ⟨b, _, rfl, .inr ⟨FT.sq (FT.ins hx hb), C, dx, _, upd_same, c1, c4, by simp; omega, ?_⟩⟩
      rw [p3, upd_upd]
      exact q b _ (FT.ins hx hb) upd_same (b1 _)
abbrev s_ReadWrite___init__ : Stmt := inClass (top 22) 0
abbrev sc_ReadWrite___init___N : List Str := ["self", "source", "local", "target", "function", "arguments"]
theorem sc_ReadWrite___init__ : FnScope sc_ReadWrite___init___N ["self", "source", "local", "target", "function", "arguments"] (defScope s_ReadWrite___init__) := ⟨rfl, rfl, rfl, by decide +kernel, rfl, by decide +kernel, by decide +kernel⟩
-- 0 self, 1 source, 2 local, 3 target, 4 function, 5 arguments
def sp_initB (K : PySem.W.Frag) (R Wr B : Addr) : Sp := fun vs H Q _ => ∃ (x dx b : Addr) (s l t f : Str) (xs : List Str), vs = [.ref x, .str s, .str l, .str t, .str f, .ref b] ∧ H x = some (.ins B dx []) ∧ (SqL K H b (xs.map V.str) ∨ FT H b (xs.map V.str)) ∧
  ∀ H', StA H' R Wr B x (.rw s l t f xs) → But x H H' → Q .non H'
theorem m_initB (T : PT K mg R Wr B Pg) (D : MD K B "__init__" "ReadWrite.__init__" s_ReadWrite___init__) (B_Read : Bn P w K mg base 1 R "Read" "__init__" (sp_initR R B)) (B_Write : Bn P w K mg base 1 Wr "Write" "__init__" (sp_initW K Wr B)) :
    Mn P w K mg base CX0 2 B "__init__" (sp_initB K R Wr B) := by
  refine D.mn sc_ReadWrite___init__ (fun _ _ _ _ _ _ us hl => match us, hl with | [_, _, _, _, _, _], _ => rfl) (fun vs H Q E h => ?_) (fun f cdv A outer s H vs Q E hr h => ?_)
  · obtain ⟨x, dx, b, s, l, t, f, xs, rfl, _⟩ := h; rfl
  · obtain ⟨x, dx, b, sr, l, t, fn, xs, rfl, hx, hb, q⟩ := h
    refine ⟨_, (pss_cons (ps_expr (pe_b B_Read hr (by decide) (by rfl) (pa_cons (pv 0) (pa_cons (pv 1) (pa_cons (pv 2) pa_nil)))))
      (pss_one (ps_expr (pe_b B_Write hr (by decide) (by rfl) (pa_cons (pv 0) (pa_cons (pv 3) (pa_cons (pv 4) (pa_cons (pv 5) pa_nil)))))))), ?_⟩
    walk_at "rd"
    refine ⟨x, dx, B, sr, l, rfl, .inr rfl, hx, x, dx, B, b, t, fn, xs, fsR sr l, rfl, .inr ⟨rfl, _, _, rfl⟩, upd_same, hb.imp (sqL_ins hx) (FT.ins hx), fun p H' hp hx' hb' => q _ ⟨dx, p, hx', hp⟩ fun c u e n => hb' c u (by rw [upd_ne n]; exact e) n⟩
/-- what text() gives -/
def sp_text (R Wr B C : Addr) : Sp := fun vs H Q _ => ∃ (a : Addr) (k : Sk), vs = [.ref a] ∧ k.cls R Wr B = C ∧ StA H R Wr B a k ∧ k.small ∧ ∀ H', Same H H' → Q (.str k.line) H'
def sp_reads (R Wr B C : Addr) : Sp := fun vs H Q _ => ∃ (a : Addr) (k : Sk), vs = [.ref a] ∧ k.cls R Wr B = C ∧ StA H R Wr B a k ∧ ∀ r H', H' r = some (.tup (k.src.map V.str)) → Same H H' → Q (.ref r) H'
def sp_writes (R Wr B C : Addr) : Sp := fun vs H Q _ => ∃ (a : Addr) (k : Sk), vs = [.ref a] ∧ k.cls R Wr B = C ∧ StA H R Wr B a k ∧ ∀ r H', H' r = some (.tup (k.tgt.map V.str)) → Same H H' → Q (.ref r) H'
/-- the three classes differ -/
structure Ap (R Wr B : Addr) : Prop where
  rw : R ≠ Wr
  rb : R ≠ B
  wb : Wr ≠ B
theorem cls_rd {a : Ap R Wr B} {k : Sk} (h : k.cls R Wr B = R) : ∃ s l, k = .rd s l := by
  cases k with
  | rd s l => exact ⟨s, l, rfl⟩
  | wr => exact absurd h.symm a.rw
  | rw => exact absurd h.symm a.rb
theorem cls_wr {a : Ap R Wr B} {k : Sk} (h : k.cls R Wr B = Wr) : ∃ t f xs, k = .wr t f xs := by
  cases k with
  | rd => exact absurd h a.rw
  | wr t f xs => exact ⟨t, f, xs, rfl⟩
  | rw => exact absurd h.symm a.wb
theorem cls_rw {a : Ap R Wr B} {k : Sk} (h : k.cls R Wr B = B) : ∃ s l t f xs, k = .rw s l t f xs := by
  cases k with
  | rd => exact absurd h a.rb
  | wr => exact absurd h a.wb
  | rw s l t f xs => exact ⟨s, l, t, f, xs, rfl⟩
abbrev s_Read_text : Stmt := inClass (top 20) 1
abbrev sc_Read_text_N : List Str := ["self"]
theorem sc_Read_text : FnScope sc_Read_text_N ["self"] (defScope s_Read_text) := ⟨rfl, rfl, rfl, by decide +kernel, rfl, by decide +kernel, by decide +kernel⟩
-- 0 self
theorem m_textR (ap : Ap R Wr B) (T : PT K mg R Wr B Pg) (D : MD K R "text" "Read.text" s_Read_text) (d_read_text : Dn P w K mg base CX0 1 "read_text" sp_readt) : Mn P w K mg base CX0 2 R "text" (sp_text R Wr B R) := by
  refine D.mn sc_Read_text (fun _ _ _ _ _ _ us hl => match us, hl with | [_], _ => rfl) (fun vs H Q E h => ?_) (fun f cdv A outer s H vs Q E hr h => ?_)
  · obtain ⟨a, k, rfl, _⟩ := h; rfl
  · obtain ⟨a, k, rfl, hc, ha, hs, q⟩ := h
    obtain ⟨sr, l, rfl⟩ := cls_rd (a := ap) hc
    obtain ⟨dx, ha⟩ := ha
    refine ⟨_, (pss_one (ps_ret (pe_d d_read_text hr (by decide) pass0 (by rfl) (pa_cons (pe_fld (pv 0) (by rfl)) (pa_cons (pe_fld (pv 0) (by rfl)) pa_nil))))), ?_⟩
    walk_at "rd"
    exact ⟨R, dx, _, ha, T.cR, T.aR_source, _, rfl, R, dx, _, ha, T.cR, T.aR_local, _, rfl, sr, l, rfl, hs.1, hs.2, q _ fun _ _ z => z⟩
abbrev s_Write_text : Stmt := inClass (top 21) 1
abbrev sc_Write_text_N : List Str := ["self"]
theorem sc_Write_text : FnScope sc_Write_text_N ["self"] (defScope s_Write_text) := ⟨rfl, rfl, rfl, by decide +kernel, rfl, by decide +kernel, by decide +kernel⟩
-- 0 self
theorem m_textW (ap : Ap R Wr B) (T : PT K mg R Wr B Pg) (D : MD K Wr "text" "Write.text" s_Write_text) (d_write_text : Dn P w K mg base CX0 1 "write_text" (sp_writet K)) : Mn P w K mg base CX0 2 Wr "text" (sp_text R Wr B Wr) := by
  refine D.mn sc_Write_text (fun _ _ _ _ _ _ us hl => match us, hl with | [_], _ => rfl) (fun vs H Q E h => ?_) (fun f cdv A outer s H vs Q E hr h => ?_)
  · obtain ⟨a, k, rfl, _⟩ := h; rfl
  · obtain ⟨a, k, rfl, hc, ha, hs, q⟩ := h
    obtain ⟨t, fn, xs, rfl⟩ := cls_wr (a := ap) hc
    obtain ⟨dx, p, ha, hp⟩ := ha
    refine ⟨_, (pss_one (ps_ret (pe_d d_write_text hr (by decide) pass0 (by rfl) (pa_cons (pe_fld (pv 0) (by rfl)) (pa_cons (pe_fld (pv 0) (by rfl)) (pa_cons (pe_fld (pv 0) (by rfl)) pa_nil)))))), ?_⟩
    walk_at "rd"
    exact ⟨Wr, dx, _, ha, T.cW, T.aW_target, _, rfl, Wr, dx, _, ha, T.cW, T.aW_function, _, rfl, Wr, dx, _, ha, T.cW, T.aW_arguments, _, rfl, t, fn, p, xs, rfl, hp, hs.1, hs.2.1, hs.2.2.1, hs.2.2.2, q⟩
theorem join_len (y : Str) : ∀ ps : List Str, (Str.join y ps).length ≤ (ps.map (·.length)).sum + ps.length * y.length
  | [] => Nat.zero_le _
  | [p] => by show p.length ≤ _; simp
  | p :: r :: rs => by
    have e : Str.join y (p :: r :: rs) = p ++ y ++ Str.join y (r :: rs) := rfl
    have h := join_len y (r :: rs)
    rw [e, len_app, len_app, List.map_cons, List.sum_cons, List.length_cons, Nat.add_mul]
    omega
theorem wr_join {t f : Str} {xs : List Str} (ht : t.length ≤ 1000) (hf : f.length ≤ 1000) (hx : ∀ x ∈ xs, x.length ≤ 1000) (hn : xs.length ≤ 100) : (Txt.join " " (wrT t f xs)).length ≤ 200000 := by
  rw [show Txt.join " " (wrT t f xs) = Str.join " " (wrT t f xs) from _root_.TL.join_eq _ _]
  have h0 := join_len " " (wrT t f xs)
  have h1 := sum_le (wr_len ht hf hx)
  have h2 := wr_many (t := t) (f := f) (xs := xs)
  rw [l_sp] at h0
  have h3 : (wrT t f xs).length * 1000 ≤ 105 * 1000 := Nat.mul_le_mul_right _ (by omega)
  omega
theorem rd_len {s l : Str} (hs : s.length ≤ 1000) (hl : l.length ≤ 1000) : (rdT s l).length ≤ 3000 := by
  have l1 : ("read " : Str).length = 5 := by decide +kernel
  have l2 : (" as " : Str).length = 4 := by decide +kernel
  unfold rdT
  rw [len_app, len_app, len_app, l1, l2]
  omega
abbrev s_ReadWrite_text : Stmt := inClass (top 22) 1
abbrev sc_ReadWrite_text_N : List Str := ["self", "first", "second"]
theorem sc_ReadWrite_text : FnScope sc_ReadWrite_text_N ["self"] (defScope s_ReadWrite_text) := ⟨rfl, rfl, rfl, by decide +kernel, rfl, by decide +kernel, by decide +kernel⟩
-- 0 self, 1 first, 2 second
theorem m_textB (ap : Ap R Wr B) (T : PT K mg R Wr B Pg) (D : MD K B "text" "ReadWrite.text" s_ReadWrite_text) (d_read_text : Dn P w K mg base CX0 1 "read_text" sp_readt) (d_write_text : Dn P w K mg base CX0 1 "write_text" (sp_writet K)) : Mn P w K mg base CX0 2 B "text" (sp_text R Wr B B) := by
  refine D.mn sc_ReadWrite_text (fun _ _ _ _ _ _ us hl => match us, hl with | [_], _ => rfl) (fun vs H Q E h => ?_) (fun f cdv A outer s H vs Q E hr h => ?_)
  · obtain ⟨a, k, rfl, _⟩ := h; rfl
  · obtain ⟨a, k, rfl, hc, ha, hs, q⟩ := h
    obtain ⟨sr, l, t, fn, xs, rfl⟩ := cls_rw (a := ap) hc
    obtain ⟨dx, p, ha, hp⟩ := ha
    obtain ⟨⟨z1, z2⟩, z3, z4, z5, z6⟩ := hs
    refine ⟨_, (pss_cons (ps_set (i := 1) sc_ReadWrite_text.nd rfl (Or.inl rfl) (pe_d d_read_text hr (by decide) pass0 (by rfl) (pa_cons (pe_fld (pv 0) (by rfl)) (pa_cons (pe_fld (pv 0) (by rfl)) pa_nil))))
      (pss_cons (ps_set (i := 2) sc_ReadWrite_text.nd rfl (Or.inl rfl) (pe_d d_write_text hr (by decide) pass0 (by rfl) (pa_cons (pe_fld (pv 0) (by rfl)) (pa_cons (pe_fld (pv 0) (by rfl)) (pa_cons (pe_fld (pv 0) (by rfl)) pa_nil)))))
      (pss_one (ps_ret (pe_joined (PJ.cons (pe_fmt (pv 1)) (PJ.cons pe_str (PJ.cons (pe_fmt (pv 2)) PJ.nil)))))))), ?_⟩
    walk_at "rd"
    have g1 := rd_len z1 z2
    have g2 := wr_join z3 z4 z5 z6
    refine ⟨B, dx, _, ha, T.cB, T.aB_source, _, rfl, B, dx, _, ha, T.cB, T.aB_local, _, rfl, sr, l, rfl, z1, z2, B, dx, _, ha, T.cB, T.aB_target, _, rfl, B, dx, _, ha, T.cB, T.aB_function, _, rfl, B, dx, _, ha, T.cB, T.aB_arguments, _, rfl, t, fn, p, xs, rfl, hp, z3, z4, z5, z6, fun H1 sm => ?_⟩
    refine .inl ⟨rdT sr l, rfl, ?_, ?_, ?_, .inl ⟨Txt.join " " (wrT t fn xs), rfl, ?_, ?_, ?_⟩⟩
    · rw [sizeLine_eq]; omega
    · rw [nil_app, sizeLine_eq]; omega
    · rw [nil_app, len_app, l_sp, sizeLine_eq]; omega
    · rw [sizeLine_eq]; omega
    · rw [nil_app, len_app, len_app, l_sp, sizeLine_eq]; omega
    · rw [nil_app]; exact q _ sm
abbrev s_Read_reads : Stmt := inClass (top 20) 2
abbrev sc_Read_reads_N : List Str := ["self"]
theorem sc_Read_reads : FnScope sc_Read_reads_N ["self"] (defScope s_Read_reads) := ⟨rfl, rfl, rfl, by decide +kernel, rfl, by decide +kernel, by decide +kernel⟩
-- 0 self
theorem m_readsR (ap : Ap R Wr B) (T : PT K mg R Wr B Pg) (D : MD K R "reads" "Read.reads" s_Read_reads) : Mn P w K mg base CX0 1 R "reads" (sp_reads R Wr B R) := by
  refine D.mn sc_Read_reads (fun _ _ _ _ _ _ us hl => match us, hl with | [_], _ => rfl) (fun vs H Q E h => ?_) (fun f cdv A outer s H vs Q E hr h => ?_)
  · obtain ⟨a, k, rfl, _⟩ := h; rfl
  · obtain ⟨a, k, rfl, hc, ha, q⟩ := h
    obtain ⟨sr, l, rfl⟩ := cls_rd (a := ap) hc
    obtain ⟨dx, ha⟩ := ha
    refine ⟨_, (pss_one (ps_ret (pe_tup (pa_cons (pe_fld (pv 0) (by rfl)) pa_nil)))), ?_⟩
    walk_at "rd"
    exact ⟨R, dx, _, ha, T.cR, T.aR_source, _, rfl, by rw [sizeLine_eq]; decide, fun p hp => q p _ upd_same (UL.Same.new hp)⟩
abbrev s_Read_writes : Stmt := inClass (top 20) 3
abbrev sc_Read_writes_N : List Str := ["self"]
theorem sc_Read_writes : FnScope sc_Read_writes_N ["self"] (defScope s_Read_writes) := ⟨rfl, rfl, rfl, by decide +kernel, rfl, by decide +kernel, by decide +kernel⟩
-- 0 self
theorem m_writesR (ap : Ap R Wr B) (T : PT K mg R Wr B Pg) (D : MD K R "writes" "Read.writes" s_Read_writes) : Mn P w K mg base CX0 1 R "writes" (sp_writes R Wr B R) := by
  refine D.mn sc_Read_writes (fun _ _ _ _ _ _ us hl => match us, hl with | [_], _ => rfl) (fun vs H Q E h => ?_) (fun f cdv A outer s H vs Q E hr h => ?_)
  · obtain ⟨a, k, rfl, _⟩ := h; rfl
  · obtain ⟨a, k, rfl, hc, ha, q⟩ := h
    obtain ⟨sr, l, rfl⟩ := cls_rd (a := ap) hc
    obtain ⟨dx, ha⟩ := ha
    refine ⟨_, (pss_one (ps_ret (pe_tup pa_nil))), ?_⟩
    walk_at "rd"
    exact fun p hp => q p _ upd_same (UL.Same.new hp)
abbrev s_Write_reads : Stmt := inClass (top 21) 2
abbrev sc_Write_reads_N : List Str := ["self"]
theorem sc_Write_reads : FnScope sc_Write_reads_N ["self"] (defScope s_Write_reads) := ⟨rfl, rfl, rfl, by decide +kernel, rfl, by decide +kernel, by decide +kernel⟩
-- 0 self
theorem m_readsW (ap : Ap R Wr B) (T : PT K mg R Wr B Pg) (D : MD K Wr "reads" "Write.reads" s_Write_reads) : Mn P w K mg base CX0 1 Wr "reads" (sp_reads R Wr B Wr) := by
  refine D.mn sc_Write_reads (fun _ _ _ _ _ _ us hl => match us, hl with | [_], _ => rfl) (fun vs H Q E h => ?_) (fun f cdv A outer s H vs Q E hr h => ?_)
  · obtain ⟨a, k, rfl, _⟩ := h; rfl
  · obtain ⟨a, k, rfl, hc, ha, q⟩ := h
    obtain ⟨t, fn, xs, rfl⟩ := cls_wr (a := ap) hc
    refine ⟨_, (pss_one (ps_ret (pe_tup pa_nil))), ?_⟩
    walk_at "rd"
    exact fun p hp => q p _ upd_same (UL.Same.new hp)
abbrev s_Write_writes : Stmt := inClass (top 21) 3
abbrev sc_Write_writes_N : List Str := ["self"]
theorem sc_Write_writes : FnScope sc_Write_writes_N ["self"] (defScope s_Write_writes) := ⟨rfl, rfl, rfl, by decide +kernel, rfl, by decide +kernel, by decide +kernel⟩
-- 0 self
theorem m_writesW (ap : Ap R Wr B) (T : PT K mg R Wr B Pg) (D : MD K Wr "writes" "Write.writes" s_Write_writes) : Mn P w K mg base CX0 1 Wr "writes" (sp_writes R Wr B Wr) := by
  refine D.mn sc_Write_writes (fun _ _ _ _ _ _ us hl => match us, hl with | [_], _ => rfl) (fun vs H Q E h => ?_) (fun f cdv A outer s H vs Q E hr h => ?_)
  · obtain ⟨a, k, rfl, _⟩ := h; rfl
  · obtain ⟨a, k, rfl, hc, ha, q⟩ := h
    obtain ⟨t, fn, xs, rfl⟩ := cls_wr (a := ap) hc
    obtain ⟨dx, p0, ha, _⟩ := ha
    refine ⟨_, (pss_one (ps_ret (pe_tup (pa_cons (pe_fld (pv 0) (by rfl)) pa_nil)))), ?_⟩
    walk_at "rd"
    exact ⟨Wr, dx, _, ha, T.cW, T.aW_target, _, rfl, by rw [sizeLine_eq]; decide, fun p hp => q p _ upd_same (UL.Same.new hp)⟩
abbrev s_ReadWrite_reads : Stmt := inClass (top 22) 2
abbrev sc_ReadWrite_reads_N : List Str := ["self"]
theorem sc_ReadWrite_reads : FnScope sc_ReadWrite_reads_N ["self"] (defScope s_ReadWrite_reads) := ⟨rfl, rfl, rfl, by decide +kernel, rfl, by decide +kernel, by decide +kernel⟩
-- 0 self
theorem m_readsB (ap : Ap R Wr B) (T : PT K mg R Wr B Pg) (D : MD K B "reads" "ReadWrite.reads" s_ReadWrite_reads) : Mn P w K mg base CX0 1 B "reads" (sp_reads R Wr B B) := by
  refine D.mn sc_ReadWrite_reads (fun _ _ _ _ _ _ us hl => match us, hl with | [_], _ => rfl) (fun vs H Q E h => ?_) (fun f cdv A outer s H vs Q E hr h => ?_)
  · obtain ⟨a, k, rfl, _⟩ := h; rfl
  · obtain ⟨a, k, rfl, hc, ha, q⟩ := h
    obtain ⟨sr, l, t, fn, xs, rfl⟩ := cls_rw (a := ap) hc
    obtain ⟨dx, p0, ha, _⟩ := ha
    refine ⟨_, (pss_one (ps_ret (pe_tup (pa_cons (pe_fld (pv 0) (by rfl)) pa_nil)))), ?_⟩
    walk_at "rd"
    exact ⟨B, dx, _, ha, T.cB, T.aB_source, _, rfl, by rw [sizeLine_eq]; decide, fun p hp => q p _ upd_same (UL.Same.new hp)⟩
abbrev s_ReadWrite_writes : Stmt := inClass (top 22) 3
abbrev sc_ReadWrite_writes_N : List Str := ["self"]
theorem sc_ReadWrite_writes : FnScope sc_ReadWrite_writes_N ["self"] (defScope s_ReadWrite_writes) := ⟨rfl, rfl, rfl, by decide +kernel, rfl, by decide +kernel, by decide +kernel⟩
-- 0 self
theorem m_writesB (ap : Ap R Wr B) (T : PT K mg R Wr B Pg) (D : MD K B "writes" "ReadWrite.writes" s_ReadWrite_writes) : Mn P w K mg base CX0 1 B "writes" (sp_writes R Wr B B) := by
  refine D.mn sc_ReadWrite_writes (fun _ _ _ _ _ _ us hl => match us, hl with | [_], _ => rfl) (fun vs H Q E h => ?_) (fun f cdv A outer s H vs Q E hr h => ?_)
  · obtain ⟨a, k, rfl, _⟩ := h; rfl
  · obtain ⟨a, k, rfl, hc, ha, q⟩ := h
    obtain ⟨sr, l, t, fn, xs, rfl⟩ := cls_rw (a := ap) hc
    obtain ⟨dx, p0, ha, _⟩ := ha
    refine ⟨_, (pss_one (ps_ret (pe_tup (pa_cons (pe_fld (pv 0) (by rfl)) pa_nil)))), ?_⟩
    walk_at "rd"
    exact ⟨B, dx, _, ha, T.cB, T.aB_target, _, rfl, by rw [sizeLine_eq]; decide, fun p hp => q p _ upd_same (UL.Same.new hp)⟩
end
end U

set_option Elab.async false
set_option linter.all false
set_option maxRecDepth 100000
set_option maxHeartbeats 4000000
set_option pp.deepTerms true
set_option pp.maxSteps 400000
namespace U
open PySem PySem.Spec PyProof.Rows L2 UL UX
local macro_rules | `(tactic| walk_at "rd") => `(tactic| simp only [sMatch, tJs, tFmt, tBC, tMethA, tMakeL, iEnumS, tSeq, tAsg, tOp, tCB, tCons, tNil, tVar, tC, tB, tTest, tNot, tIfS, tNext, tYes, tUn, rU, tM0, tGFrom, tGThen, tG0, tYfLst, gcxK, tSubO, tProp, tListG, tMethG, tBMF, tFld, sFld, tMeth, tMake, tSl, tNoPart, tPart, tM1, gTup, gCons, gNil, tDrop, tFor_eq, tLc_eq, tLc2_eq, iRng1_eq, StX.tStar, iList, iTup, iStr, iAny_var, iZipB, tLenSetS, wipe, tVar, tAndV, tOrV, tNotV, tOr, tAnd, tLst, tTup, tBM, tBM0, tChain, tCall, cxK, noxK, addII, addSS, mulII, eqII, neII, neSS, cIntI, cAbsI, rI, rI0, rLt, rLe, rGt_, rGe_, rSub_, rMod, rPow, rDivW, rNeg, gName, tRet, L2.start, List.length_cons, List.length_nil, List.map_cons, List.map_nil, List.replicate, List.cons_append, List.nil_append, List.getElem?_cons_zero, List.getElem?_cons_succ, List.set_cons_zero, List.set_cons_succ, Option.some.injEq, exists_eq_left', exists_eq_left, V.int.injEq, V.bl.injEq, V.str.injEq, V.ref.injEq, V.ty.injEq, List.cons.injEq, and_true, true_and, reduceCtorEq, false_and, exists_false, or_false, false_or, exists_and_left, exists_and_right, List.append_nil, forall_eq, decide_eq_true_eq, Bool.not_eq_true, Nat.reduceAdd, Nat.reduceSub, List.replicate_zero, List.replicate_succ, Nat.zero_le, ite_true, ite_false, if_true, if_false])
section
variable {P : Program} {w : World} {K : PySem.W.Frag} {mg : Str → Option Value} {base : Heap}

variable {R Wr B Pg : Addr}
/-- what may follow a function's name -/
def argB (ws kn : List Str) : Bool := match ws with
  | [] => true
  | x :: r => decide (x = "of") && decide (1 ≤ r.length) && decide (r.length ≤ 3) && r.all fun y => decide (y ∈ kn)
theorem cut1 {x : Str} {r : List Str} : cutV ((x :: r).map V.str) (some 1) none = r.map V.str := by
  simp [cutV, HT.sIx]
  exact List.take_of_length_le (by simp)
theorem inV_str {z : Str} {kn : List Str} : inV (.str z) (kn.map V.str) = decide (z ∈ kn) := by
  induction kn with
  | nil => simp [inV]
  | cons y r ih =>
    have e : inV (.str z) ((y :: r).map V.str) = (eqV (.str y) (.str z) || inV (.str z) (r.map V.str)) := rfl
    rw [e, ih]
    by_cases h : z = y
    · subst h; simp [eqV]
    · have h2 : eqV (.str y) (.str z) = false := by simp [eqV, Ne.symm h]
      rw [h2]; simp [h]
theorem Same.tr {H H1 H2 : Hp} (a : Same H H1) (b : Same H1 H2) : Same H H2 := fun c o e => b c o (a c o e)
abbrev s_is_argument_part : Stmt := top 30
abbrev sc_is_argument_part_N : List Str := ["words", "known", ".0", "word"]
theorem sc_is_argument_part : FnScope sc_is_argument_part_N ["words", "known"] (defScope s_is_argument_part) := ⟨rfl, rfl, rfl, by decide +kernel, rfl, by decide +kernel, by decide +kernel⟩
-- 0 words, 1 known, 2 .0, 3 word
def sp_isarg : PySem.W.Frag → Sp := fun K vs H Q _ => ∃ (a b : Addr) (ws kn : List Str), vs = [.ref a, .ref b] ∧ SqL K H a (ws.map V.str) ∧ SqL K H b (kn.map V.str) ∧ ws.length ≤ 1000 ∧ kn.length ≤ 1000 ∧ ∀ H', Same H H' → Q (.bl (argB ws kn)) H'
theorem d_isarg (T : PT K mg R Wr B Pg) (D : TD K mg "is_argument_part" s_is_argument_part) : Dn P w K mg base CX0 1 "is_argument_part" (sp_isarg K) := by
  refine D.dn sc_is_argument_part (fun _ _ _ _ _ _ us hl => match us, hl with | [_, _], _ => rfl) (fun vs H Q E h => ?_) (fun f cdv A outer s H vs Q E hr h => ?_)
  · obtain ⟨a, b, ws, kn, rfl, _⟩ := h; rfl
  · obtain ⟨a, b, ws, kn, rfl, ha, hb, hw, hn, q⟩ := h
    refine ⟨_, (pss_cons (ps_if (pt_not (pt_truth (pv 0) (fun _ => rfl))) (pss_one (ps_ret pe_bl)) pss_nil)
      (pss_cons (ps_if (pw_or (pt_cmpR (op_neA (hr.units)) (pe_ix ix_seq (pv 0) pe_int (fun _ _ => rfl)) pe_str (nomark _)) (pw_or1 (pt_not (pt_chain op_leA op_leA pe_int (pe_callB call_lenA (by rfl) T.n_len (by decide +kernel) (pa_cons (pv 0) pa_nil)) (pe_op op_addA (C8.pe_gc (by rfl) T.c_MOST_ARGUMENTS) pe_int))))).pt (pss_one (ps_ret pe_bl)) pss_nil)
      (pss_one (ps_ret (pe_callB (cr_all rfl) (by rfl) T.n_all (by decide +kernel) (pa_cons (pe_lc (own := [(".0", 2), ("word", 3)]) (g := (gName 3)) (tt := tYes) rfl sc_is_argument_part.nd (pi_list (pe_slice sl_list (pv 0) (po_some pe_int) po_none)) (blkOk_by (N := sc_is_argument_part_N) (sc := defScope s_is_argument_part) (by decide +kernel)) (fun _ _ _ _ _ => pg_name (i := 3) sc_is_argument_part.nd rfl (Or.inl rfl)) (fun _ _ _ _ _ => pts_nil) (fun _ _ _ _ _ => (pe_cmpR (op_inK K rfl) (pv 3) (pv 1) (by with_unfolding_all rfl)))) pa_nil)))))), ?_⟩
    walk_at "rd"
    cases ws with
    | nil =>
      refine ⟨false, .inl ⟨_, ha, rfl⟩, ?_⟩
      rw [if_pos (by decide)]
      exact q _ fun _ _ z => z
    | cons x r =>
      rw [List.length_cons] at hw
      refine ⟨true, .inl ⟨_, ha, rfl⟩, ?_⟩
      rw [if_neg (by decide)]
      refine ixL ha (show atI _ ((0 : Nat) : Int) = some (V.str x) from atN rfl) (neSS.mpr ⟨_, rfl, ?_⟩)
      have no : argB (x :: r) kn = false → Q (.bl false) H := fun e => by have := q H (fun _ _ z => z); rw [e] at this; exact this
      by_cases e1 : x = "of"
      · rw [if_neg (by simp [e1])]
        refine lenL ha ⟨_, rfl, ?_⟩
        have hl : (((x :: r).map V.str).length : Int) = (r.length : Int) + 1 := by simp
        rw [hl]
        by_cases e2 : 1 ≤ r.length
        · rw [if_pos (by omega)]
          refine ⟨_, rfl, ?_⟩
          by_cases e3 : r.length ≤ 3
          · rw [if_neg (by simp; omega)]
            refine ⟨a, _, rfl, ha, fun p hp => ⟨p, rfl, ⟨_, .inl (.inl upd_same)⟩, fun D hD => ?_⟩⟩
            have ec : cutV ((x :: r).map V.str) (some 1) none = r.map V.str := cut1
            rw [ec] at hD ⊢
            have hp2 : upd H p (.lst (r.map V.str)) p = some (.lst (r.map V.str)) := upd_same
            refine LJ.it (walk_list (xs := r.map V.str)) (fun i H' => H' = upd (upd H p (.lst (r.map V.str))) D (.lst (((r.take i).map fun y => decide (y ∈ kn)).map V.bl))) rfl (fun i H' _ inv => ?_) (fun i y H1 H2 hi inv yy => ?_) fun H2 inv => ?_
            · subst inv
              exact .inl (.inl (by rw [upd_ne (ne_of_none upd_same hD)]; exact upd_same))
            · subst inv
              obtain ⟨rfl, hy⟩ := yy
              obtain ⟨z, hz, rfl⟩ : ∃ z, r[i]? = some z ∧ y = V.str z := by
                rw [List.getElem?_map] at hy
                cases e : r[i]? with
                | none => rw [e] at hy; cases hy
                | some z => rw [e] at hy; cases hy; exact ⟨z, rfl, rfl⟩
              refine ⟨rfl, ?_⟩
              walk_at "rd"
              refine .inr ⟨b, kn.map V.str, rfl, .inl ?_, rfl, by simp [flatV], _, upd_same, by simp [sizeLine_eq]; omega, ?_⟩
              · exact UL.Same.sqL (UL.Same.new hD) (UL.Same.sqL (UL.Same.new hp) hb)
              · rw [upd_upd, List.take_add_one, hz]
                simp [inV_str]
            · subst inv
              refine ⟨D, _, rfl, .inl (.inl upd_same), ?_⟩
              have ea : argB (x :: r) kn = (((r.take (r.map V.str).length).map fun y => decide (y ∈ kn)).all id) := by
                have h0 : r.take (r.map V.str).length = r := List.take_of_length_le (by simp)
                rw [h0]
                simp only [argB, e1, decide_eq_true e2, decide_eq_true e3, decide_true, Bool.true_and, List.all_map]
                rfl
              rw [← ea]
              exact q _ (UL.Same.put (UL.Same.new hp) (by
                cases e : H D with
                | none => rfl
                | some o => rw [UL.Same.new hp _ _ e] at hD; cases hD))
          · rw [if_pos (by simp; omega)]
            exact no (by simp [argB, e3])
        · rw [if_neg (by omega), if_pos (by decide)]
          exact no (by simp [argB]; omega)
      · rw [if_pos (by simp [e1])]
        exact no (by simp [argB, e1])
/-- a step, or None -/
def Gv (H : Hp) (R Wr B : Addr) (v : V) : Option Sk → Prop
  | none => v = .non
  | some k => ∃ a, v = .ref a ∧ StA H R Wr B a k
def mkR (s l : Str) : Option Sk := if (nmB s && nmB l) = true then some (.rd s l) else none
def mkW (t f : Str) (ws kn : List Str) : Option Sk := if (nmB t && nmB f && argB ws kn) = true then some (.wr t f (ws.drop 1)) else none
def mkB : Option Sk → Option Sk → Option Sk
  | some (.rd s l), some (.wr t f xs) => some (.rw s l t f xs)
  | _, _ => none
abbrev s_make_read : Stmt := top 27
abbrev sc_make_read_N : List Str := ["source", "local"]
theorem sc_make_read : FnScope sc_make_read_N ["source", "local"] (defScope s_make_read) := ⟨rfl, rfl, rfl, by decide +kernel, rfl, by decide +kernel, by decide +kernel⟩
-- 0 source, 1 local
def sp_mkR (R Wr B : Addr) : Sp := fun vs H Q _ => ∃ s l : Str, vs = [.str s, .str l] ∧ s.length ≤ 1000 ∧ l.length ≤ 1000 ∧ ∀ v H', Gv H' R Wr B v (mkR s l) → Same H H' → Q v H'
theorem d_mkR (T : PT K mg R Wr B Pg) (D : TD K mg "make_read" s_make_read) (d_is_name : Dn P w K mg base CX0 1 "is_name" sp_isnm) (k_Read : Kn P w K mg base CX0 1 R "Read" (sp_initR R B)) : Dn P w K mg base CX0 3 "make_read" (sp_mkR R Wr B) := by
  refine D.dn sc_make_read (fun _ _ _ _ _ _ us hl => match us, hl with | [_, _], _ => rfl) (fun vs H Q E h => ?_) (fun f cdv A outer s H vs Q E hr h => ?_)
  · obtain ⟨a, b, rfl, _⟩ := h; rfl
  · obtain ⟨sr, l, rfl, h1, h2, q⟩ := h
    refine ⟨_, (pss_cons (ps_if (pw_or (pt_not (pt_val (pe_d d_is_name hr (by decide) pass0 (by rfl) (pa_cons (pv 0) pa_nil)))) (pw_or1 (pt_not (pt_val (pe_d d_is_name hr (by decide) pass0 (by rfl) (pa_cons (pv 1) pa_nil)))))).pt (pss_one (ps_ret pe_non)) pss_nil)
      (pss_one (ps_ret (pe_k k_Read hr (by decide) pass0 (by rfl) (pa_cons (pv 0) (pa_cons (pv 1) pa_nil)))))), ?_⟩
    walk_at "rd"
    refine ⟨sr, rfl, h1, fun H1 s1 => ⟨_, rfl, ?_⟩⟩
    by_cases e1 : nmB sr = true
    · rw [if_neg (by simp [e1])]
      refine ⟨l, rfl, h2, fun H2 s2 => ⟨_, rfl, ?_⟩⟩
      by_cases e2 : nmB l = true
      · rw [if_neg (by simp [e2])]
        refine fun x dx hx hd hne => ⟨x, dx, R, sr, l, rfl, .inl rfl, upd_same, rfl, q _ _ ?_ ?_⟩
        · rw [mkR, if_pos (by simp [e1, e2])]
          exact ⟨x, rfl, dx, upd_same⟩
        · have s12 := Same.tr s1 s2
          exact fun c u e => by
            have e' := s12 c u e
            rw [upd_ne (ne_of_none e' hx), upd_ne (ne_of_none e' hx), upd_ne (ne_of_none e' hd)]
            exact e'
      · rw [if_pos (by simp [e2])]
        exact q _ _ (by rw [mkR, if_neg (by simp [e2])]; rfl) (Same.tr s1 s2)
    · rw [if_pos (by simp [e1])]
      exact q _ _ (by rw [mkR, if_neg (by simp [e1])]; rfl) s1
abbrev s_make_write : Stmt := top 28
abbrev sc_make_write_N : List Str := ["target", "function", "rest", "known"]
theorem sc_make_write : FnScope sc_make_write_N ["target", "function", "rest", "known"] (defScope s_make_write) := ⟨rfl, rfl, rfl, by decide +kernel, rfl, by decide +kernel, by decide +kernel⟩
-- 0 target, 1 function, 2 rest, 3 known
def sp_mkW (K : PySem.W.Frag) (R Wr B : Addr) : Sp := fun vs H Q _ => ∃ (t f : Str) (a b : Addr) (ws kn : List Str), vs = [.str t, .str f, .ref a, .ref b] ∧ t.length ≤ 1000 ∧ f.length ≤ 1000 ∧ SqL K H a (ws.map V.str) ∧ SqL K H b (kn.map V.str) ∧ ws.length ≤ 1000 ∧ kn.length ≤ 1000 ∧
  ∀ v H', Gv H' R Wr B v (mkW t f ws kn) → Same H H' → Q v H'
theorem d_mkW (T : PT K mg R Wr B Pg) (D : TD K mg "make_write" s_make_write) (d_is_name : Dn P w K mg base CX0 1 "is_name" sp_isnm) (d_is_argument_part : Dn P w K mg base CX0 1 "is_argument_part" (sp_isarg K)) (k_Write : Kn P w K mg base CX0 1 Wr "Write" (sp_initW K Wr B)) : Dn P w K mg base CX0 3 "make_write" (sp_mkW K R Wr B) := by
  refine D.dn sc_make_write (fun _ _ _ _ _ _ us hl => match us, hl with | [_, _, _, _], _ => rfl) (fun vs H Q E h => ?_) (fun f cdv A outer s H vs Q E hr h => ?_)
  · obtain ⟨t, f, a, b, ws, kn, rfl, _⟩ := h; rfl
  · obtain ⟨t, fn, a, b, ws, kn, rfl, h1, h2, ha, hb, hw, hn, q⟩ := h
    refine ⟨_, (pss_cons (ps_if (pw_or (pt_not (pt_val (pe_d d_is_name hr (by decide) pass0 (by rfl) (pa_cons (pv 0) pa_nil)))) (pw_or (pt_not (pt_val (pe_d d_is_name hr (by decide) pass0 (by rfl) (pa_cons (pv 1) pa_nil)))) (pw_or1 (pt_not (pt_val (pe_d d_is_argument_part hr (by decide) pass0 (by rfl) (pa_cons (pv 2) (pa_cons (pv 3) pa_nil)))))))).pt (pss_one (ps_ret pe_non)) pss_nil)
      (pss_one (ps_ret (pe_k k_Write hr (by decide) pass0 (by rfl) (pa_cons (pv 0) (pa_cons (pv 1) (pa_cons (pe_slice sl_list (pv 2) (po_some pe_int) po_none) pa_nil))))))), ?_⟩
    walk_at "rd"
    refine ⟨t, rfl, h1, fun H1 s1 => ⟨_, rfl, ?_⟩⟩
    by_cases e1 : nmB t = true
    · rw [if_neg (by simp [e1])]
      refine ⟨fn, rfl, h2, fun H2 s2 => ⟨_, rfl, ?_⟩⟩
      have s12 := Same.tr s1 s2
      by_cases e2 : nmB fn = true
      · rw [if_neg (by simp [e2])]
        refine ⟨a, b, ws, kn, rfl, UL.Same.sqL s12 ha, UL.Same.sqL s12 hb, hw, hn, fun H3 s3 => ⟨_, rfl, ?_⟩⟩
        have s13 := Same.tr s12 s3
        by_cases e3 : argB ws kn = true
        · rw [if_neg (by simp [e3])]
          refine ⟨a, _, rfl, UL.Same.sqL s13 ha, fun p hp x dx hx hd hne => ?_⟩
          have ec : cutV (ws.map V.str) (some 1) none = (ws.drop 1).map V.str := by
            cases ws with
            | nil => rfl
            | cons y r => exact cut1
          rw [ec] at hx hd ⊢
          have s14 : Same H (upd (upd (upd H3 p (.lst ((ws.drop 1).map V.str))) dx (.own x)) x (.ins Wr dx [])) := fun c u e => by
            have e' := s13 c u e
            have e2 := UL.Same.new (o := .lst ((ws.drop 1).map V.str)) hp c u e'
            rw [upd_ne (ne_of_none e2 hx), upd_ne (ne_of_none e2 hd)]
            exact e2
          have hxp : p ≠ x := ne_of_none upd_same hx
          have hdp : p ≠ dx := ne_of_none upd_same hd
          refine ⟨x, dx, Wr, p, t, fn, ws.drop 1, [], rfl, .inl ⟨rfl, rfl⟩, upd_same, .inl (.inl (.inl (by rw [upd_ne hxp, upd_ne hdp]; exact upd_same))), fun r H5 hr hx5 b5 => ⟨rfl, q _ _ ?_ ?_⟩⟩
          · rw [mkW, if_pos (by simp [e1, e2, e3])]
            exact ⟨x, rfl, dx, r, hx5, hr⟩
          · have hx0 : H x = none := by
              cases e : H x with
              | none => rfl
              | some o => rw [UL.Same.new hp x o (s13 x o e)] at hx; cases hx
            exact fun c u e => b5 c u (s14 c u e) (ne_of_none e hx0)
        · rw [if_pos (by simp [e3])]
          exact q _ _ (by rw [mkW, if_neg (by simp [e3])]; rfl) s13
      · rw [if_pos (by simp [e2])]
        exact q _ _ (by rw [mkW, if_neg (by simp [e2])]; rfl) s12
    · rw [if_pos (by simp [e1])]
      exact q _ _ (by rw [mkW, if_neg (by simp [e1])]; rfl) s1
abbrev s_make_both : Stmt := top 29
abbrev sc_make_both_N : List Str := ["first", "second"]
theorem sc_make_both : FnScope sc_make_both_N ["first", "second"] (defScope s_make_both) := ⟨rfl, rfl, rfl, by decide +kernel, rfl, by decide +kernel, by decide +kernel⟩
-- 0 first, 1 second
def sp_mkB (R Wr B : Addr) : Sp := fun vs H Q _ => ∃ (u v : V) (o1 o2 : Option Sk), vs = [u, v] ∧ Gv H R Wr B u o1 ∧ Gv H R Wr B v o2 ∧ (o1 = none ∨ ∃ s l, o1 = some (.rd s l)) ∧ (o2 = none ∨ ∃ t f xs, o2 = some (.wr t f xs)) ∧ ∀ v H', Gv H' R Wr B v (mkB o1 o2) → Same H H' → Q v H'
theorem d_mkB (T : PT K mg R Wr B Pg) (D : TD K mg "make_both" s_make_both) (k_ReadWrite : Kn P w K mg base CX0 2 B "ReadWrite" (sp_initB K R Wr B)) : Dn P w K mg base CX0 4 "make_both" (sp_mkB R Wr B) := by
  refine D.dn sc_make_both (fun _ _ _ _ _ _ us hl => match us, hl with | [_, _], _ => rfl) (fun vs H Q E h => ?_) (fun f cdv A outer s H vs Q E hr h => ?_)
  · obtain ⟨t, f, a, b, rfl, _⟩ := h; rfl
  · obtain ⟨u, v, o1, o2, rfl, g1, g2, c1, c2, q⟩ := h
    refine ⟨_, (pss_cons (ps_if (pw_or (pt_cmpR op_isNone (pv 0) pe_non (nomark _)) (pw_or1 (pt_cmpR op_isNone (pv 1) pe_non (nomark _)))).pt (pss_one (ps_ret pe_non)) pss_nil)
      (pss_one (ps_ret (pe_k k_ReadWrite hr (by decide) pass0 (by rfl) (pa_cons (pe_fld (pv 0) (by rfl)) (pa_cons (pe_fld (pv 0) (by rfl)) (pa_cons (pe_fld (pv 1) (by rfl)) (pa_cons (pe_fld (pv 1) (by rfl)) (pa_cons (pe_fld (pv 1) (by rfl)) pa_nil))))))))), ?_⟩
    walk_at "rd"
    rcases c1 with rfl | ⟨sr, l, rfl⟩
    · obtain rfl : u = .non := g1
      refine ⟨rfl, _, rfl, ?_⟩
      rw [if_pos (by simp)]
      exact q _ _ (show Gv H R Wr B .non none from rfl) fun _ _ z => z
    · obtain ⟨a, rfl, dxa, ha⟩ := g1
      refine ⟨rfl, _, rfl, ?_⟩
      rw [if_neg (by simp)]
      rcases c2 with rfl | ⟨t, fn, xs, rfl⟩
      · obtain rfl : v = .non := g2
        refine ⟨rfl, _, rfl, ?_⟩
        rw [if_pos (by simp)]
        exact q _ _ (show Gv H R Wr B .non none from rfl) fun _ _ z => z
      · obtain ⟨b, rfl, dxb, p, hb, hp⟩ := g2
        refine ⟨rfl, _, rfl, ?_⟩
        rw [if_neg (by simp)]
        refine ⟨a, rfl, R, dxa, _, ha, T.cR, T.aR_source, _, rfl, a, rfl, R, dxa, _, ha, T.cR, T.aR_local, _, rfl, b, rfl, Wr, dxb, _, hb, T.cW, T.aW_target, _, rfl, b, rfl, Wr, dxb, _, hb, T.cW, T.aW_function, _, rfl, b, rfl, Wr, dxb, _, hb, T.cW, T.aW_arguments, _, rfl, fun x dx hx hd hne => ?_⟩
        have s1 : Same H (upd (upd H dx (.own x)) x (.ins B dx [])) := fun c u e => by
          rw [upd_ne (ne_of_none e hx), upd_ne (ne_of_none e hd)]
          exact e
        exact ⟨x, dx, p, sr, l, t, fn, xs, rfl, upd_same, .inr (FT.same s1 hp), fun H5 st b5 => ⟨rfl, q _ _ ⟨x, rfl, st⟩ fun c u e => b5 c u (s1 c u e) (ne_of_none e hx)⟩⟩
end
end U

set_option Elab.async false
set_option linter.all false
set_option maxRecDepth 100000
set_option maxHeartbeats 4000000
set_option pp.deepTerms true
set_option pp.maxSteps 400000
namespace U
open PySem PySem.Spec PyProof.Rows L2 UL UX
local macro_rules | `(tactic| walk_at "rd") => `(tactic| simp only [sMatch, tJs, tFmt, tBC, tMethA, tMakeL, iEnumS, tSeq, tAsg, tOp, tCB, tCons, tNil, tVar, tC, tB, tTest, tNot, tIfS, tNext, tYes, tUn, rU, tM0, tGFrom, tGThen, tG0, tYfLst, gcxK, tSubO, tProp, tListG, tMethG, tBMF, tFld, sFld, tMeth, tMake, tSl, tNoPart, tPart, tM1, gTup, gCons, gNil, tDrop, tFor_eq, tLc_eq, tLc2_eq, iRng1_eq, StX.tStar, iList, iTup, iStr, iAny_var, iZipB, tLenSetS, wipe, tVar, tAndV, tOrV, tNotV, tOr, tAnd, tLst, tTup, tBM, tBM0, tChain, tCall, cxK, noxK, addII, addSS, mulII, eqII, neII, neSS, cIntI, cAbsI, rI, rI0, rLt, rLe, rGt_, rGe_, rSub_, rMod, rPow, rDivW, rNeg, gName, tRet, L2.start, List.length_cons, List.length_nil, List.map_cons, List.map_nil, List.replicate, List.cons_append, List.nil_append, List.getElem?_cons_zero, List.getElem?_cons_succ, List.set_cons_zero, List.set_cons_succ, Option.some.injEq, exists_eq_left', exists_eq_left, V.int.injEq, V.bl.injEq, V.str.injEq, V.ref.injEq, V.ty.injEq, List.cons.injEq, and_true, true_and, reduceCtorEq, false_and, exists_false, or_false, false_or, exists_and_left, exists_and_right, List.append_nil, forall_eq, decide_eq_true_eq, Bool.not_eq_true, Nat.reduceAdd, Nat.reduceSub, List.replicate_zero, List.replicate_succ, Nat.zero_le, ite_true, ite_false, if_true, if_false])
section
variable {P : Program} {w : World} {K : PySem.W.Frag} {mg : Str → Option Value} {base : Heap}

variable {R Wr B Pg : Addr}
abbrev W (ws : List Str) (i : Nat) : Str := ws.getD i Str.empty
abbrev I1 : List Itm := [.wd "read", .nm 2, .wd "as", .nm 3]
abbrev I2 : List Itm := [.wd "write", .nm 4, .wd "by", .nm 5]
abbrev I3 : List Itm := [.wd "read", .nm 2, .wd "as", .nm 3, .wd "write", .nm 4, .wd "by", .nm 5]
def hR (ws : List Str) : Prop := ws.length = 4 ∧ W ws 0 = "read" ∧ W ws 2 = "as"
def hW (ws : List Str) : Prop := 4 ≤ ws.length ∧ W ws 0 = "write" ∧ W ws 2 = "by"
def hB (ws : List Str) : Prop := 8 ≤ ws.length ∧ W ws 0 = "read" ∧ W ws 2 = "as" ∧ W ws 4 = "write" ∧ W ws 6 = "by"
instance : DecidablePred hR := fun ws => inferInstanceAs (Decidable (_ ∧ _))
instance : DecidablePred hW := fun ws => inferInstanceAs (Decidable (_ ∧ _))
instance : DecidablePred hB := fun ws => inferInstanceAs (Decidable (_ ∧ _))
/-- the step that these words tell, kn the variables read before -/
def stepO (ws kn : List Str) : Option Sk :=
  if hR ws then mkR (W ws 1) (W ws 3) else if hW ws then mkW (W ws 1) (W ws 3) (ws.drop 4) kn else if hB ws then mkB (mkR (W ws 1) (W ws 3)) (mkW (W ws 5) (W ws 7) (ws.drop 8) (kn ++ [W ws 3])) else none
theorem mt1 (ws : List Str) : UX.mt I1 ws = if hR ws then some [(2, .str (W ws 1)), (3, .str (W ws 3))] else none := by
  match ws with
  | [] => simp [UX.mt, hR]
  | [a] => simp [UX.mt, hR]
  | [a, b] => simp [UX.mt, hR]
  | [a, b, c] => simp [UX.mt, hR]
  | [a, b, c, d] =>
    by_cases h1 : a = "read" <;> by_cases h2 : c = "as" <;> simp [UX.mt, hR, W, h1, h2]
  | a :: b :: c :: d :: e :: r => simp [UX.mt, hR]
theorem mt2 (ws : List Str) (h : 4 ≤ ws.length) : UX.mt I2 (ws.take 4) = if hW ws then some [(4, .str (W ws 1)), (5, .str (W ws 3))] else none := by
  match ws, h with
  | a :: b :: c :: d :: r, _ =>
    by_cases h1 : a = "write" <;> by_cases h2 : c = "by" <;> simp [UX.mt, hW, W, h1, h2]
theorem mt3 (ws : List Str) (h : 8 ≤ ws.length) : UX.mt I3 (ws.take 8) = if hB ws then some [(2, .str (W ws 1)), (3, .str (W ws 3)), (4, .str (W ws 5)), (5, .str (W ws 7))] else none := by
  match ws, h with
  | a :: b :: c :: d :: e :: f :: g :: i :: r, _ =>
    by_cases h1 : a = "read" <;> by_cases h2 : c = "as" <;> by_cases h3 : e = "write" <;> by_cases h4 : g = "by" <;> simp [UX.mt, hB, W, h1, h2, h3, h4]
theorem W_le {ws : List Str} {n : Nat} (h : ∀ x ∈ ws, x.length ≤ n) (i : Nat) : (W ws i).length ≤ n := by
  by_cases hi : i < ws.length
  · have e : W ws i = ws[i] := by simp [W, hi]
    rw [e]; exact h _ (List.getElem_mem hi)
  · have e : W ws i = Str.empty := by simp [W]; rw [List.getElem?_eq_none (by omega)]; rfl
    rw [e]; exact Nat.zero_le _
theorem Gv.same {H H' : Hp} {v : V} : ∀ {o : Option Sk}, Same H H' → Gv H R Wr B v o → Gv H' R Wr B v o
  | none, _, h => h
  | some _, s, ⟨a, e, g⟩ => ⟨a, e, StA.same s g⟩
theorem mkR_sh {s l : Str} : mkR s l = none ∨ ∃ s' l', mkR s l = some (.rd s' l') := by
  unfold mkR
  split
  · exact .inr ⟨_, _, rfl⟩
  · exact .inl rfl
theorem mkW_sh {t f : Str} {ws kn : List Str} : mkW t f ws kn = none ∨ ∃ t' f' xs, mkW t f ws kn = some (.wr t' f' xs) := by
  unfold mkW
  split
  · exact .inr ⟨_, _, _, rfl⟩
  · exact .inl rfl
abbrev s_parse_step : Stmt := top 26
abbrev sc_parse_step_N : List Str := ["line", "known", "source", "local", "target", "function", "rest"]
theorem sc_parse_step : FnScope sc_parse_step_N ["line", "known"] (defScope s_parse_step) := ⟨rfl, rfl, rfl, by decide +kernel, rfl, by decide +kernel, by decide +kernel⟩
-- 0 line, 1 known, 2 source, 3 local, 4 target, 5 function, 6 rest
def sp_pstep (K : PySem.W.Frag) (R Wr B : Addr) : Sp := fun vs H Q _ => ∃ (z : Str) (b : Addr) (kn : List Str), vs = [.str z, .ref b] ∧ z.length ≤ 900 ∧ SqL K H b (kn.map V.str) ∧ kn.length ≤ 900 ∧ (∀ x ∈ Txt.split z " ", x.length ≤ 1000) ∧ (Txt.split z " ").length ≤ 1000 ∧
  ∀ v H', Gv H' R Wr B v (stepO (Txt.split z " ") kn) → Same H H' → Q v H'
theorem d_pstep (T : PT K mg R Wr B Pg) (D : TD K mg "parse_step" s_parse_step) (d_make_read : Dn P w K mg base CX0 3 "make_read" (sp_mkR R Wr B)) (d_make_write : Dn P w K mg base CX0 3 "make_write" (sp_mkW K R Wr B)) (d_make_both : Dn P w K mg base CX0 4 "make_both" (sp_mkB R Wr B)) :
    Dn P w K mg base CX0 5 "parse_step" (sp_pstep K R Wr B) := by
  refine D.dn sc_parse_step (fun _ _ _ _ _ _ us hl => match us, hl with | [_, _], _ => rfl) (fun vs H Q E h => ?_) (fun f cdv A outer s H vs Q E hr h => ?_)
  · obtain ⟨z, b, kn, rfl, _⟩ := h; rfl
  · obtain ⟨z, b, kn, rfl, hz, hb, hk, hw, hn, q⟩ := h
    refine ⟨_, (pss_one (ps_match (pe_split (pv 0) pe_str) (pm_seq (its := [.wd "read", .nm 2, .wd "as", .nm 3]) sc_parse_step.nd rfl (.cons ⟨_, _, _, rfl⟩ (.cons ⟨_, _, rfl, rfl, (Or.inl rfl), Or.inl rfl⟩ (.cons ⟨_, _, _, rfl⟩ (.cons ⟨_, _, rfl, rfl, (Or.inl rfl), Or.inl rfl⟩ .nil)))) (pss_one (ps_ret (pe_d d_make_read hr (by decide) pass0 (by rfl) (pa_cons (pv 2) (pa_cons (pv 3) pa_nil))))) (pm_starL (its := [.wd "write", .nm 4, .wd "by", .nm 5]) (i := 6) sc_parse_step.nd rfl rfl (.cons ⟨_, _, _, rfl⟩ (.cons ⟨_, _, rfl, rfl, (Or.inl rfl), Or.inl rfl⟩ (.cons ⟨_, _, _, rfl⟩ (.cons ⟨_, _, rfl, rfl, (Or.inl rfl), Or.inl rfl⟩ .nil)))) ⟨rfl, (Or.inl rfl), Or.inl rfl⟩ (pss_one (ps_ret (pe_d d_make_write hr (by decide) pass0 (by rfl) (pa_cons (pv 4) (pa_cons (pv 5) (pa_cons (pv 6) (pa_cons (pv 1) pa_nil))))))) (pm_starL (its := [.wd "read", .nm 2, .wd "as", .nm 3, .wd "write", .nm 4, .wd "by", .nm 5]) (i := 6) sc_parse_step.nd rfl rfl (.cons ⟨_, _, _, rfl⟩ (.cons ⟨_, _, rfl, rfl, (Or.inl rfl), Or.inl rfl⟩ (.cons ⟨_, _, _, rfl⟩ (.cons ⟨_, _, rfl, rfl, (Or.inl rfl), Or.inl rfl⟩ (.cons ⟨_, _, _, rfl⟩ (.cons ⟨_, _, rfl, rfl, (Or.inl rfl), Or.inl rfl⟩ (.cons ⟨_, _, _, rfl⟩ (.cons ⟨_, _, rfl, rfl, (Or.inl rfl), Or.inl rfl⟩ .nil)))))))) ⟨rfl, (Or.inl rfl), Or.inl rfl⟩ (pss_one (ps_ret (pe_d d_make_both hr (by decide) pass0 (by rfl) (pa_cons (pe_d d_make_read hr (by decide) pass0 (by rfl) (pa_cons (pv 2) (pa_cons (pv 3) pa_nil))) (pa_cons (pe_d d_make_write hr (by decide) pass0 (by rfl) (pa_cons (pv 4) (pa_cons (pv 5) (pa_cons (pv 6) (pa_cons (pe_lst (pa_starK K rfl (pv 1) (pa_cons (pv 3) pa_nil))) pa_nil))))) pa_nil))))) (pm_any (pss_one (ps_ret pe_non))) (by decide) rfl rfl) (by decide) rfl rfl)))), ?_⟩
    walk_at "rd"
    have l1 : ((" " : Str).length == 0) = false := by decide +kernel
    refine ⟨⟨z, rfl⟩, l1, by rw [sizeLine_eq]; omega, fun p hp => ⟨p, rfl, Txt.split z " ", .inl (.inl upd_same), ?_⟩⟩
    generalize Txt.split z " " = ws at hw hn q ⊢
    have sp : Same H (upd H p (.lst (ws.map V.str))) := UL.Same.new hp
    have wl := W_le hw
    have ln : ∀ n x, x ∈ ws.drop n → x.length ≤ 1000 := fun n x hx => hw x (List.mem_of_mem_drop hx)
    unfold sSeq
    rw [mt1]
    by_cases c1 : hR ws
    · rw [if_pos c1]
      simp only [puts]
      walk_at "rd"
      exact ⟨_, _, rfl, wl 1, wl 3, fun v H' g s' => q v H' (by rw [stepO, if_pos c1]; exact g) (Same.tr sp s')⟩
    · rw [if_neg c1]
      unfold sStar
      simp only [List.length_cons, List.length_nil, Nat.reduceAdd]
      by_cases h4 : 4 ≤ ws.length
      · rw [if_pos h4, mt2 ws h4]
        by_cases c2 : hW ws
        · rw [if_pos c2]
          refine fun r hr => ?_
          simp only [puts, List.cons_append, List.nil_append]
          walk_at "rd"
          have s2 := Same.tr sp (UL.Same.new (o := .lst ((ws.drop 4).map V.str)) hr)
          exact ⟨_, _, r, b, ws.drop 4, kn, rfl, wl 1, wl 3, .inl (.inl upd_same), UL.Same.sqL s2 hb, by rw [List.length_drop]; omega, by omega, fun v H' g s' => q v H' (by rw [stepO, if_neg c1, if_pos c2]; exact g) (Same.tr s2 s')⟩
        · rw [if_neg c2]
          dsimp only
          by_cases h8 : 8 ≤ ws.length
          · rw [if_pos h8, mt3 ws h8]
            by_cases c3 : hB ws
            · rw [if_pos c3]
              refine fun r hr => ?_
              simp only [puts, List.cons_append, List.nil_append]
              walk_at "rd"
              have s2 := Same.tr sp (UL.Same.new (o := .lst ((ws.drop 8).map V.str)) hr)
              refine ⟨_, _, rfl, wl 1, wl 3, fun v1 H1 g1 s1 => ?_⟩
              have s3 := Same.tr s2 s1
              refine ⟨kn.map V.str, .inr (UL.Same.sqL s3 hb), by simp [sizeLine_eq]; omega, fun p2 hp2 => ?_⟩
              have s4 : Same H (upd H1 p2 (.lst (kn.map V.str ++ [V.str (W ws 3)]))) := Same.tr s3 (UL.Same.new hp2)
              refine ⟨_, _, r, p2, ws.drop 8, kn ++ [W ws 3], rfl, wl 5, wl 7, .inl (.inl (UL.Same.new hp2 _ _ (s1 _ _ upd_same))), .inl (.inl (by rw [upd_same]; simp)), by rw [List.length_drop]; omega, by simp; omega, fun v2 H5 g2 s5 => ?_⟩
              refine ⟨v1, v2, _, _, rfl, Gv.same (Same.tr (UL.Same.new hp2) s5) g1, g2, mkR_sh, mkW_sh, fun v H6 g s6 => q v H6 (by rw [stepO, if_neg c1, if_neg c2, if_pos c3]; exact g) (Same.tr (Same.tr s4 s5) s6)⟩
            · rw [if_neg c3]
              walk_at "rd"
              exact q _ _ (by rw [stepO, if_neg c1, if_neg c2, if_neg c3]; rfl) sp
          · rw [if_neg h8]
            walk_at "rd"
            exact q _ _ (by rw [stepO, if_neg c1, if_neg c2, if_neg fun h => h8 h.1]; rfl) sp
      · rw [if_neg h4]
        have c2 : ¬ hW ws := fun h => h4 h.1
        have h8 : ¬ 8 ≤ ws.length := by omega
        rw [if_neg h8]
        walk_at "rd"
        exact q _ _ (by rw [stepO, if_neg c1, if_neg c2, if_neg fun h => h8 h.1]; rfl) sp
def Sk.loc : Sk → List Str
  | .rd _ l | .rw _ l _ _ _ => [l]
  | .wr .. => []
/-- the steps that these lines tell -/
def stepsO : List Str → List Str → Option (List Sk)
  | [], _ => some []
  | z :: r, kn => match stepO (Txt.split z " ") kn with
    | none => none
    | some k => match stepsO r (kn ++ k.loc) with
      | none => none
      | some ks => some (k :: ks)
/-- a line that is not too long, nor are its words -/
def LnOk (z : Str) : Prop := z.length ≤ 900 ∧ (∀ x ∈ Txt.split z " ", x.length ≤ 1000) ∧ (Txt.split z " ").length ≤ 1000
theorem FJ.enumS {k : Nat} {a : Addr} {xs : List V} {g : TG} {tb : TS} {D : Ends} {σ : L2.St} {H : Hp} (Pv : Nat → L2.St → Hp → Prop) (h0 : Pv 0 σ H) (hl : ∀ i σ H, i ≤ xs.length → Pv i σ H → SqL K H a xs)
    (hs : ∀ (i : Nat) (x : V) (T : Addr) (σ : L2.St) (H : Hp), xs[i]? = some x → Pv i σ H → H T = none → g (.ref T) σ (upd H T (.tup [.int (i + k : Nat), x])) fun σ2 H2 => tb { D with nx := Pv (i + 1), ct := Pv (i + 1), bk := D.nx } σ2 H2) (hd : ∀ σ H, Pv xs.length σ H → D.nx σ H) :
    FJ (IteS K k a) g tb D σ H := for_it walk_enumS Pv h0 hl (fun i v σ H H' hi p y => by
      obtain ⟨T, x, y', rfl, hT, rfl, e1, e2⟩ := y
      cases e1
      exact hs i y' T σ H e2 p hT) hd
theorem FT.put {H : Hp} {a p : Addr} {xs zs : List V} {o : HO} (hp : H p = some (.lst zs)) (h : FT H a xs) : FT (upd H p o) a xs := by
  obtain ⟨o', e, d⟩ := h
  exact ⟨o', by rw [upd_ne (fun q => by rw [q, hp] at e; cases e)]; exact e, d⟩
theorem StA.put {H : Hp} {a p : Addr} {zs : List V} {o : HO} {k : Sk} (hp : H p = some (.lst zs)) (h : StA H R Wr B a k) : StA (upd H p o) R Wr B a k := by
  have ne : ∀ {C dx fs}, H a = some (.ins C dx fs) → upd H p o a = some (.ins C dx fs) := fun e => by rw [upd_ne (fun q => by rw [q, hp] at e; cases e)]; exact e
  cases k with
  | rd => obtain ⟨dx, e⟩ := h; exact ⟨dx, ne e⟩
  | wr => obtain ⟨dx, q, e, f⟩ := h; exact ⟨dx, q, ne e, FT.put hp f⟩
  | rw => obtain ⟨dx, q, e, f⟩ := h; exact ⟨dx, q, ne e, FT.put hp f⟩
abbrev s_parse_header : Stmt := top 24
abbrev sc_parse_header_N : List Str := ["line", "words"]
theorem sc_parse_header : FnScope sc_parse_header_N ["line"] (defScope s_parse_header) := ⟨rfl, rfl, rfl, by decide +kernel, rfl, by decide +kernel, by decide +kernel⟩
-- 0 line, 1 words
def sp_phead : Sp := fun vs H Q _ => ∃ (z n : Str), vs = [.str z] ∧ Txt.split z " " = [("program" : Str), n] ∧ nmB n = true ∧ z.length ≤ 900 ∧ n.length ≤ 1000 ∧ ∀ H', Same H H' → Q (.str n) H'
theorem d_phead (T : PT K mg R Wr B Pg) (D : TD K mg "parse_header" s_parse_header) (d_is_name : Dn P w K mg base CX0 1 "is_name" sp_isnm) : Dn P w K mg base CX0 2 "parse_header" sp_phead := by
  refine D.dn sc_parse_header (fun _ _ _ _ _ _ us hl => match us, hl with | [_], _ => rfl) (fun vs H Q E h => ?_) (fun f cdv A outer s H vs Q E hr h => ?_)
  · obtain ⟨z, n, rfl, _⟩ := h; rfl
  · obtain ⟨z, n, rfl, hz, hn, hl, hm, q⟩ := h
    refine ⟨_, (pss_cons (ps_set (i := 1) sc_parse_header.nd rfl (Or.inl rfl) (pe_split (pv 0) pe_str))
      (pss_cons (ps_if (pw_or (pt_cmpR (op_neA (hr.units)) (pe_callB call_lenA (by rfl) T.n_len (by decide +kernel) (pa_cons (pv 1) pa_nil)) pe_int (nomark _)) (pw_or (pt_cmpR (op_neA (hr.units)) (pe_ix ix_seq (pv 1) pe_int (fun _ _ => rfl)) pe_str (nomark _)) (pw_or1 (pt_not (pt_val (pe_d d_is_name hr (by decide) pass0 (by rfl) (pa_cons (pe_ix ix_seq (pv 1) pe_int (fun _ _ => rfl)) pa_nil))))))).pt pss_never pss_nil)
      (pss_one (ps_ret (pe_ix ix_seq (pv 1) pe_int (fun _ _ => rfl)))))), ?_⟩
    walk_at "rd"
    have l1 : ((" " : Str).length == 0) = false := by decide +kernel
    refine ⟨⟨z, rfl⟩, l1, by rw [sizeLine_eq]; omega, fun p hp => ?_⟩
    rw [hz]
    have sq : SqL K (upd H p (.lst ([("program" : Str), n].map V.str))) p ([("program" : Str), n].map V.str) := .inl (.inl upd_same)
    refine lenL sq (neII.mpr ⟨_, rfl, ?_⟩)
    rw [if_neg (by simp)]
    refine ixL sq (show atI _ ((0 : Nat) : Int) = some (V.str "program") from atN rfl) (neSS.mpr ⟨_, rfl, ?_⟩)
    rw [if_neg (by simp)]
    refine ixL sq (show atI _ ((1 : Nat) : Int) = some (V.str n) from atN rfl) ⟨n, rfl, by omega, fun H' s' => ⟨_, rfl, ?_⟩⟩
    rw [if_neg (by simp [hn])]
    exact ixL (UL.Same.sqL s' sq) (show atI _ ((1 : Nat) : Int) = some (V.str n) from atN rfl) (q _ (Same.tr (UL.Same.new hp) s'))
abbrev s_parse_steps : Stmt := top 25
abbrev sc_parse_steps_N : List Str := ["lines", "steps", "known", "number", "line", "step"]
theorem sc_parse_steps : FnScope sc_parse_steps_N ["lines"] (defScope s_parse_steps) := ⟨rfl, rfl, rfl, by decide +kernel, rfl, by decide +kernel, by decide +kernel⟩
-- 0 lines, 1 steps, 2 known, 3 number, 4 line, 5 step
def sp_psteps (K : PySem.W.Frag) (R Wr B : Addr) : Sp := fun vs H Q _ => ∃ (a : Addr) (zs : List Str) (ks : List Sk), vs = [.ref a] ∧ SqL K H a (zs.map V.str) ∧ zs.length ≤ 4 ∧ (∀ z ∈ zs, LnOk z) ∧ stepsO zs [] = some ks ∧
  ∀ q ts H', H q = none → H' q = some (.lst (ts.map V.ref)) → Paired (fun t k => StA H' R Wr B t k) ts ks → Same H H' → Q (.ref q) H'
theorem d_psteps (T : PT K mg R Wr B Pg) (D : TD K mg "parse_steps" s_parse_steps) (d_parse_step : Dn P w K mg base CX0 5 "parse_step" (sp_pstep K R Wr B)) : Dn P w K mg base CX0 6 "parse_steps" (sp_psteps K R Wr B) := by
  refine D.dn sc_parse_steps (fun _ _ _ _ _ _ us hl => match us, hl with | [_], _ => rfl) (fun vs H Q E h => ?_) (fun f cdv A outer s H vs Q E hr h => ?_)
  · obtain ⟨a, zs, ks, rfl, _⟩ := h; rfl
  · obtain ⟨a, zs, ks, rfl, ha, hz, hl, hk, q⟩ := h
    refine ⟨_, (pss_cons (ps_set (i := 1) sc_parse_steps.nd rfl (Or.inl rfl) (pe_lst pa_nil))
      (pss_cons (ps_set (i := 2) sc_parse_steps.nd rfl (Or.inl rfl) (pe_lst pa_nil))
      (pss_cons (ps_for PassesOwn.never rfl (pi_enumS (by decide) (by rfl) T.n_enumerate (pa_cons (pv 0) pa_nil)) (pg_tup rfl (pgs_cons (pg_name (i := 3) sc_parse_steps.nd rfl (Or.inl rfl)) (pgs_cons (pg_name (i := 4) sc_parse_steps.nd rfl (Or.inl rfl)) pgs_nil))) (pss_cons (ps_set (i := 5) sc_parse_steps.nd rfl (Or.inl rfl) (pe_d d_parse_step hr (by decide) pass0 (by rfl) (pa_cons (pv 4) (pa_cons (pv 2) pa_nil))))
      (pss_cons (ps_if (pw_or (pt_cmpR op_isNone (pv 5) pe_non (nomark _)) (pw_or1 (pt_cmpR (op_eqA (hr.units)) (pe_callB call_lenA (by rfl) T.n_len (by decide +kernel) (pa_cons (pv 1) pa_nil)) (C8.pe_gc (by rfl) T.c_MOST_STEPS) (nomark _)))).pt pss_never pss_nil)
      (pss_cons (ps_expr (pe_bm PySem.F.plainAttrs_list PySem.F.slot_list_append PySem.F.type_list_append mt_append (pv 1) (pa_cons (pv 5) pa_nil)))
      (pss_one (ps_if (pt_val (pe_callB call_isi (by rfl) T.n_isinstance (by decide +kernel) (pa_cons (pv 5) (pa_cons (C8.pe_gc (by rfl) T.c_Read) pa_nil)))) (pss_one (ps_expr (pe_bm PySem.F.plainAttrs_list PySem.F.slot_list_append PySem.F.type_list_append mt_append (pv 2) (pa_cons (pe_fld (pv 5) (by rfl)) pa_nil)))) pss_nil))))))
      (pss_one (ps_ret (pv 1)))))), ?_⟩
    walk_at "rd"
    refine fun p hp p1 hp1 => ⟨⟨_, UL.Same.sqL (UL.Same.new hp1) (UL.Same.sqL (UL.Same.new hp) ha)⟩, ?_⟩
    have n01 : p ≠ p1 := ne_of_none upd_same hp1
    have hp1H : H p1 = none := by rw [upd_ne (Ne.symm n01)] at hp1; exact hp1
    refine FJ.enumS (xs := zs.map V.str) (fun i σ' H' => ∃ (ts : List Addr) (dn rest : List Sk) (kn : List Str) (x y z : Option V), σ' = [some (.ref a), some (.ref p), some (.ref p1), x, y, z] ∧ H' p = some (.lst (ts.map V.ref)) ∧ H' p1 = some (.lst (kn.map V.str)) ∧ Paired (fun t k => StA H' R Wr B t k) ts dn ∧
      stepsO (zs.drop i) kn = some rest ∧ ks = dn ++ rest ∧ ts.length = i ∧ kn.length ≤ i ∧ Same H H') ?_ (fun i σ' H' _ inv => ?_) (fun i x tq σ' H' hx inv hT => ?_) fun σ' H' inv => ?_
    · exact ⟨[], [], ks, [], _, _, _, rfl, by rw [upd_ne n01]; exact upd_same, upd_same, .nil, hk, rfl, rfl, Nat.zero_le _, Same.tr (UL.Same.new hp) (UL.Same.new hp1)⟩
    · obtain ⟨ts, dn, rest, kn, x, y, z, rfl, _, _, _, _, _, _, _, sm⟩ := inv
      exact UL.Same.sqL sm ha
    · obtain ⟨ts, dn, rest, kn, x0, y0, z0, rfl, h1, h2, hpd, hst, hks, hti, hkn, sm⟩ := inv
      obtain ⟨z, hzi, rfl⟩ : ∃ z, zs[i]? = some z ∧ x = V.str z := by
        rw [List.getElem?_map] at hx
        cases e : zs[i]? with
        | none => rw [e] at hx; cases hx
        | some z => rw [e] at hx; cases hx; exact ⟨z, rfl, rfl⟩
      have hlt : i < zs.length := (List.getElem?_eq_some_iff.mp hzi).1
      have hzm : z ∈ zs := List.mem_of_getElem? hzi
      have dz : zs.drop i = z :: zs.drop (i + 1) := by
        rw [List.drop_eq_getElem_cons hlt, (List.getElem?_eq_some_iff.mp hzi).2]
      rw [dz] at hst
      simp only [stepsO] at hst
      cases e1 : stepO (Txt.split z " ") kn with
      | none => rw [e1] at hst; cases hst
      | some k =>
        rw [e1] at hst
        dsimp only at hst
        cases e2 : stepsO (zs.drop (i + 1)) (kn ++ k.loc) with
        | none => rw [e2] at hst; cases hst
        | some r' =>
          rw [e2] at hst
          have er : rest = k :: r' := (Option.some.inj hst).symm
          subst er
          walk_at "rd"
          refine ⟨_, .inl (.inl upd_same), rfl, _, _, rfl, _, _, rfl, rfl, z, p1, kn, rfl, (hl z hzm).1, .inl (.inl (UL.Same.new hT _ _ h2)), by omega, (hl z hzm).2.1, (hl z hzm).2.2, fun v H1 g s1 => ?_⟩
          rw [e1] at g
          obtain ⟨a', rfl, ga⟩ := g
          have sT : Same H' H1 := Same.tr (UL.Same.new hT) s1
          refine ⟨rfl, _, rfl, ?_⟩
          rw [if_neg (by simp)]
          refine lenL (.inl (.inl (sT _ _ h1))) (eqII.mpr ⟨_, rfl, ?_⟩)
          rw [if_neg (by simp; omega)]
          walk_at "rd"
          refine ⟨.inl ⟨rfl, _, .inl (.inl (sT _ _ h1))⟩, p, _, _, rfl, rfl, sT _ _ h1, by rw [List.length_map, sizeLine_eq]; omega, ?_⟩
          have h2T := sT _ _ h2
          have g6 : StA (upd H1 p (.lst (ts.map V.ref ++ [V.ref a']))) R Wr B a' k := StA.put (sT _ _ h1) ga
          have pd6 : Paired (fun t k => StA (upd H1 p (.lst (ts.map V.ref ++ [V.ref a']))) R Wr B t k) (ts ++ [a']) (dn ++ [k]) := (L2.Paired.mapP hpd fun _ _ q => StA.put (sT _ _ h1) (StA.same sT q)).snoc g6
          have p6 : upd H1 p (.lst (ts.map V.ref ++ [V.ref a'])) p = some (.lst ((ts ++ [a']).map V.ref)) := by rw [upd_same, List.map_append]; rfl
          have p16 : upd H1 p (.lst (ts.map V.ref ++ [V.ref a'])) p1 = some (.lst (kn.map V.str)) := by rw [upd_ne (Ne.symm n01)]; exact h2T
          have s6 : Same H (upd H1 p (.lst (ts.map V.ref ++ [V.ref a']))) := UL.Same.put (Same.tr sm sT) hp
          generalize upd H1 p (.lst (ts.map V.ref ++ [V.ref a'])) = H6 at g6 pd6 p6 p16 s6 ⊢
          cases k with
          | wr t f xs =>
            obtain ⟨dx, q0, ha6, _⟩ := g6
            refine ⟨_, _, _, _, false, rfl, .own R, T.iW.ty T.cW ha6, T.kWR, _, rfl, ?_⟩
            rw [if_neg (by simp)]
            exact ⟨⟨_, rfl⟩, ts ++ [a'], p6, dn ++ [.wr t f xs], r', kn, p16, pd6, by simpa [Sk.loc] using e2, by rw [hks]; simp, by simp; omega, by omega, s6⟩
          | rd s0 l =>
            obtain ⟨dx, ha6⟩ := g6
            refine ⟨_, _, _, _, true, rfl, .own R, T.iR.ty T.cR ha6, T.kRR, _, rfl, ?_⟩
            rw [if_pos rfl]
            exact ⟨.inl ⟨rfl, _, .inl (.inl p16)⟩, R, dx, _, ha6, T.cR, T.aR_local, _, rfl, p1, _, _, rfl, rfl, p16, by rw [List.length_map, sizeLine_eq]; omega, ⟨_, rfl⟩, ts ++ [a'], by rw [upd_ne n01]; exact p6, _, r', kn ++ [l], by rw [upd_same, List.map_append]; rfl, L2.Paired.mapP pd6 fun _ _ q => StA.put p16 q, e2, by rw [hks]; simp, by simp; omega, by simp; omega, UL.Same.put s6 hp1H⟩
          | rw s0 l t f xs =>
            obtain ⟨dx, q0, ha6, _⟩ := g6
            refine ⟨_, _, _, _, true, rfl, .own R, T.iB.ty T.cB ha6, T.kBR, _, rfl, ?_⟩
            rw [if_pos rfl]
            exact ⟨.inl ⟨rfl, _, .inl (.inl p16)⟩, B, dx, _, ha6, T.cB, T.aB_local, _, rfl, p1, _, _, rfl, rfl, p16, by rw [List.length_map, sizeLine_eq]; omega, ⟨_, rfl⟩, ts ++ [a'], by rw [upd_ne n01]; exact p6, _, r', kn ++ [l], by rw [upd_same, List.map_append]; rfl, L2.Paired.mapP pd6 fun _ _ q => StA.put p16 q, e2, by rw [hks]; simp, by simp; omega, by simp; omega, UL.Same.put s6 hp1H⟩
    · obtain ⟨ts, dn, rest, kn, x0, y0, z0, rfl, h1, h2, hpd, hst, hks, hti, hkn, sm⟩ := inv
      rw [List.length_map, List.drop_length] at hst
      have er : rest = [] := (Option.some.inj hst).symm
      subst er
      rw [List.append_nil] at hks
      subst hks
      walk_at "rd"
      exact q p ts _ hp h1 hpd sm
end
end U

set_option Elab.async false
set_option linter.all false
set_option maxRecDepth 100000
set_option maxHeartbeats 4000000
set_option pp.deepTerms true
set_option pp.maxSteps 400000
namespace U
open PySem PySem.Spec PyProof.Rows L2 UL UX
local macro_rules | `(tactic| walk_at "rd") => `(tactic| simp only [sMatch, tJs, tFmt, tBC, tMethA, tMakeL, iEnumS, tSeq, tAsg, tOp, tCB, tCons, tNil, tVar, tC, tB, tTest, tNot, tIfS, tNext, tYes, tUn, rU, tM0, tGFrom, tGThen, tG0, tYfLst, gcxK, tSubO, tProp, tListG, tMethG, tBMF, tFld, sFld, tMeth, tMake, tSl, tNoPart, tPart, tM1, gTup, gCons, gNil, tDrop, tFor_eq, tLc_eq, tLc2_eq, iRng1_eq, StX.tStar, iList, iTup, iStr, iAny_var, iZipB, tLenSetS, wipe, tVar, tAndV, tOrV, tNotV, tOr, tAnd, tLst, tTup, tBM, tBM0, tChain, tCall, cxK, noxK, addII, addSS, mulII, eqII, neII, neSS, cIntI, cAbsI, rI, rI0, rLt, rLe, rGt_, rGe_, rSub_, rMod, rPow, rDivW, rNeg, gName, tRet, L2.start, List.length_cons, List.length_nil, List.map_cons, List.map_nil, List.replicate, List.cons_append, List.nil_append, List.getElem?_cons_zero, List.getElem?_cons_succ, List.set_cons_zero, List.set_cons_succ, Option.some.injEq, exists_eq_left', exists_eq_left, V.int.injEq, V.bl.injEq, V.str.injEq, V.ref.injEq, V.ty.injEq, List.cons.injEq, and_true, true_and, reduceCtorEq, false_and, exists_false, or_false, false_or, exists_and_left, exists_and_right, List.append_nil, forall_eq, decide_eq_true_eq, Bool.not_eq_true, Nat.reduceAdd, Nat.reduceSub, List.replicate_zero, List.replicate_succ, Nat.zero_le, ite_true, ite_false, if_true, if_false])
section
variable {P : Program} {w : World} {K : PySem.W.Frag} {mg : Str → Option Value} {base : Heap}

variable {R Wr B Pg : Addr}
def fsP (n : Str) (p : Addr) : List (Str × V) := [("name", .str n), ("steps", .ref p)]
abbrev s_Program___init__ : Stmt := inClass (top 23) 0
abbrev sc_Program___init___N : List Str := ["self", "name", "steps"]
theorem sc_Program___init__ : FnScope sc_Program___init___N ["self", "name", "steps"] (defScope s_Program___init__) := ⟨rfl, rfl, rfl, by decide +kernel, rfl, by decide +kernel, by decide +kernel⟩
-- 0 self, 1 name, 2 steps
def sp_initP (K : PySem.W.Frag) (Pg : Addr) : Sp := fun vs H Q _ => ∃ (x dx b : Addr) (n : Str) (ts : List Addr), vs = [.ref x, .str n, .ref b] ∧ H x = some (.ins Pg dx []) ∧ SqL K H b (ts.map V.ref) ∧ ∀ p H', FT H' p (ts.map V.ref) → H' x = some (.ins Pg dx (fsP n p)) → But x H H' → Q .non H'
theorem m_initP (T : PT K mg R Wr B Pg) (D : MD K Pg "__init__" "Program.__init__" s_Program___init__) : Mn P w K mg base CX0 1 Pg "__init__" (sp_initP K Pg) := by
  refine D.mn sc_Program___init__ (fun _ _ _ _ _ _ us hl => match us, hl with | [_, _, _], _ => rfl) (fun vs H Q E h => ?_) (fun f cdv A outer s H vs Q E hr h => ?_)
  · obtain ⟨x, dx, b, n, ts, rfl, _⟩ := h; rfl
  · obtain ⟨x, dx, b, n, ts, rfl, hx, hb, q⟩ := h
    refine ⟨_, (pss_cons (ps_fld (pv 0) (pv 1) rfl)
      (pss_one (ps_fld (pv 0) (pe_callTy call_tupG (by rfl) T.n_tuple (by decide +kernel) (pa_cons (pv 2) pa_nil)) rfl))), ?_⟩
    walk_at "rd"
    refine ⟨Pg, dx, [], hx, T.cP, T.aP_name, by decide, b, _, rfl, .inl ⟨sqL_ins hx hb, fun l o hl ho hs => ?_⟩⟩
    have nx : x ≠ l := ne_of_none upd_same hl
    refine ⟨Pg, dx, _, by rw [upd_ne nx]; exact upd_same, T.cP, T.aP_steps, by show 1 < 1000; decide, ?_⟩
    have e : putF "steps" (V.ref l) (putF "name" (V.str n) []) = fsP n l := by
      have n1 : ("name" : Str) ≠ "steps" := by decide +kernel
      simp [putF, n1, fsP]
    rw [e]
    refine q l _ ⟨o, by rw [upd_ne (Ne.symm nx)]; exact upd_same, ho, hs⟩ upd_same fun c u ec nc => ?_
    have e1 : But x H (upd H x (.ins Pg dx (putF "name" (V.str n) []))) := But.at_
    rw [upd_ne nc, upd_ne (ne_of_none (e1 c u ec nc) hl)]
    exact e1 c u ec nc
abbrev s_Program_read : Stmt := inClass (top 23) 1
abbrev sc_Program_read_N : List Str := ["cls", "text", "lines"]
theorem sc_Program_read : FnScope sc_Program_read_N ["cls", "text"] (defScope s_Program_read) := ⟨rfl, rfl, rfl, by decide +kernel, rfl, by decide +kernel, by decide +kernel⟩
-- 0 cls, 1 text, 2 lines
def sp_pread (K : PySem.W.Frag) (R Wr B Pg : Addr) : Sp := fun vs H Q _ => ∃ (z zh n : Str) (zs : List Str) (ks : List Sk), vs = [.ref Pg, .str z] ∧ z.length ≤ 10000 ∧ Txt.split z "\n" = zh :: zs ∧ Txt.split zh " " = [("program" : Str), n] ∧ nmB n = true ∧ zh.length ≤ 900 ∧ n.length ≤ 1000 ∧ zs.length ≤ 4 ∧ (∀ z ∈ zs, LnOk z) ∧ stepsO zs [] = some ks ∧
  ∀ a dx p ts H', H' a = some (.ins Pg dx (fsP n p)) → FT H' p (ts.map V.ref) → Paired (fun t k => StA H' R Wr B t k) ts ks → Same H H' → Q (.ref a) H'
theorem d_pread (T : PT K mg R Wr B Pg) {f0 : Addr} {fd : FuncData} (F : Fun K "read" "Program.read" s_Program_read f0 fd) (K_Program : Kn P w K mg base CX0 1 Pg "Program" (sp_initP K Pg)) (d_parse_header : Dn P w K mg base CX0 2 "parse_header" sp_phead) (d_parse_steps : Dn P w K mg base CX0 6 "parse_steps" (sp_psteps K R Wr B)) :
    FnOk P w K mg base CX0 7 f0 fd ["cls", "text"] (sp_pread K R Wr B Pg) := by
  refine F.ok sc_Program_read (fun vs H Q E h => ?_) (fun cdv A outer s H vs Q E hr h => ?_)
  · obtain ⟨z, zh, n, zs, ks, rfl, _⟩ := h; rfl
  · obtain ⟨z, zh, n, zs, ks, rfl, hz, hs, hw, hn, hl, hm, hc, hlo, hk, q⟩ := h
    refine ⟨_, (pss_cons (ps_set (i := 2) sc_Program_read.nd rfl (Or.inl rfl) (pe_split (pv 1) pe_str))
      (pss_one (ps_ret (pe_makeLK K_Program hr (by decide) (i := 0) rfl (Or.inl rfl) (pa_cons (pe_d d_parse_header hr (by decide) pass0 (by rfl) (pa_cons (pe_ix ix_seq (pv 2) pe_int (fun _ _ => rfl)) pa_nil)) (pa_cons (pe_d d_parse_steps hr (by decide) pass0 (by rfl) (pa_cons (pe_slice sl_list (pv 2) (po_some pe_int) po_none) pa_nil)) pa_nil)))))), ?_⟩
    walk_at "rd"
    have l1 : (("\n" : Str).length == 0) = false := by decide +kernel
    refine ⟨⟨z, rfl⟩, l1, by rw [sizeLine_eq]; omega, fun p hp => ?_⟩
    rw [hs]
    have sq : SqL K (upd H p (.lst ((zh :: zs).map V.str))) p ((zh :: zs).map V.str) := .inl (.inl upd_same)
    refine ixL sq (show atI _ ((0 : Nat) : Int) = some (V.str zh) from atN rfl) ⟨zh, n, rfl, hw, hn, hl, hm, fun H1 s1 => ?_⟩
    refine ⟨p, _, rfl, UL.Same.sqL s1 sq, fun p2 hp2 => ?_⟩
    rw [cut1]
    refine ⟨p2, zs, ks, rfl, .inl (.inl upd_same), hc, hlo, hk, fun q0 ts H2 hq0 h2 hpd s2 x dx hx hd hne => ?_⟩
    have s3 : Same H H2 := Same.tr (Same.tr (UL.Same.new hp) s1) (Same.tr (UL.Same.new hp2) s2)
    refine ⟨x, dx, q0, n, ts, rfl, upd_same, .inl (.inl (by rw [upd_ne (ne_of_none h2 hx), upd_ne (ne_of_none h2 hd)]; exact h2)), fun p3 H4 hp3 hx4 b4 => ?_⟩
    have s24 : Same H2 H4 := fun c u e => b4 c u (by rw [upd_ne (ne_of_none e hx), upd_ne (ne_of_none e hd)]; exact e) (ne_of_none e hx)
    exact ⟨rfl, q x dx p3 ts H4 hx4 hp3 (L2.Paired.mapP hpd fun _ _ g => StA.same s24 g) (Same.tr s3 s24)⟩
theorem pr_at {α β : Type} {F : α → β → Prop} : ∀ {l : List α} {m : List β}, Paired F l m → ∀ {i : Nat} {a : α}, l[i]? = some a → ∃ b, m[i]? = some b ∧ F a b
  | _, _, .nil, i, a, e => by simp at e
  | _, _, .cons r _, 0, a, e => by simp at e; subst e; exact ⟨_, rfl, r⟩
  | _, _, .cons _ t, i + 1, a, e => by
    obtain ⟨b, h1, h2⟩ := pr_at t (i := i) (a := a) (by simpa using e)
    exact ⟨b, by simpa using h1, h2⟩
theorem line_le {k : Sk} (h : k.small) : k.line.length ≤ 210000 := by
  cases k with
  | rd s l => exact Nat.le_trans (rd_len h.1 h.2) (by decide)
  | wr t f xs => exact Nat.le_trans (wr_join h.1 h.2.1 h.2.2.1 h.2.2.2) (by decide)
  | rw s l t f xs =>
    have h1 := rd_len h.1.1 h.1.2
    have h2 := wr_join h.2.1 h.2.2.1 h.2.2.2.1 h.2.2.2.2
    show (rdT s l ++ " " ++ Txt.join " " (wrT t f xs)).length ≤ _
    rw [len_app, len_app, l_sp]
    omega
theorem StA.ins {H : Hp} {a : Addr} {k : Sk} (h : StA H R Wr B a k) : ∃ dx fs, H a = some (.ins (k.cls R Wr B) dx fs) ∧ fs.lookup ("text" : Str) = none ∧ fs.lookup ("reads" : Str) = none ∧ fs.lookup ("writes" : Str) = none := by
  cases k with
  | rd s l => obtain ⟨dx, e⟩ := h; exact ⟨dx, _, e, rfl, rfl, rfl⟩
  | wr t f xs => obtain ⟨dx, p, e, _⟩ := h; exact ⟨dx, _, e, rfl, rfl, rfl⟩
  | rw s l t f xs => obtain ⟨dx, p, e, _⟩ := h; exact ⟨dx, _, e, rfl, rfl, rfl⟩
theorem Sk.cls3 (k : Sk) : k.cls R Wr B = R ∨ k.cls R Wr B = Wr ∨ k.cls R Wr B = B := by
  cases k with
  | rd => exact .inl rfl
  | wr => exact .inr (.inl rfl)
  | rw => exact .inr (.inr rfl)
abbrev s_Program_text : Stmt := inClass (top 23) 2
abbrev sc_Program_text_N : List Str := ["self", "lines", "step"]
theorem sc_Program_text : FnScope sc_Program_text_N ["self"] (defScope s_Program_text) := ⟨rfl, rfl, rfl, by decide +kernel, rfl, by decide +kernel, by decide +kernel⟩
-- 0 self, 1 lines, 2 step
def sp_ptext (R Wr B Pg : Addr) : Sp := fun vs H Q _ => ∃ (a dx p : Addr) (n : Str) (ts : List Addr) (ks : List Sk), vs = [.ref a] ∧ H a = some (.ins Pg dx (fsP n p)) ∧ FT H p (ts.map V.ref) ∧ Paired (fun t k => StA H R Wr B t k) ts ks ∧ (∀ k ∈ ks, k.small) ∧ n.length ≤ 1000 ∧ ks.length ≤ 4 ∧
  ∀ H', Same H H' → Q (.str (Txt.join "\n" (("program " ++ n) :: ks.map Sk.line))) H'
/-- the class of a step, and what it promises -/
def Fam (R Wr B : Addr) (sp : Addr → Sp) (C : Addr) (s : Sp) : Prop := (C = R ∨ C = Wr ∨ C = B) ∧ s = sp C
theorem m_textP (T : PT K mg R Wr B Pg) (D : MD K Pg "text" "Program.text" s_Program_text) (A_text : ∀ C s, Fam R Wr B (sp_text R Wr B) C s → Mn P w K mg base CX0 2 C "text" s ∧ Cls K C) : Mn P w K mg base CX0 3 Pg "text" (sp_ptext R Wr B Pg) := by
  refine D.mn sc_Program_text (fun _ _ _ _ _ _ us hl => match us, hl with | [_], _ => rfl) (fun vs H Q E h => ?_) (fun f cdv A outer s H vs Q E hr h => ?_)
  · obtain ⟨a, dx, p, n, ts, ks, rfl, _⟩ := h; rfl
  · obtain ⟨a, dx, p, n, ts, ks, rfl, ha, hp, hk, hs, hn, hl, q⟩ := h
    refine ⟨_, (pss_cons (ps_set (i := 1) sc_Program_text.nd rfl (Or.inl rfl) (pe_lst (pa_cons (pe_joined (PJ.cons pe_str (PJ.cons (pe_fmt (pe_fld (pv 0) (by rfl))) PJ.nil))) pa_nil)))
      (pss_cons (ps_for PassesOwn.never rfl (pi_tup (pe_fld (pv 0) (by rfl))) (pg_name (i := 2) sc_Program_text.nd rfl (Or.inl rfl)) (pss_one (ps_expr (pe_bm PySem.F.plainAttrs_list PySem.F.slot_list_append PySem.F.type_list_append mt_append (pv 1) (pa_cons (pe_mA (i := 2) A_text hr (by decide) (pv 2)) pa_nil)))))
      (pss_one (ps_ret (pe_join pe_str (pv 1)))))), ?_⟩
    walk_at "rd"
    have lp : ("program " : Str).length = 8 := by decide +kernel
    have ln : ("\n" : Str).length = 1 := by decide +kernel
    refine ⟨by rw [nil_app, lp, sizeLine_eq]; omega, Pg, dx, _, ha, T.cP, T.aP_name, _, rfl, .inl ⟨n, rfl, by rw [sizeLine_eq]; omega, by rw [nil_app, len_app, lp, sizeLine_eq]; omega, by rw [sizeLine_eq]; omega, fun l hl0 => ?_⟩⟩
    rw [nil_app]
    have nal := ne_of_none ha hl0
    refine ⟨Pg, dx, _, by rw [upd_ne nal]; exact ha, T.cP, T.aP_steps, _, rfl, p, rfl, ⟨_, FT.sq (FT.same (UL.Same.new hl0) hp)⟩, ?_⟩
    have ls : ts.length = ks.length := hk.length
    refine FJ.tup (xs := ts.map V.ref) (fun i σ' H' => ∃ x, σ' = [some (.ref a), some (.ref l), x] ∧ H' l = some (.lst ((("program " ++ n) :: (ks.take i).map Sk.line).map V.str)) ∧ Same H H') ⟨_, rfl, upd_same, UL.Same.new hl0⟩ (fun i σ' H' _ inv => ?_) (fun i x σ' H' hx inv => ?_) fun σ' H' inv => ?_
    · obtain ⟨x, rfl, _, sm⟩ := inv
      exact FT.sq (FT.same sm hp)
    · obtain ⟨x0, rfl, hll, sm⟩ := inv
      obtain ⟨t, hti, rfl⟩ : ∃ t, ts[i]? = some t ∧ x = V.ref t := by
        rw [List.getElem?_map] at hx
        cases e : ts[i]? with
        | none => rw [e] at hx; cases hx
        | some t => rw [e] at hx; cases hx; exact ⟨t, rfl, rfl⟩
      obtain ⟨k, hki, gk⟩ := pr_at hk hti
      walk_at "rd"
      obtain ⟨dx1, fs1, e1, lk, _, _⟩ := StA.ins (StA.same sm gk)
      refine ⟨.inl ⟨rfl, _, .inl (.inl hll)⟩, k.cls R Wr B, _, ⟨Sk.cls3 k, rfl⟩, dx1, fs1, e1, lk, t, k, rfl, rfl, StA.same sm gk, hs k (List.mem_of_getElem? hki), fun H5 s5 => ⟨l, _, _, rfl, rfl, s5 _ _ hll, ?_, ?_, UL.Same.put (Same.tr sm s5) hl0⟩⟩
      · rw [List.length_map, List.length_cons, List.length_map, List.length_take, sizeLine_eq]; omega
      · rw [upd_same, List.take_add_one, hki]; simp
    · obtain ⟨x0, rfl, hll, sm⟩ := inv
      rw [List.length_map, ls, List.take_length] at hll
      walk_at "rd"
      refine ⟨⟨_, rfl⟩, ("program " ++ n) :: ks.map Sk.line, .inl (.inl (.inl hll)), ?_, q _ sm⟩
      have hb : ∀ y ∈ (("program " ++ n) :: ks.map Sk.line), y.length ≤ 210000 := fun y hy => by
        rcases List.mem_cons.mp hy with rfl | hy
        · rw [len_app, lp]; omega
        · obtain ⟨k, hk', rfl⟩ := List.mem_map.mp hy
          exact line_le (hs k hk')
      have h1 := sum_le hb
      have h2 : (("program " ++ n) :: ks.map Sk.line).length ≤ 5 := by rw [List.length_cons, List.length_map]; omega
      have h3 : (("program " ++ n) :: ks.map Sk.line).length * 210000 ≤ 5 * 210000 := Nat.mul_le_mul_right _ h2
      rw [ln]
      omega
end
end U

set_option Elab.async false
set_option linter.all false
set_option maxRecDepth 100000
set_option maxHeartbeats 4000000
set_option pp.deepTerms true
set_option pp.maxSteps 400000
namespace U
open PySem PySem.Spec PyProof.Rows L2 UL UX
local macro_rules | `(tactic| walk_at "rd") => `(tactic| simp only [sMatch, tJs, tFmt, tBC, tMethA, tMakeL, iEnumS, tSeq, tAsg, tOp, tCB, tCons, tNil, tVar, tC, tB, tTest, tNot, tIfS, tNext, tYes, tUn, rU, tM0, tGFrom, tGThen, tG0, tYfLst, gcxK, tSubO, tProp, tListG, tMethG, tBMF, tFld, sFld, tMeth, tMake, tSl, tNoPart, tPart, tM1, gTup, gCons, gNil, tDrop, tFor_eq, tLc_eq, tLc2_eq, iRng1_eq, StX.tStar, iList, iTup, iStr, iAny_var, iZipB, tLenSetS, wipe, tVar, tAndV, tOrV, tNotV, tOr, tAnd, tLst, tTup, tBM, tBM0, tChain, tCall, cxK, noxK, addII, addSS, mulII, eqII, neII, neSS, cIntI, cAbsI, rI, rI0, rLt, rLe, rGt_, rGe_, rSub_, rMod, rPow, rDivW, rNeg, gName, tRet, L2.start, List.length_cons, List.length_nil, List.map_cons, List.map_nil, List.replicate, List.cons_append, List.nil_append, List.getElem?_cons_zero, List.getElem?_cons_succ, List.set_cons_zero, List.set_cons_succ, Option.some.injEq, exists_eq_left', exists_eq_left, V.int.injEq, V.bl.injEq, V.str.injEq, V.ref.injEq, V.ty.injEq, List.cons.injEq, and_true, true_and, reduceCtorEq, false_and, exists_false, or_false, false_or, exists_and_left, exists_and_right, List.append_nil, forall_eq, decide_eq_true_eq, Bool.not_eq_true, Nat.reduceAdd, Nat.reduceSub, List.replicate_zero, List.replicate_succ, Nat.zero_le, ite_true, ite_false, if_true, if_false])
section
variable {P : Program} {w : World} {K : PySem.W.Frag} {mg : Str → Option Value} {base : Heap}

variable {R Wr B Pg : Addr}
abbrev s__law_mixed : Stmt := top 35
abbrev sc__law_mixed_N : List Str := ["_law_cell", "_law_k", "_law_first", "_law_second"]
theorem sc__law_mixed : FnScope sc__law_mixed_N ["_law_cell", "_law_k"] (defScope s__law_mixed) := ⟨rfl, rfl, rfl, by decide +kernel, rfl, by decide +kernel, by decide +kernel⟩
-- 0 _law_cell, 1 _law_k, 2 _law_first, 3 _law_second
def sp_mixed : Sp := fun vs H Q _ => ∃ c k : Int, vs = [.int c, .int k] ∧ 0 ≤ c ∧ c < 10 ^ 18 ∧ 0 ≤ k ∧ k < 1000 ∧ ∀ r : Int, 0 ≤ r → Q (.int r) H
theorem d_mixed (T : Nm mg) (D : TD K mg "_law_mixed" s__law_mixed) : Dn P w K mg base CX0 1 "_law_mixed" sp_mixed := by
  refine D.dn sc__law_mixed (fun _ _ _ _ _ _ us hl => match us, hl with | [_, _], _ => rfl) (fun vs H Q E h => ?_) (fun f cdv A outer s H vs Q E hr h => ?_)
  · obtain ⟨c, k, rfl, _⟩ := h; rfl
  · obtain ⟨c, k, rfl, h0, h1, h2, h3, q⟩ := h
    refine ⟨_, (pss_cons (ps_set (i := 2) sc__law_mixed.nd rfl (Or.inl rfl) (pe_op op_modA (pe_callTy call_intA (by rfl) T.n_int (by decide +kernel) (pa_cons (pe_op op_addA (pe_op op_addA (pe_op op_mulA (pv 0) pe_int) (pe_op op_mulA (pv 1) pe_int)) pe_int) pa_nil)) pe_int))
      (pss_cons (ps_set (i := 3) sc__law_mixed.nd rfl (Or.inl rfl) (pe_op op_modA (pe_callTy call_intA (by rfl) T.n_int (by decide +kernel) (pa_cons (pe_op op_addA (pe_op op_addA (pe_op op_mulA (pv 2) (pv 2)) (pe_op op_mulA (pv 1) pe_int)) pe_int) pa_nil)) pe_int))
      (pss_one (ps_ret (pe_op op_modA (pe_callTy call_intA (by rfl) T.n_int (by decide +kernel) (pa_cons (pe_op op_addA (pe_op op_mulA (pv 3) (pv 3)) (pv 2)) pa_nil)) pe_int))))), ?_⟩
    walk_at "rd"
    have e : ∀ a b : Int, 0 < b → 0 ≤ a % b ∧ a % b < b := fun a b hb => ⟨Int.emod_nonneg a (by omega), Int.emod_lt_of_pos a hb⟩
    refine ⟨.inl ⟨by omega, by omega⟩, .inl ⟨by omega, by omega⟩, by decide, .inl ?_, .inl ⟨by omega, by omega⟩, by decide, .inl ?_, by decide, q _ (e _ 99991 (by decide)).1⟩
    · have := e (c * 48271 + k * 69621 + 11) 65537 (by decide); omega
    · have := e ((c * 48271 + k * 69621 + 11) % 65537 * ((c * 48271 + k * 69621 + 11) % 65537) + k * 7919 + 3) 64007 (by decide); omega

abbrev s__law_draw : Stmt := top 37
abbrev sc__law_draw_N : List Str := ["_law_pool_here", "_law_many"]
theorem sc__law_draw : FnScope sc__law_draw_N ["_law_pool_here", "_law_many"] (defScope s__law_draw) := ⟨rfl, rfl, rfl, by decide +kernel, rfl, by decide +kernel, by decide +kernel⟩
-- 0 _law_pool_here, 1 _law_many
def sp_draw : Sp := fun vs H Q _ => ∃ (p : Addr) (m : Int), vs = [.ref p, .int m] ∧ 0 < m ∧ Pl H p ∧ ∀ r H', 0 ≤ r → r < m → Pl H' p → But p H H' → Q (.int r) H'
theorem d_draw (T : Nm mg) (D : TD K mg "_law_draw" s__law_draw) : Dn P w K mg base CX0 1 "_law_draw" sp_draw := by
  refine D.dn sc__law_draw (fun _ _ _ _ _ _ us hl => match us, hl with | [_, _], _ => rfl) (fun vs H Q E h => ?_) (fun f cdv A outer s H vs Q E hr h => ?_)
  · obtain ⟨p, m, rfl, _⟩ := h; rfl
  · obtain ⟨p, m, rfl, hm, ⟨ns, hp⟩, q⟩ := h
    refine ⟨_, (pss_cons (ps_if (pt_cmpR (op_eqA (hr.units)) (pv 0) (pe_lst pa_nil) (nomark _)) (pss_one (ps_ret pe_int)) pss_nil)
      (pss_one (ps_ret (pe_op op_modA (pe_callTy call_intA (by rfl) T.n_int (by decide +kernel) (pa_cons (pe_bm0 PySem.F.plainAttrs_list PySem.F.slot_list_pop PySem.F.type_list_pop mt_pop (pv 0)) pa_nil)) (pv 1))))), ?_⟩
    walk_at "rd"
    refine (fun p1 hp1 => eqL0 (xs := ns.map V.int) fl2_ints (.inl (.inl ?_)) (.inl (.inl upd_same)) ⟨_, rfl, ?_⟩)
    · rw [upd_ne (ne_of_none hp hp1)]; exact hp
    · have hp2 : upd H p1 (.lst []) p = some (.lst (ns.map V.int)) := by rw [upd_ne (ne_of_none hp hp1)]; exact hp
      rcases List.eq_nil_or_concat ns with rfl | ⟨L, y, rfl⟩
      · rw [if_pos (by simp)]
        exact q 0 _ (Int.le_refl 0) hm ⟨[], hp2⟩ (UL.Same.but (UL.Same.new hp1))
      · rw [if_neg (by simp)]
        refine ⟨.inl ⟨rfl, _, .inl (.inl hp2)⟩, p, _, .int y, rfl, rfl, hp2, by simp, cIntI.mpr ⟨y, rfl, hm, q _ _ (Int.emod_nonneg y (by omega)) (Int.emod_lt_of_pos y hm) ⟨L, ?_⟩ (But.trans (UL.Same.but (UL.Same.new hp1)) But.at_)⟩⟩
        rw [upd_same]; simp

abbrev s__law_pool : Stmt := top 36
abbrev sc__law_pool_N : List Str := ["_law_script", "_law_pool_here", "_law_at", "_law_left", "_law_k"]
theorem sc__law_pool : FnScope sc__law_pool_N ["_law_script"] (defScope s__law_pool) := ⟨rfl, rfl, rfl, by decide +kernel, rfl, by decide +kernel, by decide +kernel⟩
-- 0 _law_script, 1 _law_pool_here, 2 _law_at, 3 _law_left, 4 _law_k
def sp_pool : PySem.W.Frag → Sp := fun K vs H Q _ => ∃ (a : Addr) (ns : List Int), vs = [.ref a] ∧ SqL K H a (ns.map V.int) ∧ ns.length ≤ 63 ∧ ∀ p H', H p = none → Pl H' p → Same H H' → Q (.ref p) H'
theorem d_pool (T : Nm mg) (D : TD K mg "_law_pool" s__law_pool) (d__law_mixed : Dn P w K mg base CX0 1 "_law_mixed" sp_mixed) : Dn P w K mg base CX0 2 "_law_pool" (sp_pool K) := by
  refine D.dn sc__law_pool (fun _ _ _ _ _ _ us hl => match us, hl with | [_], _ => rfl) (fun vs H Q E h => ?_) (fun f cdv A outer s H vs Q E hr h => ?_)
  · obtain ⟨i, ns, rfl, _⟩ := h; rfl
  · obtain ⟨a, ns, rfl, ha, hn, q⟩ := h
    refine ⟨_, (pss_cons (ps_set (i := 1) sc__law_pool.nd rfl (Or.inl rfl) (pe_lst pa_nil))
      (pss_cons (ps_for PassesOwn.never rfl (pi_range1 (by rfl) T.n_range (pa_cons (pe_callB call_lenA (by rfl) T.n_len (by decide +kernel) (pa_cons (pv 0) pa_nil)) pa_nil)) (pg_name (i := 2) sc__law_pool.nd rfl (Or.inl rfl)) (pss_cons (ps_set (i := 3) sc__law_pool.nd rfl (Or.inl rfl) (pe_callB call_absA (by rfl) T.n_abs (by decide +kernel) (pa_cons (pe_callTy call_intA (by rfl) T.n_int (by decide +kernel) (pa_cons (pe_ix ix_seq (pv 0) (pv 2) (fun _ _ => rfl)) pa_nil)) pa_nil)))
      (pss_one (ps_if (pt_cmpR op_ltA (pv 3) (pe_op op_powA pe_int pe_int) (nomark _)) (pss_one (ps_for PassesOwn.never rfl (pi_range1 (by rfl) T.n_range (pa_cons pe_int pa_nil)) (pg_name (i := 4) sc__law_pool.nd rfl (Or.inl rfl)) (pss_one (ps_expr (pe_bm PySem.F.plainAttrs_list PySem.F.slot_list_append PySem.F.type_list_append mt_append (pv 1) (pa_cons (pe_d d__law_mixed hr (by decide) pass0 (by rfl) (pa_cons (pv 3) (pa_cons (pe_op op_addA (pe_op op_mulA pe_int (pv 2)) (pv 4)) pa_nil))) pa_nil)))))) (pss_one (ps_for PassesOwn.never rfl (pi_range1 (by rfl) T.n_range (pa_cons pe_int pa_nil)) (pg_name (i := 4) sc__law_pool.nd rfl (Or.inl rfl)) (pss_one (ps_if (pt_cmpR op_gtA (pv 3) pe_int (nomark _)) (pss_cons (ps_expr (pe_bm PySem.F.plainAttrs_list PySem.F.slot_list_append PySem.F.type_list_append mt_append (pv 1) (pa_cons (pe_op op_modA (pe_callTy call_intA (by rfl) T.n_int (by decide +kernel) (pa_cons (pv 3) pa_nil)) pe_int) pa_nil)))
      (pss_one (ps_set (i := 3) sc__law_pool.nd rfl (Or.inl rfl) (pe_op op_divA (pv 3) pe_int)))) pss_nil))))))))
      (pss_cons (ps_expr (pe_bm0 PySem.F.plainAttrs_list PySem.F.slot_list_reverse PySem.F.type_list_reverse mt_reverse (pv 1)))
      (pss_one (ps_ret (pv 1)))))), ?_⟩
    walk_at "rd"
    refine fun p hp => ?_
    have np : ∀ zs, Same H (upd H p (.lst zs)) := fun zs => UL.Same.new hp
    have haU : ∀ zs, SqL K (upd H p (.lst zs)) a (ns.map V.int) := fun zs => UL.Same.sqL (np zs) ha
    refine lenL (haU _) ⟨_, rfl, by omega, by simp; omega, FJ.rangeI (fun i σ' H' => ∃ ms : List Int, ms.length ≤ 60 * i ∧ (∃ x y z, σ' = [some (.ref a), some (.ref p), x, y, z]) ∧ H' = upd H p (.lst (ms.map V.int))) (by omega) ⟨[], Nat.zero_le _, ⟨_, _, _, rfl⟩, rfl⟩ (fun i σ' H' hi inv => ?_) fun σ' H' inv => ?_⟩
    · obtain ⟨ms, hm, ⟨x, y, z, rfl⟩, rfl⟩ := inv
      have hi2 : i < ns.length := by simpa using hi
      have hx : ns[i]? = some ns[i] := by simp [hi2]
      walk_at "rd"
      refine ixL (haU _) (atN (v := .int ns[i]) (by rw [List.getElem?_map, hx]; rfl)) ?_
      rw [cIntI, cAbsI]
      have habs : 0 ≤ (if ns[i] < 0 then -ns[i] else ns[i]) := by split <;> omega
      generalize (if ns[i] < 0 then -ns[i] else ns[i]) = av at habs
      refine ⟨⟨by decide, by decide, by decide⟩, av, rfl, ?_⟩
      have h10 : (10 : Int) ^ Int.toNat 18 = 10 ^ 18 := rfl
      rw [h10]
      by_cases hs : av < 10 ^ 18
      · rw [if_pos hs]
        refine ⟨by decide, by decide, FJ.rangeI (fun j σ' H' => ∃ m2 : List Int, m2.length ≤ 60 * i + j ∧ (∃ z, σ' = [some (.ref a), some (.ref p), some (.int i), some (.int av), z]) ∧ H' = upd H p (.lst (m2.map V.int))) (by decide) ⟨ms, hm, ⟨_, rfl⟩, rfl⟩ (fun j σ' H' hj inv => ?_) fun σ' H' inv => ?_⟩
        · obtain ⟨m2, hm2, ⟨z, rfl⟩, rfl⟩ := inv
          walk_at "rd"
          refine ⟨.inl ⟨rfl, _, .inl (.inl upd_same)⟩, .inr (by omega), av, _, rfl, habs, hs, by omega, by omega, fun r hr0 => ⟨p, _, _, rfl, rfl, upd_same, by rw [List.length_map, sizeLine_eq]; omega, m2 ++ [r], by simp; omega, ⟨_, rfl⟩, ?_⟩⟩
          rw [upd_upd, List.map_append]; rfl
        · obtain ⟨m2, hm2, ⟨z, rfl⟩, rfl⟩ := inv
          exact ⟨m2, by simp at hm2; omega, ⟨_, _, _, rfl⟩, rfl⟩
      · rw [if_neg hs]
        refine ⟨by decide, by decide, FJ.rangeI (fun j σ' H' => ∃ (m2 : List Int) (lv : Int), m2.length ≤ 60 * i + j ∧ 0 ≤ lv ∧ (∃ z, σ' = [some (.ref a), some (.ref p), some (.int i), some (.int lv), z]) ∧ H' = upd H p (.lst (m2.map V.int))) (by decide) ⟨ms, av, hm, habs, ⟨_, rfl⟩, rfl⟩ (fun j σ' H' hj inv => ?_) fun σ' H' inv => ?_⟩
        · obtain ⟨m2, lv, hm2, hlv, ⟨z, rfl⟩, rfl⟩ := inv
          walk_at "rd"
          by_cases h0 : 0 < lv
          · rw [if_pos h0]
            refine ⟨.inl ⟨rfl, _, .inl (.inl upd_same)⟩, by decide, p, _, _, rfl, rfl, upd_same, by rw [List.length_map, sizeLine_eq]; omega, ⟨by decide, by decide⟩, m2 ++ [lv % 1000], by simp; omega, lv / 1000, by omega, ⟨rfl, _, rfl⟩, ?_⟩
            rw [upd_upd, List.map_append]; rfl
          · rw [if_neg h0]
            exact ⟨m2, by omega, lv, hlv, ⟨rfl, _, rfl⟩, rfl⟩
        · obtain ⟨m2, lv, hm2, hlv, ⟨z, rfl⟩, rfl⟩ := inv
          exact ⟨m2, by simp at hm2; omega, ⟨_, _, _, rfl⟩, rfl⟩
    · obtain ⟨ms, hm, ⟨x, y, z, rfl⟩, rfl⟩ := inv
      walk_at "rd"
      refine ⟨.inl ⟨rfl, _, .inl (.inl upd_same)⟩, p, _, rfl, rfl, upd_same, ?_⟩
      exact q p _ hp ⟨ms.reverse, by rw [upd_upd, upd_same, List.map_reverse]⟩ (by rw [upd_upd]; exact np _)
end
end U

set_option Elab.async false
set_option linter.all false
set_option maxRecDepth 100000
set_option maxHeartbeats 4000000
set_option pp.deepTerms true
set_option pp.maxSteps 400000
namespace U
open PySem PySem.Spec PyProof.Rows L2 UL UX
local macro_rules | `(tactic| walk_at "rd") => `(tactic| simp only [sMatch, tJs, tFmt, tBC, tMethA, tMakeL, iEnumS, tSeq, tAsg, tOp, tCB, tCons, tNil, tVar, tC, tB, tTest, tNot, tIfS, tNext, tYes, tUn, rU, tM0, tGFrom, tGThen, tG0, tYfLst, gcxK, tSubO, tProp, tListG, tMethG, tBMF, tFld, sFld, tMeth, tMake, tSl, tNoPart, tPart, tM1, gTup, gCons, gNil, tDrop, tFor_eq, tLc_eq, tLc2_eq, iRng1_eq, StX.tStar, iList, iTup, iStr, iAny_var, iZipB, tLenSetS, wipe, tVar, tAndV, tOrV, tNotV, tOr, tAnd, tLst, tTup, tBM, tBM0, tChain, tCall, cxK, noxK, addII, addSS, mulII, eqII, neII, neSS, cIntI, cAbsI, rI, rI0, rLt, rLe, rGt_, rGe_, rSub_, rMod, rPow, rDivW, rNeg, gName, tRet, L2.start, List.length_cons, List.length_nil, List.map_cons, List.map_nil, List.replicate, List.cons_append, List.nil_append, List.getElem?_cons_zero, List.getElem?_cons_succ, List.set_cons_zero, List.set_cons_succ, Option.some.injEq, exists_eq_left', exists_eq_left, V.int.injEq, V.bl.injEq, V.str.injEq, V.ref.injEq, V.ty.injEq, List.cons.injEq, and_true, true_and, reduceCtorEq, false_and, exists_false, or_false, false_or, exists_and_left, exists_and_right, List.append_nil, forall_eq, decide_eq_true_eq, Bool.not_eq_true, Nat.reduceAdd, Nat.reduceSub, List.replicate_zero, List.replicate_succ, Nat.zero_le, ite_true, ite_false, if_true, if_false])
section
variable {P : Program} {w : World} {K : PySem.W.Frag} {mg : Str → Option Value} {base : Heap}

variable {R Wr B Pg : Addr}
def isNm (z : Str) : Prop := nmB z = true
def InL (z : Str) : Prop := ∀ c ∈ z.cps.toList, c ∈ abc.cps.toList
theorem abc_eq : abc.cps.toList = (List.range 26).map (97 + ·) := by decide +kernel
theorem abc_len : abc.length = 26 := by decide +kernel
theorem abc_at {i : Int} (h0 : 0 ≤ i) (h1 : i < 26) : atI abc.cps.toList i = some (97 + i.toNat) := by
  have e : ((i.toNat : Nat) : Int) = i := by omega
  rw [← e]
  refine atN ?_
  rw [abc_eq, List.getElem?_map, List.getElem?_range (by omega)]
  simp; omega
theorem abc_mem {n : Nat} (h : n < 26) : 97 + n ∈ abc.cps.toList := by
  rw [abc_eq]; exact List.mem_map.mpr ⟨n, List.mem_range.mpr h, rfl⟩
theorem inL_app {x y : Str} (hx : InL x) (hy : InL y) : InL (x ++ y) := fun c hc => by
  have : (x ++ y).cps.toList = x.cps.toList ++ y.cps.toList := by show (x.cps ++ y.cps).toList = _; simp
  rw [this] at hc
  rcases List.mem_append.mp hc with z | z
  · exact hx c z
  · exact hy c z
theorem inL_one {n : Nat} (h : n < 26) : InL ⟨#[97 + n]⟩ := fun c hc => by
  have : c = 97 + n := by simpa using hc
  rw [this]; exact abc_mem h
theorem inL_nil : InL Str.empty := fun c hc => by simp [Str.empty] at hc
theorem len_one (c : Nat) : (⟨#[c]⟩ : Str).length = 1 := rfl
/-- the text at one letter, then anything -/
theorem mid_inj {f b b' s s' : Str} {c c' : Nat} (h : ((f ++ ⟨#[c]⟩) ++ b) ++ s = ((f ++ ⟨#[c']⟩) ++ b') ++ s') : c = c' := by
  have e : ∀ (b s : Str) (c : Nat), (((f ++ ⟨#[c]⟩) ++ b) ++ s).cps.toList = f.cps.toList ++ (c :: (b.cps.toList ++ s.cps.toList)) := fun b s c => by
    show (((f.cps ++ #[c]) ++ b.cps) ++ s.cps).toList = _
    simp
  have h2 := congrArg (fun z : Str => z.cps.toList) h
  simp only [e] at h2
  have h3 := List.append_cancel_left h2
  exact (List.cons.inj h3).1
theorem app_nil (x : Str) : x ++ Str.empty = x := by
  show (⟨x.cps ++ #[]⟩ : Str) = x
  simp
theorem drawI {p : Addr} {m : Int} {H : Hp} {Q : VK} {E : XK} (hm : 0 < m) (hp : Pl H p) (q : ∀ r H', 0 ≤ r → r < m → Pl H' p → But p H H' → Q (.int r) H') : sp_draw [.ref p, .int m] H Q E := ⟨p, m, rfl, hm, hp, q⟩
theorem But.free' {H H' : Hp} {p q : Addr} (s : But p H H') (x : Pl H' p) (h : H' q = none) : H q = none := UL.But.free s x h
theorem But.tr {p : Addr} {H H1 H2 : Hp} (a : But p H H1) (b : But p H1 H2) : But p H H2 := UL.But.trans a b
theorem But.nw {p q : Addr} {H H' : Hp} {o : HO} (a : But p H H') (x : Pl H' p) (h : H' q = none) : But p H (upd H' q o) := But.tr a (UL.Same.but (UL.Same.new h))
/-- the names so far: one letter differs, what stands behind is of no account -/
def NU (fr bk : Str) (sh st : Int) (xs : List Str) : Prop := ∀ (j : Nat) x, xs[j]? = some x → ∃ s', InL s' ∧ s'.length ≤ 1 ∧ x = ((fr ++ ⟨#[97 + ((sh + st * j) % 26).toNat]⟩) ++ bk) ++ s'
theorem mod26 (i : Int) : (i % 26).toNat < 26 := by
  have h0 := Int.emod_nonneg i (show (26 : Int) ≠ 0 by decide)
  have h1 := Int.emod_lt_of_pos i (show (0 : Int) < 26 by decide)
  omega
theorem isNm_of {z : Str} (h1 : 1 ≤ z.length) (h2 : z.length ≤ 8) (h3 : InL z) : isNm z := by
  show nmB z = true
  simp only [nmB, decide_eq_true h1, decide_eq_true h2, Bool.true_and, List.all_eq_true]
  exact fun c hc => decide_eq_true (h3 c hc)
theorem NU.nm {fr bk : Str} {sh st : Int} {xs : List Str} (h : NU fr bk sh st xs) (hf : fr.length ≤ 3) (hb : bk.length ≤ 3) (hfi : InL fr) (hbi : InL bk) : ∀ z ∈ xs, isNm z := by
  intro z hz
  obtain ⟨j, hj⟩ := List.getElem?_of_mem hz
  obtain ⟨s', hs, hl, rfl⟩ := h j z hj
  refine isNm_of ?_ ?_ (inL_app (inL_app (inL_app hfi (inL_one (mod26 _))) hbi) hs) <;> simp only [len_app, len_one] <;> omega
theorem NU.snoc {fr bk : Str} {sh st : Int} {xs : List Str} (h : NU fr bk sh st xs) {s' : Str} (hs : InL s') (hl : s'.length ≤ 1) : NU fr bk sh st (xs ++ [((fr ++ ⟨#[97 + ((sh + st * xs.length) % 26).toNat]⟩) ++ bk) ++ s']) := fun j x hj => by
  by_cases hlt : j < xs.length
  · rw [List.getElem?_append_left hlt] at hj
    exact h j x hj
  · have : j = xs.length := by have := (List.getElem?_eq_some_iff.mp hj).1; simp at this; omega
    subst this
    simp at hj
    subst hj
    exact ⟨s', hs, hl, rfl⟩
theorem mulSI {H : Hp} {Q : VK} {z : Str} {n : Int} (h : n = 0 ∨ n = 1) (q : ∀ y : Str, (y = Str.empty ∨ y = z) → Q (.str y) H) : rMulA K (.str z) (.int n) H Q :=
  .inr (.inl ⟨z, n, rfl, rfl, h.elim (fun e => .inl ⟨e, q _ (.inl rfl)⟩) fun e => .inr ⟨e, q _ (.inr rfl)⟩⟩)
theorem mod26I (i : Int) : 0 ≤ i % 26 ∧ i % 26 < 26 := ⟨Int.emod_nonneg i (by decide), Int.emod_lt_of_pos i (by decide)⟩
theorem nm_read : isNm "read" := by show nmB _ = true; decide +kernel
theorem nm_as : isNm "as" := by show nmB _ = true; decide +kernel
theorem nm_write : isNm "write" := by show nmB _ = true; decide +kernel
theorem nm_by : isNm "by" := by show nmB _ = true; decide +kernel
theorem nm_of : isNm "of" := by show nmB _ = true; decide +kernel
abbrev s__law_names : Stmt := top 38
abbrev sc__law_names_N : List Str := ["_law_pool_here", "_law_count", "_law_letters", "_law_choice", "_law_shift", "_law_stride", "_law_front", "_law_k", "_law_back", "_law_names_here", "_law_name"]
theorem sc__law_names : FnScope sc__law_names_N ["_law_pool_here", "_law_count"] (defScope s__law_names) := ⟨rfl, rfl, rfl, by decide +kernel, rfl, by decide +kernel, by decide +kernel⟩
-- 0 _law_pool_here, 1 _law_count, 2 _law_letters, 3 _law_choice, 4 _law_shift, 5 _law_stride, 6 _law_front, 7 _law_k, 8 _law_back, 9 _law_names_here, 10 _law_name
theorem NU.nodup {fr bk : Str} {sh st : Int} {xs : List Str} (h : NU fr bk sh st xs) (hst : st = 1 ∨ st = 25 ∨ st = 7) (hl : xs.length ≤ 5) : xs.Nodup := by
  rw [List.Nodup, List.pairwise_iff_getElem]
  intro i j hi hj hij e
  obtain ⟨s1, _, _, e1⟩ := h i _ (List.getElem?_eq_getElem hi)
  obtain ⟨s2, _, _, e2⟩ := h j _ (List.getElem?_eq_getElem hj)
  rw [e1, e2] at e
  have m := mid_inj e
  rcases hst with rfl | rfl | rfl <;> omega
def sp_names0 : Sp := fun vs H Q _ => ∃ (p : Addr) (c : Nat), vs = [.ref p, .int c] ∧ Pl H p ∧ c ≤ 5 ∧ ∀ q H' (xs : List Str), xs.length = c → (∀ z ∈ xs, isNm z) → xs.Nodup → H q = none → H' q = some (.lst (xs.map V.str)) → Pl H' p → But p H H' → Q (.ref q) H'
theorem d_names0 (T : Nm mg) (D : TD K mg "_law_names" s__law_names) (d__law_draw : Dn P w K mg base CX0 1 "_law_draw" sp_draw) : Dn P w K mg base CX0 2 "_law_names" sp_names0 := by
  refine D.dn sc__law_names (fun _ _ _ _ _ _ us hl => match us, hl with | [_, _], _ => rfl) (fun vs H Q E h => ?_) (fun f cdv A outer s H vs Q E hr h => ?_)
  · obtain ⟨a, xs, rfl, _⟩ := h; rfl
  · obtain ⟨p, c, rfl, hp, h3, q⟩ := h
    refine ⟨_, (pss_cons (ps_set (i := 2) sc__law_names.nd rfl (Or.inl rfl) pe_str)
      (pss_cons (ps_set (i := 3) sc__law_names.nd rfl (Or.inl rfl) (pe_d d__law_draw hr (by decide) pass0 (by rfl) (pa_cons (pv 0) (pa_cons pe_int pa_nil))))
      (pss_cons (ps_if (pt_cmpR (op_eqA (hr.units)) (pv 3) pe_int (nomark _)) (pss_one (ps_ret (pe_slice sl_list (pe_lst (pa_cons pe_str (pa_cons pe_str (pa_cons pe_str (pa_cons pe_str (pa_cons pe_str (pa_cons pe_str pa_nil))))))) po_none (po_some (pv 1))))) pss_nil)
      (pss_cons (ps_set (i := 4) sc__law_names.nd rfl (Or.inl rfl) (pe_d d__law_draw hr (by decide) pass0 (by rfl) (pa_cons (pv 0) (pa_cons pe_int pa_nil))))
      (pss_cons (ps_set (i := 5) sc__law_names.nd rfl (Or.inl rfl) (pe_ix ix_seq (pe_lst (pa_cons pe_int (pa_cons pe_int (pa_cons pe_int pa_nil)))) (pe_d d__law_draw hr (by decide) pass0 (by rfl) (pa_cons (pv 0) (pa_cons pe_int pa_nil))) (fun _ _ => rfl)))
      (pss_cons (ps_set (i := 6) sc__law_names.nd rfl (Or.inl rfl) pe_str)
      (pss_cons (ps_for PassesOwn.never rfl (pi_range1 (by rfl) T.n_range (pa_cons (pe_d d__law_draw hr (by decide) pass0 (by rfl) (pa_cons (pv 0) (pa_cons pe_int pa_nil))) pa_nil)) (pg_name (i := 7) sc__law_names.nd rfl (Or.inl rfl)) (pss_one (ps_set (i := 6) sc__law_names.nd rfl (Or.inl rfl) (pe_op op_addA (pv 6) (pe_ix ix_seq (pv 2) (pe_d d__law_draw hr (by decide) pass0 (by rfl) (pa_cons (pv 0) (pa_cons pe_int pa_nil))) (fun _ _ => rfl))))))
      (pss_cons (ps_set (i := 8) sc__law_names.nd rfl (Or.inl rfl) pe_str)
      (pss_cons (ps_for PassesOwn.never rfl (pi_range1 (by rfl) T.n_range (pa_cons (pe_d d__law_draw hr (by decide) pass0 (by rfl) (pa_cons (pv 0) (pa_cons pe_int pa_nil))) pa_nil)) (pg_name (i := 7) sc__law_names.nd rfl (Or.inl rfl)) (pss_one (ps_set (i := 8) sc__law_names.nd rfl (Or.inl rfl) (pe_op op_addA (pv 8) (pe_ix ix_seq (pv 2) (pe_d d__law_draw hr (by decide) pass0 (by rfl) (pa_cons (pv 0) (pa_cons pe_int pa_nil))) (fun _ _ => rfl))))))
      (pss_cons (ps_set (i := 9) sc__law_names.nd rfl (Or.inl rfl) (pe_lst pa_nil))
      (pss_cons (ps_for PassesOwn.never rfl (pi_range1 (by rfl) T.n_range (pa_cons (pv 1) pa_nil)) (pg_name (i := 7) sc__law_names.nd rfl (Or.inl rfl)) (pss_cons (ps_set (i := 10) sc__law_names.nd rfl (Or.inl rfl) (pe_op op_addA (pe_op op_addA (pv 6) (pe_ix ix_seq (pv 2) (pe_op op_modA (pe_callTy call_intA (by rfl) T.n_int (by decide +kernel) (pa_cons (pe_op op_addA (pv 4) (pe_op op_mulA (pv 5) (pv 7))) pa_nil)) pe_int) (fun _ _ => rfl))) (pv 8)))
      (pss_cons (ps_if (pt_cmpR (op_eqA (hr.units)) (pv 3) pe_int (nomark _)) (pss_one (ps_set (i := 10) sc__law_names.nd rfl (Or.inl rfl) (pe_op op_addA (pv 10) (pe_op op_mulA (pe_ix ix_seq (pv 2) (pv 7) (fun _ _ => rfl)) (pe_op op_modA (pv 7) pe_int))))) pss_nil)
      (pss_one (ps_expr (pe_bm PySem.F.plainAttrs_list PySem.F.slot_list_append PySem.F.type_list_append mt_append (pv 9) (pa_cons (pv 10) pa_nil)))))))
      (pss_one (ps_ret (pv 9)))))))))))))), ?_⟩
    walk_at "rd"
    refine drawI (by decide) hp fun ch H1 c0 c6 hp1 b1 => eqII.mpr ⟨_, rfl, ?_⟩
    by_cases h4 : ch = 4
    · rw [if_pos (by simp [h4])]
      refine ⟨by rw [sizeLine_eq]; decide, fun l hl => ⟨l, _, rfl, .inl (.inl upd_same), fun q0 hq0 => ?_⟩⟩
      have key : ∀ xs : List Str, (upd (upd H1 l (.lst [V.str (Str.ofString "read"), V.str (Str.ofString "as"), V.str (Str.ofString "write"), V.str (Str.ofString "by"), V.str (Str.ofString "of"), V.str (Str.ofString "program")])) q0 (.lst (xs.map V.str)) = upd (upd H1 l (.lst [V.str (Str.ofString "read"), V.str (Str.ofString "as"), V.str (Str.ofString "write"), V.str (Str.ofString "by"), V.str (Str.ofString "of"), V.str (Str.ofString "program")])) q0 (.lst (cutV [V.str (Str.ofString "read"), V.str (Str.ofString "as"), V.str (Str.ofString "write"), V.str (Str.ofString "by"), V.str (Str.ofString "of"), V.str (Str.ofString "program")] none (some (c : Int))))) → xs.length = c → (∀ z ∈ xs, isNm z) → xs.Nodup → Q (.ref q0) (upd (upd H1 l (.lst [V.str (Str.ofString "read"), V.str (Str.ofString "as"), V.str (Str.ofString "write"), V.str (Str.ofString "by"), V.str (Str.ofString "of"), V.str (Str.ofString "program")])) q0 (.lst (cutV [V.str (Str.ofString "read"), V.str (Str.ofString "as"), V.str (Str.ofString "write"), V.str (Str.ofString "by"), V.str (Str.ofString "of"), V.str (Str.ofString "program")] none (some (c : Int))))) := by
        intro xs e hl2 hn hnd
        rw [← e]
        have hp2 := Pl.put (o := .lst [V.str (Str.ofString "read"), V.str (Str.ofString "as"), V.str (Str.ofString "write"), V.str (Str.ofString "by"), V.str (Str.ofString "of"), V.str (Str.ofString "program")]) hp1 (hp1.ne hl)
        have b2 := But.nw (o := .lst [V.str (Str.ofString "read"), V.str (Str.ofString "as"), V.str (Str.ofString "write"), V.str (Str.ofString "by"), V.str (Str.ofString "of"), V.str (Str.ofString "program")]) b1 hp1 hl
        exact q q0 _ xs hl2 hn hnd (But.free' b2 hp2 hq0) upd_same (hp2.put (hp2.ne hq0)) (But.nw b2 hp2 hq0)
      have c15 : c = 0 ∨ c = 1 ∨ c = 2 ∨ c = 3 ∨ c = 4 ∨ c = 5 := by omega
      rcases c15 with rfl | rfl | rfl | rfl | rfl | rfl
      · exact key [] rfl rfl (fun z hz => by cases hz) (by decide +kernel)
      · exact key ["read"] rfl rfl (by simp only [List.mem_singleton, forall_eq]; exact nm_read) (by decide +kernel)
      · exact key ["read", "as"] rfl rfl (by simp only [List.mem_cons, List.not_mem_nil, or_false, forall_eq_or_imp, forall_eq]; exact ⟨nm_read, nm_as⟩) (by decide +kernel)
      · exact key ["read", "as", "write"] rfl rfl (by simp only [List.mem_cons, List.not_mem_nil, or_false, forall_eq_or_imp, forall_eq]; exact ⟨nm_read, nm_as, nm_write⟩) (by decide +kernel)
      · exact key ["read", "as", "write", "by"] rfl rfl (by simp only [List.mem_cons, List.not_mem_nil, or_false, forall_eq_or_imp, forall_eq]; exact ⟨nm_read, nm_as, nm_write, nm_by⟩) (by decide +kernel)
      · exact key ["read", "as", "write", "by", "of"] rfl rfl (by simp only [List.mem_cons, List.not_mem_nil, or_false, forall_eq_or_imp, forall_eq]; exact ⟨nm_read, nm_as, nm_write, nm_by, nm_of⟩) (by decide +kernel)
    · rw [if_neg (by simp [h4])]
      refine drawI (by decide) hp1 fun sh H2 s0 s26 hp2 b2 => ⟨by rw [sizeLine_eq]; decide, fun l hl => ?_⟩
      have b02 := But.tr b1 b2
      refine drawI (by decide) (hp2.put (hp2.ne hl)) fun r3 H3 r0 r33 hp3 b3 => ?_
      have hl3 : H3 l = some (.lst [V.int 1, .int 25, .int 7]) := b3 _ _ upd_same (Ne.symm (hp2.ne hl))
      have b03 : But p H H3 := But.tr (But.nw b02 hp2 hl) b3
      have hstr : ∃ st : Int, atI [V.int 1, .int 25, .int 7] r3 = some (.int st) ∧ (st = 1 ∨ st = 25 ∨ st = 7) := by
        have : r3 = 0 ∨ r3 = 1 ∨ r3 = 2 := by omega
        rcases this with rfl | rfl | rfl
        · exact ⟨1, rfl, .inl rfl⟩
        · exact ⟨25, rfl, .inr (.inl rfl)⟩
        · exact ⟨7, rfl, .inr (.inr rfl)⟩
      obtain ⟨st, hat, hst⟩ := hstr
      refine ixL (.inl (.inl hl3)) hat (drawI (by decide) hp3 fun fn H4 f0 f4 hp4 b4 => ⟨fn, rfl, by omega, by omega, ?_⟩)
      have b04 := But.tr b03 b4
      refine FJ.rangeI (fun i σ' H' => ∃ fr : Str, fr.length ≤ i ∧ InL fr ∧ Pl H' p ∧ But p H H' ∧ ∃ z, σ' = [some (.ref p), some (.int c), some (.str abc), some (.int ch), some (.int sh), some (.int st), some (.str fr), z, none, none, none]) f0 ⟨Str.empty, Nat.le_refl _, inL_nil, hp4, b04, _, rfl⟩ (fun i σ' H' hi inv => ?_) fun σ' H' inv => ?_
      · obtain ⟨fr, hfl, hfi, hp5, b5, z, rfl⟩ := inv
        walk_at "rd"
        refine drawI (by decide) hp5 fun r H5 r0 r26 hp6 b6 => ixS (by rw [abc_len, sizeLine_eq]; decide) (abc_at r0 r26) (addSS.mpr ⟨by rw [len_one, sizeLine_eq]; omega, _, by rw [len_app, len_one]; omega, inL_app hfi (inL_one (by omega)), hp6, But.tr b5 b6, rfl, _, rfl⟩)
      · obtain ⟨fr, hfl, hfi, hp5, b5, z, rfl⟩ := inv
        walk_at "rd"
        refine drawI (by decide) hp5 fun bn H5 g0 g4 hp6 b6 => ⟨bn, rfl, by omega, by omega, ?_⟩
        have b06 := But.tr b5 b6
        refine FJ.rangeI (fun i σ' H' => ∃ bk : Str, bk.length ≤ i ∧ InL bk ∧ Pl H' p ∧ But p H H' ∧ ∃ z, σ' = [some (.ref p), some (.int c), some (.str abc), some (.int ch), some (.int sh), some (.int st), some (.str fr), z, some (.str bk), none, none]) g0 ⟨Str.empty, Nat.le_refl _, inL_nil, hp6, b06, _, rfl⟩ (fun i σ' H' hi inv => ?_) fun σ' H' inv => ?_
        · obtain ⟨bk, hbl, hbi, hp7, b7, z, rfl⟩ := inv
          walk_at "rd"
          refine drawI (by decide) hp7 fun r H8 r0 r26 hp8 b8 => ixS (by rw [abc_len, sizeLine_eq]; decide) (abc_at r0 r26) (addSS.mpr ⟨by rw [len_one, sizeLine_eq]; omega, _, by rw [len_app, len_one]; omega, inL_app hbi (inL_one (by omega)), hp8, But.tr b7 b8, rfl⟩)
        · obtain ⟨bk, hbl, hbi, hp7, b7, z, rfl⟩ := inv
          walk_at "rd"
          have hfl3 : fr.length ≤ 3 := by omega
          have hbl3 : bk.length ≤ 3 := by omega
          refine fun q0 hq0 => ⟨by omega, by omega, FJ.rangeI (fun i σ' H9 => ∃ xs : List Str, xs.length = i ∧ NU fr bk sh st xs ∧ H9 = upd H' q0 (.lst (xs.map V.str)) ∧ ∃ z w, σ' = [some (.ref p), some (.int c), some (.str abc), some (.int ch), some (.int sh), some (.int st), some (.str fr), z, some (.str bk), some (.ref q0), w]) (by omega) ⟨[], rfl, (fun j x h => nomatch h), rfl, _, _, rfl⟩ (fun i σ' H9 hi inv => ?_) fun σ' H9 inv => ?_⟩
          · obtain ⟨xs, hxl, hnu, rfl, z, w', rfl⟩ := inv
            walk_at "rd"
            subst hxl
            have m := mod26I (sh + st * xs.length)
            refine ⟨.inl (by omega), by decide, ixS (by rw [abc_len, sizeLine_eq]; decide) (abc_at m.1 m.2) (addSS.mpr ⟨by rw [len_one, sizeLine_eq]; omega, addSS.mpr ⟨by rw [len_app, len_one, sizeLine_eq]; omega, ?_⟩⟩)⟩
            have hup : upd H' q0 (.lst (xs.map V.str)) q0 = some (.lst (xs.map V.str)) := upd_same
            have hsz : (xs.map V.str).length < sizeLine := by rw [List.length_map, sizeLine_eq]; omega
            by_cases h2 : ch = 2
            · rw [if_pos h2]
              refine ixS (by rw [abc_len, sizeLine_eq]; decide) (abc_at (by omega) (by omega)) ⟨by decide, mulSI (by omega) fun y hy => addSS.mpr ?_⟩
              have hyl : y.length ≤ 1 ∧ InL y := by
                rcases hy with rfl | rfl
                · exact ⟨Nat.zero_le _, inL_nil⟩
                · exact ⟨Nat.le_refl _, inL_one (by omega)⟩
              refine ⟨by rw [len_app, len_app, len_one, sizeLine_eq]; omega, .inl ⟨rfl, _, .inl (.inl hup)⟩, q0, _, _, rfl, rfl, hup, hsz, _, by simp, hnu.snoc hyl.2 hyl.1, ?_, _, rfl⟩
              rw [upd_upd, List.map_append]; rfl
            · rw [if_neg h2]
              have e := hnu.snoc inL_nil (Nat.zero_le _)
              rw [app_nil] at e
              refine ⟨.inl ⟨rfl, _, .inl (.inl hup)⟩, q0, _, _, rfl, rfl, hup, hsz, _, by simp, e, ?_, _, rfl⟩
              rw [upd_upd, List.map_append]; rfl
          · obtain ⟨xs, hxl, hnu, rfl, z, w', rfl⟩ := inv
            walk_at "rd"
            have hnl : xs.length = c := by omega
            refine q q0 _ xs hnl (hnu.nm hfl3 hbl3 hfi hbi) (hnu.nodup hst (by omega)) (But.free' b7 hp7 hq0) upd_same ?_ ?_
            · exact hp7.put (hp7.ne hq0)
            · exact But.nw b7 hp7 hq0
def sp_namesN : Sp := fun vs H Q _ => ∃ (p : Addr) (c : Nat), vs = [.ref p, .int c] ∧ Pl H p ∧ 1 ≤ c ∧ c ≤ 5 ∧ ∀ q H' (xs : List Str), xs.length = c → (∀ z ∈ xs, isNm z) → xs.Nodup → H q = none → H' q = some (.lst (xs.map V.str)) → Pl H' p → But p H H' → Q (.ref q) H'
theorem d_namesN (T : Nm mg) (D : TD K mg "_law_names" s__law_names) (d__law_draw : Dn P w K mg base CX0 1 "_law_draw" sp_draw) : Dn P w K mg base CX0 2 "_law_names" sp_namesN := by
  obtain ⟨f, fd, ps, F, r⟩ := (d_names0 T D d__law_draw).ex
  exact ⟨f, fd, ps, F.imp fun vs H Q E ⟨p, c, e, hp, h1, h5, q⟩ => ⟨p, c, e, hp, h5, q⟩, r⟩
def sp_names : Sp := fun vs H Q _ => ∃ (p : Addr) (c : Nat), vs = [.ref p, .int c] ∧ Pl H p ∧ 1 ≤ c ∧ c ≤ 5 ∧ ∀ q H' (xs : List Str), xs.length = c → (∀ z ∈ xs, isNm z) → H q = none → H' q = some (.lst (xs.map V.str)) → Pl H' p → But p H H' → Q (.ref q) H'
theorem d_names (T : Nm mg) (D : TD K mg "_law_names" s__law_names) (d__law_draw : Dn P w K mg base CX0 1 "_law_draw" sp_draw) : Dn P w K mg base CX0 2 "_law_names" sp_names := by
  obtain ⟨f, fd, ps, F, r⟩ := (d_namesN T D d__law_draw).ex
  exact ⟨f, fd, ps, F.imp fun vs H Q E ⟨p, c, e, hp, h1, h5, q⟩ => ⟨p, c, e, hp, h1, h5, fun q0 H' xs a1 a2 _ a4 a5 a6 a7 => q q0 H' xs a1 a2 a4 a5 a6 a7⟩, r⟩
end
end U

set_option Elab.async false
set_option linter.all false
set_option maxRecDepth 100000
set_option maxHeartbeats 4000000
namespace U
open PySem PySem.Spec PyProof.Rows L2 UL UV UW NdefX
section
variable {P : Program} {w : World} {K : PySem.W.Frag} {mg : Str → Option Value} {base : Heap}
theorem ncK {CX : CXT} {N : List Str} {F : NF} {f : Addr} {A : Around} {outer : List Env} {s : Shared} {H : Hp} {E : XK} : (ncx CX P w K mg base N F f A outer s H E).K = K := rfl
end
local macro_rules | `(tactic| walk_at "rdx") => `(tactic| simp only [tCons, tNil, tJs, tC, tFmt, tFmtN, tVar, tOst, tSeq, startF, L2.start, List.length_cons, List.length_nil, List.map_cons, List.map_nil, List.replicate, List.cons_append, List.nil_append, List.getElem?_cons_zero, List.getElem?_cons_succ, Option.some.injEq, exists_eq_left', exists_eq_left, V.str.injEq, V.int.injEq, V.ref.injEq, reduceCtorEq, false_and, exists_false, or_false, false_or, and_true, true_and, exists_and_left, exists_and_right, Nat.reduceAdd, Nat.reduceSub, Nat.reduceLeDiff, ncK])
section
variable {P : Program} {w : World} {K : PySem.W.Frag} {mg : Str → Option Value} {base : Heap}
/-- an exception class as it stands, with its __init__ -/
structure XD (P : Program) (K : PySem.W.Frag) (mg : Str → Option Value) (C : Addr) (x qual : Str) (st : Stmt) : Prop where
  ex : ∃ (f c cc : Addr) (oc kV doc pm ct : Value) (od an : Option Addr) (osl : Array (Option Value)), K.lookup f = some ⟨oc, od, .func (PySem.W.fnX "__init__" qual (defArgs st) (defBody st) (defScope st) [("__class__", cc)] .none kV doc pm an (.ref c) ct), osl⟩ ∧ PySem.W.codeIn K (.ref c) qual = true ∧
    SupF P K mg C f c cc (PySem.W.fnX "__init__" qual (defArgs st) (defBody st) (defScope st) [("__class__", cc)] .none kV doc pm an (.ref c) ct) ∧ PySem.W.findIn K (.ref C) "__init__" = some (some (.ref f)) ∧ PySem.W.typeIn K (.ref f) = some (.type "function")
  ox : OexC K C
  gc : mg x = some (.ref C)
/-- .. and what its __init__ promises -/
structure Xn (P : Program) (w : World) (K : PySem.W.Frag) (mg : Str → Option Value) (base : Heap) (k : Nat) (C : Addr) (x : Str) (sp : Sp) : Prop where
  ex : ∃ (f : Addr) (fd : FuncData) (ps : List Str), FnOk P w K mg base CX0 k f fd ps sp ∧ PySem.W.findIn K (.ref C) "__init__" = some (some (.ref f)) ∧ PySem.W.typeIn K (.ref f) = some (.type "function") ∧ Binds K fd ps []
  ox : OexC K C
  gc : mg x = some (.ref C)
theorem pmk_x {X : Cx} {C : Addr} {x : Str} {sp : Sp} {k j : Nat} {e : Expr} {es : List Expr} {ta : TA} {p pos : Pos} (d : Xn X.prog X.w X.K X.mg X.base k C x sp) (hr : Room j X.A) (hk : k + 1 ≤ j) (hg : Gl X x) (ha : PA X (e :: es) ta)
    (hdb : (x == ("__debug__" : Str)) = false := by decide) (he : starEach (e :: es) X.env = (false, eval e X.env) :: starEach es X.env := by rfl) (hpl : (backTo pos (starEach es X.env)).any (·.1) = false := by rfl) : PMk X (.Call (.Name x p) (e :: es) [] pos) (tMkO C sp [] ta) := by
  obtain ⟨f, fd, ps, F, h1, h2, B⟩ := d.ex
  exact pmk_oex d.ox h1 h2 F (hr.mono hk) B .nil (fun _ _ _ _ _ _ _ h => h.elim) hg d.gc ha hdb he hpl
theorem log64 {i : Int} (h0 : -(2 ^ 64) < i) (h1 : i < 2 ^ 64) : i.natAbs.log2 < 1920 := by
  by_cases e : i.natAbs = 0
  · rw [e]; decide
  · have : i.natAbs < 2 ^ 64 := by omega
    have := (Nat.log2_lt e).mpr this
    omega
/-- the exception's record is gone, its dict stands -/
theorem exg1 {H : Hp} {a d : Addr} {o1 o2 o3 o4 : HO} (ha : H a = none) : upd (del (upd (upd (upd H a o1) d o2) a o3) a) d o4 = upd H d o4 := by
  funext b
  by_cases hb : b = d
  · rw [hb, upd_same, upd_same]
  · rw [upd_ne hb, upd_ne hb]
    by_cases h2 : b = a
    · rw [h2, del_same, ha]
    · rw [del_ne h2, upd_ne h2, upd_ne hb, upd_ne h2]
theorem isX {H : Hp} {Q : VK} {D a dx : Addr} {fs : List (Str × V)} {c : V} {cv : Value} {b : Bool} (ec : ExcC K D) (hd : H dx = some (.xd fs)) (hc : ∀ u, RelV c u → u = cv) (hk : PySem.W.kitOne K (.ref D) cv = some b) (q : Q (.bl b) H) : rIsX K a (.ref D) (some dx) [.ref a, c] H Q := ⟨D, dx, fs, c, cv, b, rfl, rfl, hd, ec, rfl, hc, hk, q⟩
end
end U

set_option Elab.async false
set_option linter.all false
set_option maxRecDepth 100000
set_option maxHeartbeats 4000000
/-! a classmethod that may raise, called in a try's body -/
namespace UX
open PySem PySem.Spec PyProof.Rows L2 UL UV UW ClX
/-- C.m(..), m a classmethod that may raise -/
structure CMnX (P : Program) (w : World) (K : PySem.W.Frag) (mg : Str → Option Value) (base : Heap) (CX : CXT) (k : Nat) (C : Addr) (x m : Str) (sp : Sp) : Prop where
  ex : ∃ (q g : Addr) (mc : Value), CRead K C mc ∧ CMet K C mc m q g ∧ FnR P w K mg base CX k g sp ∧ mg x = some (.ref C)
def tBCX (sp : Sp) (E : L2.St → XK) (t : TA) : TE := fun σ H Q => t σ H fun vs H2 => sp vs H2 Q (E σ)
section
variable {X : Cx} {CX : CXT} {k j i : Nat} {C : Addr} {sp : Sp} {E : L2.St → XK} {e : Expr} {es : List Expr} {m x : Str} {p pos apos : Pos} {t : TA} {pl : Sem Bool}
theorem run_fnRS {pins : List (Addr × Obj)} {σ : L2.St} {H : Hp} {s : Shared} {Q : VK} {f : Addr} {us : List Value} {vs : List V} {E0 : XK} (F : FnR X.prog X.w X.K X.mg X.base CX k f sp) (hr : Room k X.A) (hx : ∀ (s' : Shared) (e : Value), CX X.stack H s E0 e s' → X.xe e s')
    (I : L2.Inv X pins σ H s) (r : Vals vs us) (h : sp vs H Q E0) :
    codeAny (model X.prog X.w) X.A (.call (.ref f) ⟨us, []⟩) (fun r s' => match r with | .ok (.ret v) => EP X pins σ Q v s' | .ok _ => False | .error e => X.xe e s') s := by
  refine codeAny_mono (F X.A X.stack s H us vs Q E0 hr I.env0 r h) fun r s' hq => ?_
  cases r with
  | error e => exact hx s' e hq
  | ok fl =>
    cases fl with
    | ret u => exact I.after hq
    | next => exact False.elim hq
    | brk => exact False.elim hq
    | cont => exact False.elim hq
theorem pe_cmX (d : CMnX X.prog X.w X.K X.mg X.base CX k C x m sp) (hr : Room j X.A) (hk : k ≤ j) (hx : ∀ σ, PassesAt CX X σ (E σ)) (hg : Gl X x) (ha : PA X (e :: es) t) (hdb : (x == ("__debug__" : Str)) = false := by decide)
    (hst : starEach (e :: es) X.env = (false, eval e X.env) :: starEach es X.env := by rfl) (hpl : (backTo pos (starEach es X.env)).any (·.1) = false := by rfl)
    (ht : eval (.Call (.Attribute (.Name x p) m apos) (e :: es) [] pos) X.env = (do
      let ov ← eval (.Name x p) X.env
      standAt apos.atName
      let (f, first) ← holding [ov] (getMethod ov m pl)
      callWith pos f first (backTo pos (starEach (e :: es) X.env)) (backToKw pos (keywordEach [] X.env))) := by rfl) : PE X (.Call (.Attribute (.Name x p) m apos) (e :: es) [] pos) (tBCX (fun vs H Q E => sp (.ref C :: vs) H Q E) E t) := by
  obtain ⟨q, g, mc, r, c, F, hm⟩ := d.ex
  have gl : PE X (.Name x p) (tC (.ref C)) := C8.pe_gc (v := .ref C) hg ⟨_, hm, rfl⟩ hdb
  refine ⟨fun pins s σ H Q I h => ?_⟩
  refine PySem.W.methodCall_KW (pl := pl) (thn (gl.run pins s σ H (fun x H1 => x = V.ref C ∧ H1 = H) I ⟨rfl, rfl⟩) fun u s1 ⟨x, H1, I1, rx, ex, eH⟩ => ?_) ht
  subst ex eH
  obtain rfl : u = Value.ref C := rx
  refine getmethcm_ok I1 r c fun s2 I2 => ?_
  refine callwith_cm I2 (base_none I1 (Nat.le_refl _)) c.fi (thn (ha.run pos _ s2 σ _ _ I2 h) fun us s3 ⟨vs, H2, I3, rv, q2⟩ => ⟨⟨pin_at I3, I3.kIn⟩, ?_⟩) hst hpl
  have z : wpAny (model X.prog X.w) X.A (call (.ref s1.heap.objs.size) us) (EP X ((s1.heap.objs.size, PySem.W.methodObj (.ref g) (.ref C)) :: pins) σ Q) X.xe s3 :=
    wpAny_call (PySem.W.method_call (pin_at I3) (run_fnRS (us := .ref C :: us) (vs := .ref C :: vs) F (hr.mono hk) (fun s' e c => hx σ _ H2 s3 e s' I3 c) I3 (.cons rfl rv) q2))
  exact thn z fun _ _ y => unpinE y
end
/-- xs.insert(i, y) -/
def rInsert : V → List V → Hp → VK → Prop := fun x vs H Q => ∃ (l : Addr) (xs : List V) (i : Int) (y : V), x = .ref l ∧ vs = [.int i, y] ∧ H l = some (.lst xs) ∧ xs.length < sizeLine ∧ 0 ≤ i ∧ i < 2 ^ 63 ∧ Q .non (upd H l (.lst (xs.take i.toNat ++ [y] ++ xs.drop i.toNat)))
theorem mt_insertM {X : Cx} : MtR X "list.insert" rInsert := mt_insert
end UX

set_option Elab.async false
set_option linter.all false
set_option maxRecDepth 100000
set_option maxHeartbeats 4000000
/-! tuple(d); a class made in a try; what is never reached -/
namespace UX
open PySem PySem.Spec PyProof.Rows L2 UL UV UW PySem.W
section
variable {prog : Program} {w : World} {A : Around} {E : Value → Shared → Prop} {s : Shared} {r d : Addr} {n : Nat} {T : String} {P : Nat → Value → Prop} {OK : Heap → Prop}
theorem collect_kdl {Q : List Value → Shared → Prop} (K : KdlSrc prog w T r d n P OK) (hh : A.handled = none) (hok : OK s.heap) (hlen : n ≤ sizeLine)
    (hQ : ∀ (h' : Heap) (tk : Nat) (acc : Array Value), (∀ b o, s.heap.get? b = some o → h'.get? b = some o) → ItemsOf P acc n → Q acc.toList { s with heap := h', toks := tk }) :
    wpAny (model prog w) A (collect (.ref r)) Q E s := by
  unfold collect
  refine wpAny_bind (wpAny_runValue (codeAny_builtin F.entry_proto_collect ?_))
  rw [Around.under_plainId F.plain_proto_collect _]
  show wpAny _ A.in1 (newList [] >>= fun l => again (.builtin "list.__iadd__" ⟨[l, .ref r], []⟩)) _ _ s
  refine wpAny_bind (wpAny_newObj_type ?_)
  refine wpAny_pure ⟨plainId_quiet F.plain_list_iadd _, codeAny_builtin F.entry_list_iadd ?_⟩
  rw [Around.under_plainId F.plain_list_iadd _]
  show wpAny _ A.in1 (Builtin.List.listExtendWith (.ref s.heap.objs.size) (.ref r) (.ref s.heap.objs.size)) _ _ _
  have hS : (s.heap.push { cls := .type "list", data := .seq ([] : List Value).toArray }).get? s.heap.objs.size = some { cls := .type "list", data := .seq #[] 0 } := Heap.get?_push_size _ rfl
  have hok2 : OK (s.heap.push { cls := .type "list", data := .seq ([] : List Value).toArray }) := K.keep _ _ hok fun b _ o e => Heap.get?_push_of_some _ e
  obtain ⟨t1, t2⟩ := K.there _ hok
  refine wpAny_mono (kdl_extend (A := A) (R := fun rr s' => rr = .ok (.ret (.ref s.heap.objs.size)) ∧ ∃ (h' : Heap) (tk : Nat) (acc : Array Value) (c' : Nat), s' = { s with heap := h', toks := tk } ∧
      (∀ b o, s.heap.get? b = some o → h'.get? b = some o) ∧ h'.get? s.heap.objs.size = some { cls := .type "list", dict := none, data := .seq acc c', slots := #[] } ∧ ItemsOf P acc n)
    (s := { s with heap := s.heap.push { cls := .type "list", data := .seq ([] : List Value).toArray } }) K hh hok2 s.heap.objs.size (Nat.ne_of_gt t1) (Nat.ne_of_gt t2) _ 0 hS
    (fun h' tk acc c' hk e hi => ⟨rfl, h', tk, acc, c', rfl, fun b o q => hk b o (Nat.ne_of_lt (Heap.lt_size q)) (Heap.get?_push_of_some _ q), e, hi⟩) hlen) (fun fin s' h => ?_) (fun e s' h => ?_)
  · cases fin with
    | done f =>
      obtain ⟨e, h', tk, acc, c', rfl, hk, hS', hi⟩ := h
      cases e
      show wpAny _ A (load s.heap.objs.size >>= _) _ _ _
      exact wpAny_bind (wpAny_load hS' (wpAny_pure (hQ h' tk acc hk hi)))
    | again c' =>
      refine ⟨h.1, codeAny_mono h.2 fun rr s'' hr' => ?_⟩
      obtain ⟨rfl, h', tk, acc, c', rfl, hk, hS', hi⟩ := hr'
      show wpAny _ A (load s.heap.objs.size >>= _) _ _ _
      exact wpAny_bind (wpAny_load hS' (wpAny_pure (hQ h' tk acc hk hi)))
  · exact absurd h.1 (by simp)
theorem code_tuple_new_kdl {Q₁ : Value → Shared → Prop} (K : KdlSrc prog w T r d n P OK) (hh : A.handled = none) (hok : OK s.heap) (hlen : n ≤ sizeLine)
    (h : ∀ (h' : Heap) (tk : Nat) (acc : Array Value), (∀ b o, s.heap.get? b = some o → h'.get? b = some o) → ItemsOf P acc n →
      Q₁ (.ref h'.objs.size) { s with heap := h'.push { cls := .type "tuple", data := .seq acc }, toks := tk }) :
    codeAny (model prog w) A (.call (.builtin "tuple.__new__") ⟨[.type "tuple", .ref r], []⟩) (wants Q₁ E) s := by
  refine codeAny_of_tree ?_
  show wpAny _ A.in1 (do checkBuiltinCall "tuple.__new__" ⟨[.type "tuple", .ref r], []⟩; again (.builtin "tuple.__new__" ⟨[.type "tuple", .ref r], []⟩)) _ _ s
  refine wpAny_bind (wpAny_of_eq (F.newCall_tuple_1 _) (wpAny_pure ⟨plainId_quiet F.plain_tuple_new _, codeAny_builtin F.entry_tuple_new ?_⟩))
  rw [Around.under_plainId F.plain_tuple_new _]
  have hsub := sub_tuple_self
  have hinit := init_tuple_lookup
  have hmh := madeHere_tuple
  have hTI : s.TypeIs (.ref r) T := K.type s hok
  have hh1 : A.in1.handled = none := hh
  have hnt := K.notTuple
  wp_walk using wpAny_typeOf hTI, collect_kdl (A := A.in1) K hh1 hok hlen
  intro h' tk acc hk hacc
  show wpAny _ _ (Builtin.Tuple.tupleExact acc.toList.toArray >>= fun v => ret v) _ _ _
  unfold Builtin.Tuple.tupleExact
  refine wpAny_bind (wpAny_newObj_type ?_ (by show acc.toList.toArray.size ≤ sizeLine; simp only [Array.toArray_toList]; rw [hacc.1]; exact hlen))
  refine wpAny_pure ?_
  have e : acc.toList.toArray = acc := by simp
  rw [e]
  exact h h' tk acc hk hacc
theorem call_tuple_kdl {Q : Value → Shared → Prop} (K : KdlSrc prog w T r d n P OK) (hh : A.handled = none) (hok : OK s.heap) (hlen : n ≤ sizeLine)
    (hQ : ∀ (h' : Heap) (tk : Nat) (acc : Array Value), (∀ b o, s.heap.get? b = some o → h'.get? b = some o) → ItemsOf P acc n →
      Q (.ref h'.objs.size) { s with heap := h'.push { cls := .type "tuple", data := .seq acc }, toks := tk }) :
    wpAny (model prog w) A (call (.type "tuple") [.ref r]) Q E s := by
  refine callType_codes (Q₁ := fun obj s₁ => s₁.TypeIs obj "tuple" ∧ Q obj s₁) F.called_tuple (F.typeCall_tuple_1 _) F.entry_object_init
    (code_tuple_new_kdl (A := A.in1) K hh hok hlen fun h' tk acc hk hacc => ⟨⟨_, Heap.get?_push_size _ rfl, rfl⟩, hQ h' tk acc hk hacc⟩) fun obj s₁ h₁ => ?_
  exact ⟨h₁.1, F.args_object_init_2 obj _, object_init_meets F.called_tuple.init.lookup F.called_tuple.made (by decide) prog w A.in1 _ s₁ ⟨h₁.1, rfl, h₁.2⟩⟩
end
section
variable {X : Cx}
/-- tuple(d), d with plain keys: no dict, no slots -/
def cTupD : List V → Hp → VK → Prop := fun xs H Q => ∃ (a : Addr) (kvs : List (Key × V)), xs = [.ref a] ∧ Rd H a (.dK kvs) ∧ ∀ p o, H p = none → o.dict = none → o.slots = #[] → Q (.ref p) (upd H p (.frz o (.tup (kvs.map fun kv => kV kv.1))))
theorem call_tupD (hcalm : X.calm = true) : CallR X (.type "tuple") cTupD := by
  intro pins s σ H xs us Q I r q
  obtain ⟨a, kvs, ex, hd, q⟩ := q
  subst ex
  obtain ⟨u, eu, rx⟩ := vals1 r
  subst eu
  cases rx
  obtain ⟨z, lo, vs, rel, dd⟩ := dk_rd I.hok hd
  obtain ⟨ep, hat⟩ := dd.dictAt
  have ek : (kvs.map fun kv => kV kv.1) = vs.map fun p => kV p.1 := by
    have e := congrArg (List.map kV) rel.keys
    rw [List.map_map, List.map_map] at e
    exact e
  refine call_tuple_kdl (kdl_dict (knd := mixKind X.prog X.w) (kvs := vs) (ep := ep) lo) (I.ok.hd hcalm) hat (by rw [← rel.length]; exact z) fun h' tk acc hk hacc => ?_
  have hv : Vals (vs.map fun p => kV p.1) acc.toList := keys_at (by rw [Array.length_toList]; exact hacc.1) fun j v e => hacc.2 j v (by rw [← Array.getElem?_toList]; exact e)
  have I1 : Inv X pins σ H { s with heap := h', toks := tk } := I.kept (t' := tk) hk
  refine ⟨.ref h'.objs.size, _, I1.laid (t' := tk) (fun b o e => Heap.get?_push_of_some _ e) (Nat.le_refl _) (show ObjOk X.prog X.w _ _ _ (.frz { cls := .type "tuple", data := .seq acc } (.tup (kvs.map fun kv => kV kv.1))) from
    ⟨Heap.get?_push_size _ rfl, by rw [List.length_map]; exact z, acc.toList, by rw [ek]; exact hv, ?_⟩), rfl, q _ _ (I1.hok.fresh (Nat.le_refl _)) rfl rfl⟩
  have e : acc = acc.toList.toArray := by simp
  exact e ▸ IsTup.new _ _
end
section
variable {X : Cx}
theorem pe_never {e : Expr} : PE X e (fun _ _ _ => False) := ⟨fun _ _ _ _ _ _ h => h.elim⟩
variable {CX : CXT} {k j : Nat} {C f : Addr} {fd : FuncData} {ps : List Str} {sp : Sp} {E : L2.St → XK} {x : Str} {p pos : Pos} {e : Expr} {es : List Expr} {t : TA}
/-- C(e, ..) in a try's body -/
def tMakeX (C : Addr) (sp : Sp) (E : L2.St → XK) (t : TA) : TE := fun σ H Q => t σ H fun vs H1 => ∀ x dx, H1 x = none → H1 dx = none → dx ≠ x → sp (.ref x :: vs) (upd (upd H1 dx (.own x)) x (.ins C dx [])) (fun v H2 => v = .non ∧ Q (.ref x) H2) (E σ)
theorem pe_kX (d : Kn X.prog X.w X.K X.mg X.base CX k C x sp) (hr : Room j X.A) (hk : k + 1 ≤ j) (hx : ∀ σ, PassesAt CX X σ (E σ)) (hg : Gl X x) (ha : PA X (e :: es) t) (hdb : (x == ("__debug__" : Str)) = false := by decide)
    (he : starEach (e :: es) X.env = (false, eval e X.env) :: starEach es X.env := by rfl) (hpl : (backTo pos (starEach es X.env)).any (·.1) = false := by rfl) : PE X (.Call (.Name x p) (e :: es) [] pos) (tMakeX C sp E t) := by
  obtain ⟨f, fd, ps, F, M, hb, hm⟩ := d.ex
  refine ⟨fun pins s σ H Q I h => ?_⟩
  refine wpAny_Call_Name_kw (ld_glob I hg hm ?_ hdb)
  refine PySem.W.callWith_K (h₀ := X.base) I.ok.mod.kin M.kp (thn (ha.run pos pins s σ H _ I h) fun us s1 ⟨vs, H1, I1, r, q⟩ => ⟨I1.kIn, ?_⟩) he hpl
  have hq := q (s1.heap.objs.size + 1) s1.heap.objs.size (I1.hok.fresh (Nat.le_succ _)) (I1.hok.fresh (Nat.le_refl _)) (Nat.ne_of_lt (Nat.lt_succ_self _))
  have I2 := Inv.made (C := C) I1
  have r2 : Vals (V.ref (s1.heap.objs.size + 1) :: vs) (Value.ref (s1.heap.objs.size + 1) :: us) := .cons rfl r
  have hl : (Value.ref (s1.heap.objs.size + 1) :: us).length = ps.length := by
    rw [← r2.length]; exact F.len _ _ _ _ hq
  have bb := hb _ (Value.ref (s1.heap.objs.size + 1) :: us) I2.kIn (by rw [List.append_nil]; exact hl)
  rw [List.append_nil] at bb
  refine wpAny_call (make_map (f := f) I1.kIn M.makes M.init (beq_iff_eq.mp M.fn) (codeAny_mono (F.run _ X.stack _ _ ⟨Value.ref (s1.heap.objs.size + 1) :: us, []⟩ (Value.ref (s1.heap.objs.size + 1) :: us) _ _ (E σ) ((hr.mono hk).make C us [])
    (I2.env0.make C us []) bb r2 hq) fun r s' hq' => ?_))
  cases r with
  | error e => exact hx σ _ _ _ e s' I2 hq'
  | ok fl =>
    cases fl with
    | ret u =>
      obtain ⟨v, H', I3, rv, ev, q3⟩ := I2.after hq'
      subst ev
      exact ⟨rv, ⟨V.ref (s1.heap.objs.size + 1), H', I3, rfl, q3⟩⟩
    | next => exact False.elim hq'
    | brk => exact False.elim hq'
    | cont => exact False.elim hq'
end
/-- what a dict comprehension over J wants of its dict at D -/
def DJ (J : It) (g : TG) (tt : TT) (tk tv : TE) (vs : List Nat) (σ : L2.St) (D : Addr) (Qd : Hp → Prop) (H1 : Hp) : Prop := ∃ W : Nat → Nat → Hp → Prop, (∃ m, W 0 m (upd H1 D (.dK []))) ∧ ∀ i m H, W i m H →
  (J.stop i H ∧ Qd H) ∨ (J.go i H ∧ ∃ Nx : Hp → Prop, (∀ H', Nx H' → ∃ m', m' < m ∧ W (i + 1) m' H') ∧ ∀ x H', J.yld i H x H' → g x (wipe σ vs) H' fun σ2 H2 => wipe σ2 vs = wipe σ vs ∧ tt σ2 H2 fun b H3 =>
    if b = true then tk σ2 H3 fun y H4 => tv σ2 H4 fun z H5 => ∃ kvs k, y = kV k ∧ H5 D = some (.dK kvs) ∧ kvs.length < sizeLine ∧ Nx (upd H5 D (.dK (putK kvs k z))) else Nx H3)
theorem tDc_eq {wi : TI} {g : TG} {tt : TT} {tk tv : TE} {vs : List Nat} {σ : L2.St} {H : Hp} {Q : VK} : tDc wi g tt tk tv vs σ H Q = wi σ H fun J H1 => ∀ D, H1 D = none → DJ J g tt tk tv vs σ D (fun H2 => Q (.ref D) H2) H1 := rfl
theorem DJ.tup {K : PySem.W.Frag} {a : Addr} {xs : List V} {g : TG} {tt : TT} {tk tv : TE} {vs : List Nat} {σ : L2.St} {H1 : Hp} {D : Addr} {Qd : Hp → Prop} (Pv : Nat → Hp → Prop) (h0 : Pv 0 (upd H1 D (.dK []))) (hl : ∀ i H, i ≤ xs.length → Pv i H → SqT K H a xs)
    (hs : ∀ i x H, xs[i]? = some x → Pv i H → g x (wipe σ vs) H fun σ2 H2 => wipe σ2 vs = wipe σ vs ∧ tt σ2 H2 fun b H3 =>
      if b = true then tk σ2 H3 fun y H4 => tv σ2 H4 fun z H5 => ∃ kvs k, y = kV k ∧ H5 D = some (.dK kvs) ∧ kvs.length < sizeLine ∧ Pv (i + 1) (upd H5 D (.dK (putK kvs k z))) else Pv (i + 1) H3) (hd : ∀ H, Pv xs.length H → Qd H) : DJ (Itt K a) g tt tk tv vs σ D Qd H1 := dc_tup Pv h0 hl hs hd
/-- isinstance of a pinned exception without a dict -/
theorem call_isP0 {X : Cx} {a : Addr} {oe : Obj} {cls : Value} {d : Option Addr} (hp : (a, oe) ∈ X.pn) (hz : Zc cls d oe) (hf : ∃ vs, oe.data = .fields vs) : CallR X (.builtin "isinstance") (rIs0 X.K a cls d) := by
  intro pins s σ H xs us Q I r h
  obtain ⟨D, c, cv, b, rfl, rfl, ec, rfl, hcv, e, q⟩ := h
  obtain ⟨u1, u2, rfl, ru1, ru2⟩ := vals2 r
  cases ru1
  have e2 := hcv _ ru2
  subst e2
  obtain ⟨hget, _⟩ := I.pin (a, oe) (List.mem_append_left _ hp)
  obtain ⟨vs, hv⟩ := hf
  have J : PySem.W.InstAt s.heap a oe D none := by
    obtain ⟨oc, od, oda, osl⟩ := oe
    obtain ⟨h1, h2⟩ := hz
    dsimp only at h1 h2 hv
    subst h1 h2 hv
    exact ⟨hget, rfl, rfl, trivial⟩
  exact PySem.W.kia_one (PySem.W.handS_kitx_exc ec.hg ec.hk ec.hs ec.hd ec.ha ec.hn ec.ht ec.hm) I.kIn J e (fun z => nomatch z) fun tk => ⟨.bl b, H, I.kept (t' := tk) fun _ _ z => z, rfl, q⟩
theorem is0 {K : PySem.W.Frag} {H : Hp} {Q : VK} {D a : Addr} {c : V} {cv : Value} {b : Bool} (ec : ExcC K D) (hc : ∀ u, RelV c u → u = cv) (hk : PySem.W.kitOne K (.ref D) cv = some b) (q : Q (.bl b) H) : rIs0 K a (.ref D) none [.ref a, c] H Q := ⟨D, c, cv, b, rfl, rfl, ec, rfl, hc, hk, q⟩
end UX

set_option Elab.async false
set_option linter.all false
set_option maxRecDepth 100000
set_option maxHeartbeats 4000000
/-! a classmethod without arguments; own + and |; a classmethod with a star parameter -/
namespace UX
open PySem PySem.Spec PyProof.Rows L2 UL UV UW ClX
section
variable {X : Cx} {CX : CXT} {k j i : Nat} {C : Addr} {sp : Sp} {E : L2.St → XK} {ea eb : Expr} {op : Operator} {m x : Str} {p pos apos : Pos} {ta tb : TE} {pl : Sem Bool}
/-- C.m() -/
theorem pe_cmX0 (d : CMnX X.prog X.w X.K X.mg X.base CX k C x m sp) (hr : Room j X.A) (hk : k ≤ j) (hx : ∀ σ, PassesAt CX X σ (E σ)) (hg : Gl X x) (hdb : (x == ("__debug__" : Str)) = false := by decide)
    (ht : eval (.Call (.Attribute (.Name x p) m apos) [] [] pos) X.env = (do
      let ov ← eval (.Name x p) X.env
      standAt apos.atName
      let (f, first) ← holding [ov] (getMethod ov m pl)
      callWith pos f first (backTo pos (starEach [] X.env)) (backToKw pos (keywordEach [] X.env))) := by rfl) : PE X (.Call (.Attribute (.Name x p) m apos) [] [] pos) (tBCX (fun vs H Q E => sp (.ref C :: vs) H Q E) E tNil) := by
  obtain ⟨q, g, mc, r, c, F, hm⟩ := d.ex
  have gl : PE X (.Name x p) (tC (.ref C)) := C8.pe_gc (v := .ref C) hg ⟨_, hm, rfl⟩ hdb
  refine ⟨fun pins s σ H Q I h => ?_⟩
  refine PySem.W.methodCall_KW (pl := pl) (thn (gl.run pins s σ H (fun x H1 => x = V.ref C ∧ H1 = H) I ⟨rfl, rfl⟩) fun u s1 ⟨x, H1, I1, rx, ex, eH⟩ => ?_) ht
  subst ex eH
  obtain rfl : u = Value.ref C := rx
  refine getmethcm_ok I1 r c fun s2 I2 => ?_
  refine PySem.W.callWith_M0 (first := []) (K := X.K) (g := g) (self := .ref C) ⟨pin_at I2, I2.kIn⟩ c.fi ?_
  have z : wpAny (model X.prog X.w) X.A (call (.ref s1.heap.objs.size) []) (EP X ((s1.heap.objs.size, PySem.W.methodObj (.ref g) (.ref C)) :: pins) σ Q) X.xe s2 :=
    wpAny_call (PySem.W.method_call (pin_at I2) (run_fnRS (us := [.ref C]) (vs := [.ref C]) F (hr.mono hk) (fun s' e c => hx σ _ H1 s2 e s' I2 c) I2 (.cons rfl .nil) h))
  exact thn z fun _ _ y => unpinE y
/-- cls(..), cls the class at C, which may raise -/
def tMakeLX (i : Nat) (C : Addr) (sp : Sp) (E : XK) (t : TA) : TE := fun σ H Q => σ[i]? = some (some (.ref C)) ∧ t σ H fun vs H1 => ∀ x dx, H1 x = none → H1 dx = none → dx ≠ x → sp (.ref x :: vs) (upd (upd H1 dx (.own x)) x (.ins C dx [])) (fun v H2 => v = .non ∧ Q (.ref x) H2) E
theorem pe_makeLX {y : Str} {E : XK} {e : Expr} {es : List Expr} {t : TA} (d : Kn X.prog X.w X.K X.mg X.base CX k C y sp) (hr : Room j X.A) (hk : k + 1 ≤ j) (hN : X.N[i]? = some x) (hv : Vis X.env.scope x) (hx : Passes CX X E) (ha : PA X (e :: es) t)
    (hdb : (x == ("__debug__" : Str)) = false := by decide) (hcd : (x == ("__classdict__" : Str)) = false := by decide)
    (he : starEach (e :: es) X.env = (false, eval e X.env) :: starEach es X.env := by rfl) (hpl : (backTo pos (starEach es X.env)).any (·.1) = false := by rfl) : PE X (.Call (.Name x p) (e :: es) [] pos) (tMakeLX i C sp E t) := by
  obtain ⟨f, fd, ps, F, M, hb, hm⟩ := d.ex
  refine ⟨fun pins s σ H Q I h => ?_⟩
  obtain ⟨hs, ht⟩ := h
  refine wpAny_Call_Name_kw (thn ((pe_var (pos := p) hN hv hdb hcd).run pins s σ H (fun v H1 => v = .ref C ∧ H1 = H) I ⟨.ref C, hs, rfl, rfl⟩) fun u s1 ⟨v, H1, I1, r1, q1⟩ => ?_)
  obtain ⟨rfl, rfl⟩ := q1
  cases r1
  refine PySem.W.callWith_K (h₀ := X.base) I.ok.mod.kin M.kp (thn (ha.run pos pins s1 σ _ _ I1 ht) fun us s2 ⟨vs, H2, I2, r, q⟩ => ⟨I2.kIn, ?_⟩) he hpl
  have q' : ∀ x dx, H2 x = none → H2 dx = none → dx ≠ x → sp (.ref x :: (vs ++ [])) (upd (upd H2 dx (.own x)) x (.ins C dx [])) (fun v H3 => v = .non ∧ Q (.ref x) H3) E := fun x dx h1 h2 h3 => by
    rw [List.append_nil]
    exact q x dx h1 h2 h3
  exact run_make (dvs := []) M F (hr.mono hk) hb .nil hx I2 r q'
/-- inside a comprehension -/
theorem call_lenK (K : PySem.W.Frag) (h : X.K = K) : CallR X (.builtin "len") (cLen K) := h ▸ call_lenA
theorem ix_seqK (K : PySem.W.Frag) (h : X.K = K) : IxR X (rIx K) := h ▸ ix_seq
theorem op_eqK (K : PySem.W.Frag) (h : X.K = K) (hu : X.A.units + 64 < cLine) : OpR X (compareOp .Eq) (rEqA K) := h ▸ op_eqA hu
theorem op_neK (K : PySem.W.Frag) (h : X.K = K) (hu : X.A.units + 64 < cLine) : OpR X (compareOp .NotEq) (rNeA K) := h ▸ op_neA hu
/-- C.f, a constant of the class -/
structure CVn (K : PySem.W.Frag) (mg : Str → Option Value) (x f : Str) (v : V) : Prop where
  ex : ∃ (C : Addr) (mc u : Value), mg x = some (.ref C) ∧ CRead K C mc ∧ CVal K C mc f v u
theorem pe_cv {f : Str} {v : V} (d : CVn X.K X.mg x f v) (hg : Gl X x) (hdb : (x == ("__debug__" : Str)) = false := by decide) (hb : attributeBase (.Name x p) f X.env (eval (.Name x p) X.env) = eval (.Name x p) X.env := by rfl) : PE X (.Attribute (.Name x p) f pos) (tC v) := by
  obtain ⟨C, mc, u, hm, r, k⟩ := d.ex
  have gl : PE X (.Name x p) (tC (.ref C)) := C8.pe_gc (v := .ref C) hg ⟨_, hm, rfl⟩ hdb
  exact ⟨fun pins s σ H Q I h => (pe_cval (pos := pos) gl hb).run pins s σ H Q I ⟨C, mc, v, u, rfl, r, k, h⟩⟩
/-- own binary operator -/
structure BiO (K : PySem.W.Frag) (C f : Addr) (op : Operator) : Prop where
  sf : PySem.W.selfFirst K C = true
  at_ : PySem.W.findIn K (.ref C) (PySem.dunder op.info.2) = some (some (.ref f))
  is : PySem.W.isFn K (.ref f) = true
structure BOn (P : Program) (w : World) (K : PySem.W.Frag) (mg : Str → Option Value) (base : Heap) (CX : CXT) (k : Nat) (C : Addr) (op : Operator) (sp : Sp) : Prop where
  ex : ∃ (f : Addr) (fd : FuncData) (ps : List Str), FnOk P w K mg base CX k f fd ps sp ∧ BiO K C f op ∧ Binds K fd ps []
def tBinX (C : Addr) (sp : Sp) (E : L2.St → XK) (ta tb : TE) : TE := fun σ H Q => ta σ H fun x H1 => tb σ H1 fun y H2 => ∃ a dx fs b dy gs, x = .ref a ∧ y = .ref b ∧ H2 a = some (.ins C dx fs) ∧ H2 b = some (.ins C dy gs) ∧ sp [.ref a, .ref b] H2 Q (E σ)
theorem pe_binX (d : BOn X.prog X.w X.K X.mg X.base CX k C op sp) (hr : Room j X.A) (hk : k ≤ j) (hx : ∀ σ, PassesAt CX X σ (E σ)) (ha : PE X ea ta) (hb : PE X eb tb) : PE X (.BinOp ea op eb pos) (tBinX C sp E ta tb) := by
  obtain ⟨f, fd, ps, F, c, B⟩ := d.ex
  refine ⟨fun pins s σ H Q I h => wpAny_BinOp (binT ha hb I h fun v u s2 x y H2 I2 rx ry q => ?_)⟩
  obtain ⟨a, dx, fs, b, dy, gs, rfl, rfl, e1, e2, q⟩ := q
  cases rx
  cases ry
  obtain ⟨od, J⟩ := inst_of I2 e1
  obtain ⟨od', J'⟩ := inst_of I2 e2
  obtain ⟨m, hF⟩ := I2.fr
  refine PySem.W.binop_K hF I2.ok.mod.kin J J'.type c.sf c.at_ c.is ?_
  refine wpAny_mono (run_fnS (us := [.ref a, .ref b]) (vs := [.ref a, .ref b]) F (hr.mono hk) B (hx σ) I2 (.cons rfl (.cons rfl .nil)) q) (fun w s' z => ?_) fun _ _ x => x
  obtain ⟨z', H', I', rz, qz⟩ := z
  exact SlX.cmpback rz ⟨z', H', I', rz, qz⟩
end
section
variable {P : Program} {w : World} {K : PySem.W.Frag} {mg : Str → Option Value} {base : Heap}
/-- def f(p1, *pv), which may raise -/
theorem fun_starX {x qual : Str} {st : Stmt} {f : Addr} {fd : FuncData} {N : List Str} {p1 pv : Str} {k : Nat} {sp : Sp} (F : Fun K x qual st f fd) (S : FnScope N ([p1] ++ [pv]) (defScope st))
    (hb : ∀ (kV doc pm : Value) (an : Option Addr) (cdv ct : Value), (∀ a, bindArgs (PySem.W.fnOf x qual (defArgs st) (defBody st) (defScope st) .none kV doc pm an cdv ct) ⟨[a], []⟩ = (newTuple [] >>= fun t => pure [(p1, a), (pv, t)])) ∧
      (∀ a r rs, bindArgs (PySem.W.fnOf x qual (defArgs st) (defBody st) (defScope st) .none kV doc pm an cdv ct) ⟨a :: r :: rs, []⟩ = (newTuple (r :: rs) >>= fun t => pure [(p1, a), (pv, t)])))
    (hbody : ∀ (cdv : Value) (A : Around) (outer : List Env) (s : Shared) (H : Hp) (vs : List V) (Q : VK) (E : XK), Room k (A.deeper (envOfC qual (defScope st) s.heap.objs.size f cdv)) → sp vs H Q E →
      ∃ t, PSs (cxOf (L2.CX P w) P w K mg base N qual (defScope st) f cdv A outer s H E) (defBody st) t ∧ t { nx := fun _ H' => Q .non H', rt := Q } (start N vs) H) :
    FnR P w K mg base (L2.CX P w) (k + 1) f (fun vs H Q E => ∃ ws rest, vs = ws ++ rest ∧ ws.length = 1 ∧ rest.length ≤ sizeLine ∧ ∀ p, H p = Option.none → sp (ws ++ [V.ref p]) (upd H p (.tup rest)) Q E) := by
  obtain ⟨oc, od, kV, doc, pm, an, cdv, ct, osl, rfl, lk, hcd⟩ := F.ex
  exact StX.fn_star (ps := [p1]) lk hcd S StX.cxUp (fun us rest hl => StX.bind_star1 (B := fun l => bindArgs (PySem.W.fnOf x qual (defArgs st) (defBody st) (defScope st) .none kV doc pm an cdv ct) ⟨l, []⟩) (hb kV doc pm an cdv ct).1 (hb kV doc pm an cdv ct).2 us rest hl) fun A outer s H vs Q E hr hsp => hbody cdv A outer s H vs Q E hr hsp
end
end UX

set_option Elab.async false
set_option linter.all false
set_option maxRecDepth 100000
set_option maxHeartbeats 4000000
/-! d.setdefault(k, v) -/
namespace UX
open PySem PySem.Spec PyProof.Rows L2 UL UV UW ClX
theorem mt_setd {X : Cx} : MtR X "dict.setdefault" rSetd := by
  intro pins s σ H x vs u us Q I rx rv h
  obtain ⟨a, kvs, k, v, rfl, rfl, ea, hl, w1, w2⟩ := h
  cases rx
  obtain ⟨u1, u2, rfl, ry, rd⟩ := rv.two
  obtain ⟨z, hd, vs0, rel, dd⟩ := dk_of I.hok ea
  have hz : vs0.length ≤ sizeLine := by rw [← rel.length]; exact z
  refine call_meetsIn F.slot_dict_setdefault dd.typeIs F.entry_dict_setdefault (F.args_dict_setdefault_3 _ _ _) (kt_meets_setdefault (mixKind X.prog X.w) _ (kV_is ry) hd _) ⟨vs0, dd, hz, fun u hu => ?_, fun hn h' dd' hs => ?_⟩
  · have rr := rel.val k
    rw [hu] at rr
    cases hv : valV kvs k with
    | none => rw [hv] at rr; exact False.elim rr
    | some x =>
      rw [hv] at rr
      exact (⟨x, H, I.tok _, rr, w1 x hv⟩ : EP X pins σ Q u _)
  · have rr := rel.val k
    rw [hn] at rr
    cases hv : valV kvs k with
    | some x => rw [hv] at rr; exact False.elim rr
    | none =>
      have hl2 : (putK kvs k v).length ≤ sizeLine := by have := length_putK kvs k v; omega
      exact (⟨v, _, d_write (t' := s.toks + 1) I (by rw [ea]; exact True.intro) hs (let ⟨q, _, _, hq, _⟩ := dd'; ⟨q, hq⟩) (dk_new hl2 hd (rel.put k rd) dd'), rd, w2 hv⟩ : EP X pins σ Q _ _)
/-- len(d) -/
def cLenD : List V → Hp → VK → Prop := fun xs H Q => ∃ (a : Addr) (kvs : List (Key × V)), xs = [.ref a] ∧ Rd H a (.dK kvs) ∧ Q (.int kvs.length) H
theorem call_lenF {X : Cx} : CallR X (.builtin "len") cLenD := by
  intro pins s σ H xs us Q I r h
  obtain ⟨a, kvs, rfl, hd, q⟩ := h
  obtain ⟨u, rfl, ru⟩ := r.one
  cases ru
  exact d_len I hd fun t s' I' => ⟨.int kvs.length, H, I', ⟨t, rfl⟩, q⟩
theorem un1 {n k : Nat} (h : n + 64 < k) : n + 1 < k := by omega
end UX

set_option Elab.async false
set_option linter.all false
set_option maxRecDepth 100000
set_option maxHeartbeats 4000000
set_option pp.deepTerms true
set_option pp.maxSteps 400000
namespace U
open PySem PySem.Spec PyProof.Rows L2 UL UX
local macro_rules | `(tactic| walk_at "rd") => `(tactic| simp only [sMatch, tJs, tFmt, tBC, tMethA, tMakeL, iEnumS, tSeq, tAsg, tOp, tCB, tCons, tNil, tVar, tC, tB, tTest, tNot, tIfS, tNext, tYes, tUn, rU, tM0, tGFrom, tGThen, tG0, tYfLst, gcxK, tSubO, tProp, tListG, tMethG, tBMF, tFld, sFld, tMeth, tMake, tSl, tNoPart, tPart, tM1, gTup, gCons, gNil, tDrop, tFor_eq, tLc_eq, tLc2_eq, iRng1_eq, StX.tStar, iList, iTup, iStr, iAny_var, iZipB, tLenSetS, wipe, tVar, tAndV, tOrV, tNotV, tOr, tAnd, tLst, tTup, tBM, tBM0, tChain, tCall, cxK, noxK, addII, addSS, mulII, eqII, neII, neSS, cIntI, cAbsI, rI, rI0, rLt, rLe, rGt_, rGe_, rSub_, rMod, rPow, rDivW, rNeg, gName, tRet, L2.start, List.length_cons, List.length_nil, List.map_cons, List.map_nil, List.replicate, List.cons_append, List.nil_append, List.getElem?_cons_zero, List.getElem?_cons_succ, List.set_cons_zero, List.set_cons_succ, Option.some.injEq, exists_eq_left', exists_eq_left, V.int.injEq, V.bl.injEq, V.str.injEq, V.ref.injEq, V.ty.injEq, List.cons.injEq, and_true, true_and, reduceCtorEq, false_and, exists_false, or_false, false_or, exists_and_left, exists_and_right, List.append_nil, forall_eq, decide_eq_true_eq, Bool.not_eq_true, Nat.reduceAdd, Nat.reduceSub, List.replicate_zero, List.replicate_succ, Nat.zero_le, ite_true, ite_false, if_true, if_false])
section
variable {P : Program} {w : World} {K : PySem.W.Frag} {mg : Str → Option Value} {base : Heap}

open UV UW NdefX
variable {IC : Addr}
theorem pmk_0 {X : Cx} {C : Addr} {x : Str} {sp : Sp} {k j : Nat} {p pos : Pos} (d : Xn X.prog X.w X.K X.mg X.base k C x sp) (hr : Room j X.A) (hk : k + 1 ≤ j) (hg : Gl X x) (hdb : (x == ("__debug__" : Str)) = false := by decide) (hex : X.ex = [] := by rfl) : PMk X (.Call (.Name x p) [] [] pos) (tMk0 C sp) := by
  obtain ⟨f, fd, ps, F, h1, h2, B⟩ := d.ex
  exact made0 d.ox h1 h2 F hr hk B hex hg d.gc hdb
local macro_rules | `(tactic| walk_at "rdx") => `(tactic| simp only [tCons, tNil, tJs, tC, tFmt, tFmtN, tVar, tOst, tSeq, NdefX.startF, L2.start, List.length_cons, List.length_nil, List.map_cons, List.map_nil, List.replicate, List.cons_append, List.nil_append, List.getElem?_cons_zero, List.getElem?_cons_succ, Option.some.injEq, exists_eq_left', exists_eq_left, V.str.injEq, V.int.injEq, V.ref.injEq, reduceCtorEq, false_and, exists_false, or_false, false_or, and_true, true_and, exists_and_left, exists_and_right, Nat.reduceAdd, Nat.reduceSub, Nat.reduceLeDiff, ncK])
abbrev s_IC : Stmt := inClass (top 3) 0
theorem sc_IC : NScope ["self", "__class__"] ["self"] ["__class__"] (defScope s_IC) := nscope_by (by decide +kernel)
def sp_IC : Addr → Sp := fun C vs H Q _ => ∃ a : Addr, vs = [.ref a] ∧ H a = some (exo a C none) ∧ Q .non H
theorem x_IC {C : Addr} (D : XD P K mg C "InvalidCells" "InvalidCells.__init__" s_IC) : Xn P w K mg base 1 C "InvalidCells" (sp_IC C) := by
  obtain ⟨f, c, cc, oc, kV, doc, pm, ct, od, an, osl, lk, hcd, F, h1, h2⟩ := D.ex
  refine ⟨⟨f, _, ["self"], fn_sup (N := ["self", "__class__"]) (ps := []) (pl := _) lk hcd sc_IC D.ox F (by decide +kernel) (fun vs H Q E h => ?_) (fun A outer s H vs Q E hr h => ?_), h1, h2, Binds.all fun us hl => match us, hl with | [_], _ => rfl⟩, D.ox, D.gc⟩
  · obtain ⟨a, rfl, _⟩ := h; rfl
  · obtain ⟨a, rfl, ha, q⟩ := h
    refine ⟨a, _, _, rfl, ha, pa_cons pe_str pa_nil, pss_nil, ?_⟩
    walk_at "rdx"
    exact ⟨ha, q⟩
/-- an exception without fields, at a later heap -/
def X0 (C : Addr) (H : Hp) (E : XK) : Prop := ∀ H', Same H H' → E (.ref C) none H'
theorem X0.same {C : Addr} {H H' : Hp} {E : XK} (h : X0 C H E) (s : Same H H') : X0 C H' E := fun H2 s2 => h H2 (Same.tr s s2)
theorem raise0 {H : Hp} {E : XK} {σ : L2.St} (h : X0 IC H E) : tMk0 IC (sp_IC IC) σ H (fun cls d H' => E cls d H') := fun a ha => ⟨a, rfl, upd_same, rfl, upd_same, h _ fun b o e => by
  have n : b ≠ a := ne_of_none e ha
  rw [del_ne n, upd_ne n]; exact e⟩
def nmsB (xs : List Str) : Bool := decide (1 ≤ xs.length) && decide (xs.length ≤ 3) && xs.all nmB && decide ((met xs).length = xs.length)
abbrev s_check_names : Stmt := top 14
abbrev sc_check_names_N : List Str := ["names", ".0", "name"]
theorem sc_check_names : FnScope sc_check_names_N ["names"] (defScope s_check_names) := ⟨rfl, rfl, rfl, by decide +kernel, rfl, by decide +kernel, by decide +kernel⟩
-- 0 names, 1 .0, 2 name
def sp_chknX (K : PySem.W.Frag) (IC : Addr) : Sp := fun vs H Q E => ∃ a xs, vs = [.ref a] ∧ SqA K H a (xs.map V.str) ∧ xs.length ≤ 60 ∧ (∀ z ∈ xs, z.length ≤ 1000) ∧ (nmsB xs = true → ∀ H', Same H H' → Q .non H') ∧ (nmsB xs = false → X0 IC H E)
theorem d_chknX (T : Nm mg) (D : TD K mg "check_names" s_check_names) (d_is_name : Dn P w K mg base CX0 1 "is_name" sp_isnm) (x_InvalidCells : Xn P w K mg base 1 IC "InvalidCells" (sp_IC IC)) : Dn P w K mg base (L2.CX P w) 3 "check_names" (sp_chknX K IC) := by
  refine D.dx sc_check_names (fun _ _ _ _ _ _ us hl => match us, hl with | [_], _ => rfl) (fun vs H Q E h => ?_) (fun f cdv A outer s H vs Q E hr h => ?_)
  · obtain ⟨a, xs, rfl, _⟩ := h; rfl
  · obtain ⟨a, xs, rfl, ha, h6, hz, q, qx⟩ := h
    refine ⟨_, (pss_cons (ps_if (pt_not (pt_chain op_leA op_leA pe_int (pe_callB call_lenA (by rfl) T.n_len (by decide +kernel) (pa_cons (pv 0) pa_nil)) (C8.pe_gc (by rfl) T.c_MOST_CELLS))) (pss_one (ps_raise rfl (takes_of rfl rfl rfl rfl) (pmk_0 x_InvalidCells hr (by decide) (by rfl)))) pss_nil)
      (pss_cons (ps_if (pt_not (pt_val (pe_callB (cr_all rfl) (by rfl) T.n_all (by decide +kernel) (pa_cons (pe_lc (own := [(".0", 1), ("name", 2)]) (g := (gName 2)) (tt := tYes) rfl sc_check_names.nd (pi_any (pv 0)) (blkOk_by (N := sc_check_names_N) (sc := defScope s_check_names) (by decide +kernel)) (fun _ _ _ _ _ => pg_name (i := 2) sc_check_names.nd rfl (Or.inl rfl)) (fun _ _ _ _ _ => pts_nil) (fun _ _ _ _ _ => (pe_d d_is_name hr (by decide) pass0 (by rfl) (pa_cons (pv 2) pa_nil)))) pa_nil)))) (pss_one (ps_raise rfl (takes_of rfl rfl rfl rfl) (pmk_0 x_InvalidCells hr (by decide) (by rfl)))) pss_nil)
      (pss_one (ps_if (pt_cmpR op_ltA (pe_lenSetS rfl (by rfl) T.n_len (by rfl) T.n_set (pv 0)) (pe_callB call_lenA (by rfl) T.n_len (by decide +kernel) (pa_cons (pv 0) pa_nil)) (nomark _)) (pss_one (ps_raise rfl (takes_of rfl rfl rfl rfl) (pmk_0 x_InvalidCells hr (by decide) (by rfl)))) pss_nil)))), ?_⟩
    walk_at "rd"
    obtain ⟨k, ha⟩ := ha
    refine Kd.len ha ⟨_, rfl, ?_⟩
    rw [List.length_map]
    by_cases c1 : ¬ 1 ≤ xs.length
    · rw [if_neg (by omega), if_pos (by decide)]
      exact raise0 (qx (by unfold nmsB; rw [decide_eq_false c1]; rfl))
    have c1 := Decidable.not_not.mp c1
    rw [if_pos (by omega)]
    refine ⟨_, rfl, ?_⟩
    by_cases c2 : ¬ xs.length ≤ 3
    · rw [if_pos (by rw [decide_eq_false (by omega)]; rfl)]
      exact raise0 (qx (by unfold nmsB; rw [decide_eq_false c2, Bool.and_false, Bool.false_and, Bool.false_and]))
    have c2 := Decidable.not_not.mp c2
    rw [if_neg (by rw [decide_eq_true (by omega)]; decide)]
    refine ⟨k, ⟨_, ha⟩, fun D hD => LJ.it (walk_any (xs := xs.map V.str) k) (fun i H2 => H2 D = some (.lst (((xs.take i).map nmB).map V.bl)) ∧ Same H H2) ⟨upd_same, UL.Same.new hD⟩ (fun i H2 _ inv => Kd.same inv.2 ha) (fun i x H2 H3 hi inv yy => ?_) fun H2 inv => ?_⟩
    · obtain ⟨hD2, s2⟩ := inv
      obtain ⟨rfl, hx⟩ := yy
      refine ⟨rfl, ?_⟩
      walk_at "rd"
      rw [List.length_map] at hi
      have ex : x = V.str xs[i] := by rw [List.getElem?_map, List.getElem?_eq_getElem hi] at hx; exact (Option.some.inj hx).symm
      subst ex
      have et : xs.take (i + 1) = xs.take i ++ [xs[i]] := by rw [List.take_add_one, List.getElem?_eq_getElem hi]; rfl
      exact ⟨_, rfl, hz _ (List.getElem_mem hi), fun H4 s4 => ⟨_, s4 _ _ hD2, by simp [sizeLine_eq]; omega, by rw [upd_same, et, List.map_append, List.map_append]; rfl, UL.Same.put (Same.tr s2 s4) hD⟩⟩
    · obtain ⟨hD2, s2⟩ := inv
      rw [List.length_map, List.take_length] at hD2
      refine ⟨D, _, rfl, .inl (.inl hD2), _, rfl, ?_⟩
      have e3 : (xs.map nmB).all id = xs.all nmB := by rw [List.all_map]; rfl
      rw [e3]
      cases c3 : xs.all nmB with
      | false =>
        rw [if_pos (by decide)]
        exact raise0 ((qx (by unfold nmsB; rw [c3, Bool.and_false, Bool.false_and])).same s2)
      | true =>
      rw [if_neg (by decide)]
      refine ⟨xs, Kd.or (Kd.same s2 ha), by omega, Kd.len (Kd.same s2 ha) ⟨_, rfl, ?_⟩⟩
      rw [List.length_map]
      have ml := met_len xs
      by_cases c4 : (met xs).length = xs.length
      · rw [if_neg (by omega)]
        exact q (by unfold nmsB; rw [decide_eq_true c1, decide_eq_true c2, c3, decide_eq_true c4]; rfl) _ s2
      · rw [if_pos (by omega)]
        exact raise0 ((qx (by unfold nmsB; rw [decide_eq_false c4, Bool.and_false])).same s2)
end
end U

set_option Elab.async false
set_option linter.all false
set_option maxRecDepth 100000
set_option maxHeartbeats 4000000
set_option pp.deepTerms true
set_option pp.maxSteps 400000
namespace U
open PySem PySem.Spec PyProof.Rows L2 UL UX
local macro_rules | `(tactic| walk_at "rd") => `(tactic| simp only [sMatch, tJs, tFmt, tBC, tMethA, tMakeL, iEnumS, tSeq, tAsg, tOp, tCB, tCons, tNil, tVar, tC, tB, tTest, tNot, tIfS, tNext, tYes, tUn, rU, tM0, tGFrom, tGThen, tG0, tYfLst, gcxK, tSubO, tProp, tListG, tMethG, tBMF, tFld, sFld, tMeth, tMake, tSl, tNoPart, tPart, tM1, gTup, gCons, gNil, tDrop, tFor_eq, tLc_eq, tLc2_eq, iRng1_eq, StX.tStar, iList, iTup, iStr, iAny_var, iZipB, tLenSetS, wipe, tVar, tAndV, tOrV, tNotV, tOr, tAnd, tLst, tTup, tBM, tBM0, tChain, tCall, cxK, noxK, addII, addSS, mulII, eqII, neII, neSS, cIntI, cAbsI, rI, rI0, rLt, rLe, rGt_, rGe_, rSub_, rMod, rPow, rDivW, rNeg, gName, tRet, L2.start, List.length_cons, List.length_nil, List.map_cons, List.map_nil, List.replicate, List.cons_append, List.nil_append, List.getElem?_cons_zero, List.getElem?_cons_succ, List.set_cons_zero, List.set_cons_succ, Option.some.injEq, exists_eq_left', exists_eq_left, V.int.injEq, V.bl.injEq, V.str.injEq, V.ref.injEq, V.ty.injEq, List.cons.injEq, and_true, true_and, reduceCtorEq, false_and, exists_false, or_false, false_or, exists_and_left, exists_and_right, List.append_nil, forall_eq, decide_eq_true_eq, Bool.not_eq_true, Nat.reduceAdd, Nat.reduceSub, List.replicate_zero, List.replicate_succ, Nat.zero_le, ite_true, ite_false, if_true, if_false])
section
variable {P : Program} {w : World} {K : PySem.W.Frag} {mg : Str → Option Value} {base : Heap}

open UV UW NdefX ClX
variable {R Wr B Pg Sy IC UC IS UP : Addr}
local macro_rules | `(tactic| walk_at "rdx") => `(tactic| simp only [tCons, tNil, tJs, tC, tFmt, tFmtN, tVar, tOst, tSeq, NdefX.startF, L2.start, List.length_cons, List.length_nil, List.map_cons, List.map_nil, List.replicate, List.cons_append, List.nil_append, List.getElem?_cons_zero, List.getElem?_cons_succ, Option.some.injEq, exists_eq_left', exists_eq_left, V.str.injEq, V.int.injEq, V.ref.injEq, reduceCtorEq, false_and, exists_false, or_false, false_or, and_true, true_and, exists_and_left, exists_and_right, Nat.reduceAdd, Nat.reduceSub, Nat.reduceLeDiff, ncK])
abbrev s_IS : Stmt := inClass (top 6) 0
theorem sc_IS : NScope ["self", "name", "__class__"] ["self", "name"] ["__class__"] (defScope s_IS) := nscope_by (by decide +kernel)
def sp_IS : Addr → Sp := fun C vs H Q _ => ∃ (a : Addr) (x0 : Str), vs = [.ref a, .str x0] ∧ H a = some (exo a C none) ∧ PySem.W.findIn K (.ref C) "name" = some none ∧ x0.length ≤ 1000 ∧ x0.length ≤ 1000 ∧ ∀ d, H d = none → d ≠ a → Q .non (upd (upd H d (exd d [(("name" : Str), V.str x0)])) a (exo a C (some d)))
theorem x_IS {C : Addr} (D : XD P K mg C "InvalidSystem" "InvalidSystem.__init__" s_IS) : Xn P w K mg base 1 C "InvalidSystem" (sp_IS (K := K) C) := by
  obtain ⟨f, c, cc, oc, kV, doc, pm, ct, od, an, osl, lk, hcd, F, h1, h2⟩ := D.ex
  refine ⟨⟨f, _, ["self", "name"], fn_sup (N := ["self", "name", "__class__"]) (ps := ["name"]) (pl := _) lk hcd sc_IS D.ox F (by decide +kernel) (fun vs H Q E h => ?_) (fun A outer s H vs Q E hr h => ?_), h1, h2, Binds.all fun us hl => match us, hl with | [_, _], _ => rfl⟩, D.ox, D.gc⟩
  · obtain ⟨a, x0, rfl, _⟩ := h; rfl
  · obtain ⟨a, x0, rfl, ha, hf0, hc0, hd0, q⟩ := h
    refine ⟨a, _, _, rfl, ha, pa_cons (pe_joined (.cons (pe_fmt (pv 1)) (.cons pe_str .nil))) pa_nil, (pss_one (ps_ost (pv 0) (pv 1))), ?_⟩
    walk_at "rdx"
    have ll0 : (Str.ofString " does not fit into the system").length ≤ 200 := by decide +kernel
    have l0 : Str.empty.length = 0 := rfl
    repeat (first | refine ⟨by (simp only [len_app, l0, sizeLine_eq]; omega), ?_⟩)
    exact ⟨ha, C, D.ox, hf0, .inl ⟨ha, fun d hd hda => q d hd hda⟩⟩

abbrev s_UC : Stmt := inClass (top 4) 0
theorem sc_UC : NScope ["self", "cell", "__class__"] ["self", "cell"] ["__class__"] (defScope s_UC) := nscope_by (by decide +kernel)
def sp_UC : Addr → Sp := fun C vs H Q _ => ∃ (a : Addr) (x0 : Str), vs = [.ref a, .str x0] ∧ H a = some (exo a C none) ∧ PySem.W.findIn K (.ref C) "cell" = some none ∧ x0.length ≤ 1000 ∧ x0.length ≤ 1000 ∧ ∀ d, H d = none → d ≠ a → Q .non (upd (upd H d (exd d [(("cell" : Str), V.str x0)])) a (exo a C (some d)))
theorem x_UC {C : Addr} (D : XD P K mg C "UnknownCell" "UnknownCell.__init__" s_UC) : Xn P w K mg base 1 C "UnknownCell" (sp_UC (K := K) C) := by
  obtain ⟨f, c, cc, oc, kV, doc, pm, ct, od, an, osl, lk, hcd, F, h1, h2⟩ := D.ex
  refine ⟨⟨f, _, ["self", "cell"], fn_sup (N := ["self", "cell", "__class__"]) (ps := ["cell"]) (pl := _) lk hcd sc_UC D.ox F (by decide +kernel) (fun vs H Q E h => ?_) (fun A outer s H vs Q E hr h => ?_), h1, h2, Binds.all fun us hl => match us, hl with | [_, _], _ => rfl⟩, D.ox, D.gc⟩
  · obtain ⟨a, x0, rfl, _⟩ := h; rfl
  · obtain ⟨a, x0, rfl, ha, hf0, hc0, hd0, q⟩ := h
    refine ⟨a, _, _, rfl, ha, pa_cons (pe_joined (.cons pe_str (.cons (pe_fmt (pv 1)) .nil))) pa_nil, (pss_one (ps_ost (pv 0) (pv 1))), ?_⟩
    walk_at "rdx"
    have ll0 : (Str.ofString "there is no cell ").length ≤ 200 := by decide +kernel
    have l0 : Str.empty.length = 0 := rfl
    repeat (first | refine ⟨by (simp only [len_app, l0, sizeLine_eq]; omega), ?_⟩)
    exact ⟨ha, C, D.ox, hf0, .inl ⟨ha, fun d hd hda => q d hd hda⟩⟩

abbrev s_UP : Stmt := inClass (top 7) 0
theorem sc_UP : NScope ["self", "name", "__class__"] ["self", "name"] ["__class__"] (defScope s_UP) := nscope_by (by decide +kernel)
def sp_UP : Addr → Sp := fun C vs H Q _ => ∃ (a : Addr) (x0 : Str), vs = [.ref a, .str x0] ∧ H a = some (exo a C none) ∧ PySem.W.findIn K (.ref C) "name" = some none ∧ x0.length ≤ 1000 ∧ x0.length ≤ 1000 ∧ ∀ d, H d = none → d ≠ a → Q .non (upd (upd H d (exd d [(("name" : Str), V.str x0)])) a (exo a C (some d)))
theorem x_UP {C : Addr} (D : XD P K mg C "UnknownProgram" "UnknownProgram.__init__" s_UP) : Xn P w K mg base 1 C "UnknownProgram" (sp_UP (K := K) C) := by
  obtain ⟨f, c, cc, oc, kV, doc, pm, ct, od, an, osl, lk, hcd, F, h1, h2⟩ := D.ex
  refine ⟨⟨f, _, ["self", "name"], fn_sup (N := ["self", "name", "__class__"]) (ps := ["name"]) (pl := _) lk hcd sc_UP D.ox F (by decide +kernel) (fun vs H Q E h => ?_) (fun A outer s H vs Q E hr h => ?_), h1, h2, Binds.all fun us hl => match us, hl with | [_, _], _ => rfl⟩, D.ox, D.gc⟩
  · obtain ⟨a, x0, rfl, _⟩ := h; rfl
  · obtain ⟨a, x0, rfl, ha, hf0, hc0, hd0, q⟩ := h
    refine ⟨a, _, _, rfl, ha, pa_cons (pe_joined (.cons pe_str (.cons (pe_fmt (pv 1)) .nil))) pa_nil, (pss_one (ps_ost (pv 0) (pv 1))), ?_⟩
    walk_at "rdx"
    have ll0 : (Str.ofString "there is no program ").length ≤ 200 := by decide +kernel
    have l0 : Str.empty.length = 0 := rfl
    repeat (first | refine ⟨by (simp only [len_app, l0, sizeLine_eq]; omega), ?_⟩)
    exact ⟨ha, C, D.ox, hf0, .inl ⟨ha, fun d hd hda => q d hd hda⟩⟩

/-- a list or a tuple of the heap -/
def SqW (H : Hp) (a : Addr) (xs : List V) : Prop := Rd H a (.lst xs) ∨ Rd H a (.tup xs)
theorem SqW.sqA {H : Hp} {a : Addr} {xs : List V} (h : SqW H a xs) : SqA K H a xs := h.elim (fun h => ⟨.l, .inl h⟩) fun h => ⟨.t, .inl h⟩
theorem rd_same {H H' : Hp} {a : Addr} {o : HO} (h : Rd H a o) (s : Same H H') : Rd H' a o := h.elim (fun e => .inl (s _ _ e)) fun ⟨ob, e⟩ => .inr ⟨ob, s _ _ e⟩
theorem SqW.same {H H' : Hp} {a : Addr} {xs : List V} (h : SqW H a xs) (s : Same H H') : SqW H' a xs := h.elim (fun h => .inl (rd_same h s)) fun h => .inr (rd_same h s)
theorem rd_ne {H : Hp} {a p : Addr} {o : HO} (h : Rd H a o) (hp : H p = none) : a ≠ p := h.elim (fun e => ne_of_none e hp) fun ⟨_, e⟩ => ne_of_none e hp
theorem SqW.off {H H' : Hp} {a : Addr} {xs : List V} (h : SqW H a xs) (f : ∀ o, H a = some o → H' a = some o) : SqW H' a xs := by
  rcases h with (h | ⟨o, h⟩) | (h | ⟨o, h⟩)
  · exact .inl (.inl (f _ h))
  · exact .inl (.inr ⟨o, f _ h⟩)
  · exact .inr (.inl (f _ h))
  · exact .inr (.inr ⟨o, f _ h⟩)
theorem SqW.some {H : Hp} {a : Addr} {xs : List V} (h : SqW H a xs) : ∃ o, H a = some o ∧ (∀ C d fs, o ≠ .ins C d fs) ∧ ∀ kvs, o ≠ .dK kvs := by
  rcases h with (h | ⟨o, h⟩) | (h | ⟨o, h⟩) <;> exact ⟨_, h, fun _ _ _ z => (nomatch z), fun _ z => nomatch z⟩
theorem Kd.off (k : Kd) {H H' : Hp} {a : Addr} {xs : List V} (h : k.Sq K H a xs) (f : ∀ o, H a = some o → H' a = some o) : k.Sq K H' a xs := by
  cases k with
  | l =>
    rcases h with (h | ⟨o, h⟩) | h
    · exact .inl (.inl (f _ h))
    · exact .inl (.inr ⟨o, f _ h⟩)
    · exact .inr h
  | t =>
    rcases h with (h | ⟨o, h⟩) | h
    · exact .inl (.inl (f _ h))
    · exact .inl (.inr ⟨o, f _ h⟩)
    · exact .inr h
theorem cTupG_any {a : Addr} {xs : List V} {H : Hp} {Q : VK} (h : SqW H a xs) (q : ∀ t H', Rd H' t (.tup xs) → Same H H' → Q (.ref t) H') : cTupG K [.ref a] H Q := by
  rcases h with h | h
  · exact ⟨a, xs, rfl, .inl ⟨.inl h, fun l o hl _ _ => q l _ (.inr ⟨o, upd_same⟩) (UL.Same.new hl)⟩⟩
  · exact ⟨a, xs, rfl, .inr ⟨.inl h, q a H h fun _ _ z => z⟩⟩
/-- an exception with one field, at a later heap -/
def X1 (C : Addr) (f : Str) (v : V) (H : Hp) (E : XK) : Prop := ∀ d H', Same H H' → H' d = some (.xd [(f, v)]) → E (.ref C) (some d) H'
theorem X1.same {C : Addr} {f : Str} {v : V} {H H' : Hp} {E : XK} (h : X1 C f v H E) (s : Same H H') : X1 C f v H' E := fun d H2 s2 e => h d H2 (Same.tr s s2) e
theorem raiseIS {z : Str} {H : Hp} {E : XK} {σ : L2.St} {ta : TA} (x : PySem.W.findIn K (.ref IS) "name" = some none) (hz : z.length ≤ 1000) (hta : ∀ R : List V → Hp → Prop, R [.str z] H → ta σ H R) (h : X1 IS "name" (.str z) H E) : tMkO IS (sp_IS (K := K) IS) [] ta σ H (fun cls d H' => E cls d H') := by
  refine hta _ ⟨by show 1 ≤ 1000; decide, fun e1 he1 => ?_⟩
  refine ⟨e1, z, rfl, upd_same, x, hz, hz, fun d1 hd1 hde1 => ⟨rfl, d1, _, upd_same, by rw [upd_ne hde1, upd_same], by rw [upd_ne hde1] at hd1; exact hd1, ?_⟩⟩
  rw [exg1 he1]
  rw [upd_ne hde1] at hd1
  exact h d1 _ (UL.Same.new hd1) upd_same
theorem raiseUC {z : Str} {H : Hp} {E : XK} {σ : L2.St} {ta : TA} (x : PySem.W.findIn K (.ref UC) "cell" = some none) (hz : z.length ≤ 1000) (hta : ∀ R : List V → Hp → Prop, R [.str z] H → ta σ H R) (h : X1 UC "cell" (.str z) H E) : tMkO UC (sp_UC (K := K) UC) [] ta σ H (fun cls d H' => E cls d H') := by
  refine hta _ ⟨by show 1 ≤ 1000; decide, fun e1 he1 => ?_⟩
  refine ⟨e1, z, rfl, upd_same, x, hz, hz, fun d1 hd1 hde1 => ⟨rfl, d1, _, upd_same, by rw [upd_ne hde1, upd_same], by rw [upd_ne hde1] at hd1; exact hd1, ?_⟩⟩
  rw [exg1 he1]
  rw [upd_ne hde1] at hd1
  exact h d1 _ (UL.Same.new hd1) upd_same
theorem raiseUP {z : Str} {H : Hp} {E : XK} {σ : L2.St} {ta : TA} (x : PySem.W.findIn K (.ref UP) "name" = some none) (hz : z.length ≤ 1000) (hta : ∀ R : List V → Hp → Prop, R [.str z] H → ta σ H R) (h : X1 UP "name" (.str z) H E) : tMkO UP (sp_UP (K := K) UP) [] ta σ H (fun cls d H' => E cls d H') := by
  refine hta _ ⟨by show 1 ≤ 1000; decide, fun e1 he1 => ?_⟩
  refine ⟨e1, z, rfl, upd_same, x, hz, hz, fun d1 hd1 hde1 => ⟨rfl, d1, _, upd_same, by rw [upd_ne hde1, upd_same], by rw [upd_ne hde1] at hd1; exact hd1, ?_⟩⟩
  rw [exg1 he1]
  rw [upd_ne hde1] at hd1
  exact h d1 _ (UL.Same.new hd1) upd_same
end
end U

set_option Elab.async false
set_option linter.all false
set_option maxRecDepth 100000
set_option maxHeartbeats 4000000
/-! all but some addresses -/
namespace UX
open PySem PySem.Spec PyProof.Rows L2 UL UV UW ClX
def SmS (S : List Addr) (H H' : Hp) : Prop := ∀ c o, H c = some o → c ∉ S → H' c = some o
theorem SmS.same {S : List Addr} {H H' : Hp} (s : ∀ b u, H b = some u → H' b = some u) : SmS S H H' := fun c o e _ => s c o e
theorem SmS.tr {S : List Addr} {H H1 H2 : Hp} (a : SmS S H H1) (b : SmS S H1 H2) : SmS S H H2 := fun c o e n => b c o (a c o e n) n
theorem SmS.at_ {S : List Addr} {p : Addr} {H : Hp} {o : HO} (h : p ∈ S) : SmS S H (upd H p o) := fun c u e n => by rw [upd_ne fun z => n (by rw [z]; exact h)]; exact e
theorem SmS.refl {S : List Addr} {H : Hp} : SmS S H H := fun c o e _ => e
theorem SmS.to {S : List Addr} {H H1 H2 : Hp} (a : ∀ b u, H b = some u → H1 b = some u) (b : SmS S H1 H2) (h : ∀ c ∈ S, H c = none) : ∀ b u, H b = some u → H2 b = some u := fun c o e => b c o (a c o e) fun z => by rw [h c z] at e; cases e
end UX

set_option Elab.async false
set_option linter.all false
set_option maxRecDepth 100000
set_option maxHeartbeats 4000000
set_option pp.deepTerms true
set_option pp.maxSteps 400000
namespace U
open PySem PySem.Spec PyProof.Rows L2 UL UX
local macro_rules | `(tactic| walk_at "rd") => `(tactic| simp only [sMatch, tJs, tFmt, tBC, tMethA, tMakeL, iEnumS, tSeq, tAsg, tOp, tCB, tCons, tNil, tVar, tC, tB, tTest, tNot, tIfS, tNext, tYes, tUn, rU, tM0, tGFrom, tGThen, tG0, tYfLst, gcxK, tSubO, tProp, tListG, tMethG, tBMF, tFld, sFld, tMeth, tMake, tSl, tNoPart, tPart, tM1, gTup, gCons, gNil, tDrop, tFor_eq, tLc_eq, tLc2_eq, iRng1_eq, StX.tStar, iList, iTup, iStr, iAny_var, iZipB, tLenSetS, wipe, tVar, tAndV, tOrV, tNotV, tOr, tAnd, tLst, tTup, tBM, tBM0, tChain, tCall, cxK, noxK, addII, addSS, mulII, eqII, neII, neSS, cIntI, cAbsI, rI, rI0, rLt, rLe, rGt_, rGe_, rSub_, rMod, rPow, rDivW, rNeg, gName, tRet, L2.start, List.length_cons, List.length_nil, List.map_cons, List.map_nil, List.replicate, List.cons_append, List.nil_append, List.getElem?_cons_zero, List.getElem?_cons_succ, List.set_cons_zero, List.set_cons_succ, Option.some.injEq, exists_eq_left', exists_eq_left, V.int.injEq, V.bl.injEq, V.str.injEq, V.ref.injEq, V.ty.injEq, List.cons.injEq, and_true, true_and, reduceCtorEq, false_and, exists_false, or_false, false_or, exists_and_left, exists_and_right, List.append_nil, forall_eq, decide_eq_true_eq, Bool.not_eq_true, Nat.reduceAdd, Nat.reduceSub, List.replicate_zero, List.replicate_succ, Nat.zero_le, ite_true, ite_false, if_true, if_false])
section
variable {P : Program} {w : World} {K : PySem.W.Frag} {mg : Str → Option Value} {base : Heap}

open UV UW NdefX ClX
variable {R Wr B Pg Sy IC UC IS UP : Addr}
local macro_rules | `(tactic| walk_at "rq") => `(tactic| (simp only [tDGet, tDIn, tDNotIn, sDPut, LiI.tListItems, tTest, tB]; walk_at "rd"))
structure SyX (K : PySem.W.Frag) (mg : Str → Option Value) (R Wr B Pg Sy IS UC UP : Addr) : Prop extends PT K mg R Wr B Pg where
  cls : Cls K Sy
  s_cells : NoAttr K Sy "cells"
  s_programs : NoAttr K Sy "_programs"
  s_arities : NoAttr K Sy "_arities"
  s_names : NoAttr K Sy "names"
  c_MOST_PROGRAMS : ∃ u, mg "MOST_PROGRAMS" = some u ∧ RelV (.int 4) u
  naIS : PySem.W.findIn K (.ref IS) "name" = some none
  naUC : PySem.W.findIn K (.ref UC) "cell" = some none
  naUP : PySem.W.findIn K (.ref UP) "name" = some none
inductive Er where
  | cell (c : Str)
  | sys (n : Str)
/-- the exception of a system that is refused, at a heap that is the same but at S -/
def XE (IS UC : Addr) (S : List Addr) (H : Hp) (E : XK) : Er → Prop
  | .cell c => ∀ d H', SmS S H H' → H' d = some (.xd [("cell", .str c)]) → E (.ref UC) (some d) H'
  | .sys n => ∀ d H', SmS S H H' → H' d = some (.xd [("name", .str n)]) → E (.ref IS) (some d) H'
theorem XE.sm {S : List Addr} {H H' : Hp} {E : XK} {e : Er} (h : XE IS UC S H E e) (s : SmS S H H') : XE IS UC S H' E e := match e, h with
  | .cell _, h => fun d H2 s2 x => h d H2 (SmS.tr s s2) x
  | .sys _, h => fun d H2 s2 x => h d H2 (SmS.tr s s2) x
theorem XE.x1s {S : List Addr} {H : Hp} {E : XK} {n : Str} (h : XE IS UC S H E (.sys n)) : X1 IS "name" (.str n) H E := fun d H' s e => h d H' (SmS.same s) e
theorem XE.x1c {S : List Addr} {H : Hp} {E : XK} {n : Str} (h : XE IS UC S H E (.cell n)) : X1 UC "cell" (.str n) H E := fun d H' s e => h d H' (SmS.same s) e
def valA {α : Type} (xs : List (Str × α)) (f : Str) : Option α := (xs.find? fun q => decide (q.1 = f)).map (·.2)
def pk (ps : List (Str × Addr)) : List (Key × V) := ps.map fun q => (Sum.inr q.1, V.ref q.2)
def ak (as : List (Str × Nat)) : List (Key × V) := as.map fun q => (Sum.inr q.1, V.int q.2)
def takeF (as : List (Str × Nat)) (f : Str) (n : Nat) : Except Er (List (Str × Nat)) := match valA as f with
  | none => .ok (as ++ [(f, n)])
  | some m => if m = n then .ok as else .error (.sys f)
theorem valV_ak (as : List (Str × Nat)) (f : Str) : valV (ak as) (Sum.inr f) = (valA as f).map fun n => V.int (n : Nat) := by
  induction as with
  | nil => rfl
  | cons q r ih =>
    by_cases e : q.1 = f
    · show valV ((Sum.inr q.1, V.int q.2) :: ak r) (Sum.inr f) = _
      rw [valV_pos (show (Sum.inr q.1 : Key) = Sum.inr f by rw [e])]
      simp [valA, List.find?_cons, e]
    · show valV ((Sum.inr q.1, V.int q.2) :: ak r) (Sum.inr f) = _
      rw [valV_neg (show ¬ (Sum.inr q.1 : Key) = Sum.inr f from fun h => e (Sum.inr.inj h)), ih]
      simp [valA, List.find?_cons, e]
theorem valV_pk (as : List (Str × Addr)) (f : Str) : valV (pk as) (Sum.inr f) = (valA as f).map fun n => V.ref n := by
  induction as with
  | nil => rfl
  | cons q r ih =>
    by_cases e : q.1 = f
    · show valV ((Sum.inr q.1, V.ref q.2) :: pk r) (Sum.inr f) = _
      rw [valV_pos (show (Sum.inr q.1 : Key) = Sum.inr f by rw [e])]
      simp [valA, List.find?_cons, e]
    · show valV ((Sum.inr q.1, V.ref q.2) :: pk r) (Sum.inr f) = _
      rw [valV_neg (show ¬ (Sum.inr q.1 : Key) = Sum.inr f from fun h => e (Sum.inr.inj h)), ih]
      simp [valA, List.find?_cons, e]
theorem putK_new {α : Type} [DecidableEq α] {kvs : List (α × V)} {k : α} {v : V} (h : valV kvs k = none) : putK kvs k v = kvs ++ [(k, v)] := by
  unfold putK
  rw [if_neg (by rw [valV_any, h]; decide)]
abbrev sysM : List Str := ["_take_program", "_take_step", "_take_function", "program_named", "functions", "known", "check_programs"]
/-- the parts of a system that its methods read and write -/
structure Yo (H : Hp) (Sy y : Addr) (cs : List Str) (pd ad : Addr) (ps : List (Str × Addr)) (as : List (Str × Nat)) : Prop where
  ex : ∃ (dy c : Addr) (fs : List (Str × V)), H y = some (.ins Sy dy fs) ∧ fs.lookup ("cells" : Str) = some (.ref c) ∧ Rd H c (.tup (cs.map V.str)) ∧ fs.lookup ("_programs" : Str) = some (.ref pd) ∧ fs.lookup ("_arities" : Str) = some (.ref ad) ∧ ∀ m ∈ sysM, fs.lookup m = none
  hp : H pd = some (.dK (pk ps))
  ha : H ad = some (.dK (ak as))
  ne : pd ≠ ad
theorem Yo.same {H H' : Hp} {y : Addr} {cs : List Str} {pd ad : Addr} {ps : List (Str × Addr)} {as : List (Str × Nat)} (h : Yo H Sy y cs pd ad ps as) (s : Same H H') : Yo H' Sy y cs pd ad ps as := by
  obtain ⟨⟨dy, c, fs, h1, h2, h3, h4, h5, h9⟩, h6, h7, h8⟩ := h
  exact ⟨⟨dy, c, fs, s _ _ h1, h2, rd_same h3 s, h4, h5, h9⟩, s _ _ h6, s _ _ h7, h8⟩
theorem Yo.put {H : Hp} {y : Addr} {cs : List Str} {pd ad : Addr} {ps : List (Str × Addr)} {as as' : List (Str × Nat)} (h : Yo H Sy y cs pd ad ps as) : Yo (upd H ad (.dK (ak as'))) Sy y cs pd ad ps as' := by
  obtain ⟨⟨dy, c, fs, h1, h2, h3, h4, h5, h9⟩, h6, h7, h8⟩ := h
  refine ⟨⟨dy, c, fs, by rw [upd_ne fun e => by rw [e, h7] at h1; cases h1]; exact h1, h2, ?_, h4, h5, h9⟩, by rw [upd_ne h8]; exact h6, upd_same, h8⟩
  rcases h3 with e | ⟨o, e⟩
  · exact .inl (by rw [upd_ne fun z => by rw [z, h7] at e; cases e]; exact e)
  · exact .inr ⟨o, by rw [upd_ne fun z => by rw [z, h7] at e; cases e]; exact e⟩
abbrev s_System__take_function : Stmt := inClass (top 33) 3
abbrev sc_System__take_function_N : List Str := ["self", "function", "number"]
theorem sc_System__take_function : FnScope sc_System__take_function_N ["self", "function", "number"] (defScope s_System__take_function) := ⟨rfl, rfl, rfl, by decide +kernel, rfl, by decide +kernel, by decide +kernel⟩
-- 0 self, 1 function, 2 number
def sp_takeF (Sy IS UC : Addr) : Sp := fun vs H Q E => ∃ (y pd ad : Addr) (f : Str) (n : Nat) (cs : List Str) (ps : List (Str × Addr)) (as : List (Str × Nat)), vs = [.ref y, .str f, .int n] ∧ Yo H Sy y cs pd ad ps as ∧ f.length ≤ 1000 ∧ as.length ≤ 100 ∧
  (∀ as' H', takeF as f n = .ok as' → Yo H' Sy y cs pd ad ps as' → SmS [ad] H H' → Q .non H') ∧ (∀ e, takeF as f n = .error e → XE IS UC [pd, ad] H E e)
theorem m_takeF (T : SyX K mg R Wr B Pg Sy IS UC UP) (D : MD K Sy "_take_function" "System._take_function" s_System__take_function) (x_InvalidSystem : Xn P w K mg base 1 IS "InvalidSystem" (sp_IS (K := K) IS)) : Mn P w K mg base (L2.CX P w) 3 Sy "_take_function" (sp_takeF Sy IS UC) := by
  refine D.mx sc_System__take_function (fun _ _ _ _ _ _ us hl => match us, hl with | [_, _, _], _ => rfl) (fun vs H Q E h => ?_) (fun f cdv A outer s H vs Q E hr h => ?_)
  · obtain ⟨y, pd, ad, f, n, cs, ps, as, rfl, _⟩ := h; rfl
  · obtain ⟨y, pd, ad, f, n, cs, ps, as, rfl, hy, hf, hn, q, qx⟩ := h
    refine ⟨_, (pss_one (ps_if (pt_cmpR (op_neA (hr.units)) (pe_bm PySem.F.plainAttrs_dict PySem.F.slot_dict_setdefault PySem.F.type_dict_setdefault mt_setd (pe_fld (pv 0) (by rfl)) (pa_cons (pv 1) (pa_cons (pv 2) pa_nil))) (pv 2) (nomark _)) (pss_one (ps_raise rfl (takes_of rfl rfl rfl rfl) (pmk_x x_InvalidSystem hr (by decide) (by rfl) (pa_cons (pv 1) pa_nil)))) pss_nil)), ?_⟩
    walk_at "rd"
    obtain ⟨⟨dy, c, fs, h1, h2, h3, h4, h5, h9⟩, h6, h7, h8⟩ := id hy
    have la : (ak as).length = as.length := List.length_map _
    refine ⟨Sy, dy, fs, h1, T.cls, T.s_arities, .ref ad, h5, .inr (.inr (.inl ⟨rfl, .inl ⟨_, h7⟩⟩)), ad, ak as, Sum.inr f, .int n, rfl, rfl, h7, by rw [la, sizeLine_eq]; omega, fun u hu => ?_, fun hn0 => ?_⟩
    · rw [valV_ak] at hu
      cases hv : valA as f with
      | none => rw [hv] at hu; cases hu
      | some m =>
        rw [hv] at hu
        cases hu
        refine neII.mpr ⟨_, rfl, ?_⟩
        by_cases e : m = n
        · rw [if_neg (by simp [e])]
          exact q as H (by unfold takeF; rw [hv]; exact if_pos e) hy SmS.refl
        · rw [if_pos (by simp; omega)]
          exact raiseIS T.naIS hf (fun R r => ⟨_, rfl, r⟩) (XE.x1s (qx (.sys f) (by unfold takeF; rw [hv]; exact if_neg e)))
    · have hv : valA as f = none := by
        rw [valV_ak] at hn0
        cases hv : valA as f with
        | none => rfl
        | some m => rw [hv] at hn0; cases hn0
      refine neII.mpr ⟨_, rfl, ?_⟩
      rw [if_neg (by simp), putK_new hn0]
      have e : ak as ++ [(Sum.inr f, V.int (n : Nat))] = ak (as ++ [(f, n)]) := by unfold ak; rw [List.map_append]; rfl
      rw [e]
      exact q _ _ (by unfold takeF; rw [hv]) hy.put (SmS.at_ List.mem_cons_self)
/-- the function that a step applies, and its arguments -/
def Sk.fn : Sk → Option (Str × List Str)
  | .rd .. => none
  | .wr _ f xs | .rw _ _ _ f xs => some (f, xs)
def takeS (cs : List Str) (as : List (Str × Nat)) (k : Sk) : Except Er (List (Str × Nat)) := match (k.src ++ k.tgt).find? fun c => decide (c ∉ cs) with
  | some c => .error (.cell c)
  | none => match k.fn with
    | none => .ok as
    | some (f, xs) => takeF as f xs.length
theorem flatS (xs : List Str) : (xs.map V.str).all flatV = true := by
  rw [List.all_eq_true]; intro x hx; obtain ⟨z, _, rfl⟩ := List.mem_map.mp hx; rfl
theorem small_io {k : Sk} (h : k.small) : ∀ c ∈ k.src ++ k.tgt, c.length ≤ 1000 := by
  cases k with
  | rd s l => intro c hc; simp only [Sk.src, Sk.tgt, List.append_nil, List.mem_singleton] at hc; rw [hc]; exact h.1
  | wr t f xs => intro c hc; simp only [Sk.src, Sk.tgt, List.nil_append, List.mem_singleton] at hc; rw [hc]; exact h.1
  | rw s l t f xs =>
    intro c hc
    simp only [Sk.src, Sk.tgt, List.mem_append, List.mem_singleton] at hc
    rcases hc with rfl | rfl
    · exact h.1.1
    · exact h.2.1
theorem io_len (k : Sk) : k.src.length ≤ 1 ∧ k.tgt.length ≤ 1 := by cases k <;> exact ⟨by simp [Sk.src], by simp [Sk.tgt]⟩
theorem find_at {l : List Str} {p : Str → Bool} {i : Nat} {c : Str} (h : l[i]? = some c) (hp : p c = true) (hb : ∀ d ∈ l.take i, p d = false) : l.find? p = some c := by
  have hi : i < l.length := (List.getElem?_eq_some_iff.mp h).1
  have e : l = l.take i ++ c :: l.drop (i + 1) := by
    have e2 : l.drop i = c :: l.drop (i + 1) := by
      rw [List.drop_eq_getElem_cons hi]
      rw [List.getElem?_eq_getElem hi] at h
      rw [Option.some.inj h]
    rw [← e2, List.take_append_drop]
  rw [e, List.find?_append, List.find?_eq_none.mpr (fun d hd => by simp [hb d hd])]
  simp [List.find?_cons, hp]
abbrev s_System__take_step : Stmt := inClass (top 33) 2
abbrev sc_System__take_step_N : List Str := ["self", "step", "cell"]
theorem sc_System__take_step : FnScope sc_System__take_step_N ["self", "step"] (defScope s_System__take_step) := ⟨rfl, rfl, rfl, by decide +kernel, rfl, by decide +kernel, by decide +kernel⟩
-- 0 self, 1 step, 2 cell
def sp_takeS (R Wr B Sy IS UC : Addr) : Sp := fun vs H Q E => ∃ (y pd ad t : Addr) (k : Sk) (cs : List Str) (ps : List (Str × Addr)) (as : List (Str × Nat)), vs = [.ref y, .ref t] ∧ Yo H Sy y cs pd ad ps as ∧ StA H R Wr B t k ∧ k.small ∧ cs.length ≤ 100 ∧ as.length ≤ 100 ∧
  (∀ as' H', takeS cs as k = .ok as' → Yo H' Sy y cs pd ad ps as' → SmS [pd, ad] H H' → Q .non H') ∧ (∀ e, takeS cs as k = .error e → XE IS UC [pd, ad] H E e)
theorem m_takeS (ap : Ap R Wr B) (T : SyX K mg R Wr B Pg Sy IS UC UP) (D : MD K Sy "_take_step" "System._take_step" s_System__take_step) (x_UnknownCell : Xn P w K mg base 1 UC "UnknownCell" (sp_UC (K := K) UC)) (A_reads : ∀ C s, Fam R Wr B (sp_reads R Wr B) C s → Mn P w K mg base CX0 1 C "reads" s ∧ Cls K C) (A_writes : ∀ C s, Fam R Wr B (sp_writes R Wr B) C s → Mn P w K mg base CX0 1 C "writes" s ∧ Cls K C)
    (m__take_function : Mn P w K mg base (L2.CX P w) 3 Sy "_take_function" (sp_takeF Sy IS UC)) : Mn P w K mg base (L2.CX P w) 5 Sy "_take_step" (sp_takeS R Wr B Sy IS UC) := by
  refine D.mx sc_System__take_step (fun _ _ _ _ _ _ us hl => match us, hl with | [_, _], _ => rfl) (fun vs H Q E h => ?_) (fun f cdv A outer s H vs Q E hr h => ?_)
  · obtain ⟨y, pd, ad, t, k, cs, ps, as, rfl, _⟩ := h; rfl
  · obtain ⟨y, pd, ad, t, k, cs, ps, as, rfl, hy, ht, hk, hc, hn, q, qx⟩ := h
    refine ⟨_, (pss_cons (ps_for (passes_of rfl) rfl (pi_tup (pe_op op_addA (pe_mA (i := 1) A_reads hr (by decide) (pv 1)) (pe_mA (i := 1) A_writes hr (by decide) (pv 1)))) (pg_name (i := 2) sc_System__take_step.nd rfl (Or.inl rfl)) (pss_one (ps_if (pt_cmpR op_ninA (pv 2) (pe_fld (pv 0) (by rfl)) (by with_unfolding_all rfl)) (pss_one (ps_raise rfl (takes_of rfl rfl rfl rfl) (pmk_x x_UnknownCell hr (by decide) (by rfl) (pa_cons (pv 2) pa_nil)))) pss_nil)))
      (pss_one (ps_if (pt_val (pe_callB call_isi (by rfl) T.n_isinstance (by decide +kernel) (pa_cons (pv 1) (pa_cons (C8.pe_gc (by rfl) T.c_Write) pa_nil)))) (pss_one (ps_expr (pe_m m__take_function T.cls hr (by decide) (passes_call (takes_of rfl rfl rfl rfl) (fun _ _ _ _ h => h)) (pv 0) (pa_cons (pe_fld (pv 1) (by rfl)) (pa_cons (pe_callB call_lenA (by rfl) T.n_len (by decide +kernel) (pa_cons (pe_fld (pv 1) (by rfl)) pa_nil)) pa_nil))))) pss_nil))), ?_⟩
    walk_at "rd"
    obtain ⟨⟨dy, cc, fs, h1, h2, h3, h4, h5, h9⟩, h6, h7, h8⟩ := id hy
    obtain ⟨dx1, fs1, e1, lk1, lk2, lk3⟩ := StA.ins ht
    obtain ⟨il, ol⟩ := io_len k
    refine ⟨k.cls R Wr B, _, ⟨Sk.cls3 k, rfl⟩, dx1, fs1, e1, lk2, t, k, rfl, rfl, ht, fun r1 H1 hr1 s1 => ⟨k.cls R Wr B, _, ⟨Sk.cls3 k, rfl⟩, dx1, fs1, s1 _ _ e1, lk3, t, k, rfl, rfl, StA.same s1 ht, fun r2 H2 hr2 s2 => ?_⟩⟩
    have hr1 := s2 _ _ hr1
    have s12 : Same H H2 := Same.tr s1 s2
    have fin : ∀ (σ : L2.St) (H3 : Hp) (z : Option V), Same H H3 → (k.src ++ k.tgt).find? (fun c => decide (c ∉ cs)) = none → (tIfS (tB (tCB (rIsi K) (tCons (tVar 1) (tCons (tC (V.ref Wr)) tNil)))) (tDrop (tMeth Sy (Str.ofString "_take_function") (sp_takeF Sy IS UC) [] E (tVar 0) (tCons (tFld K (tVar 1) (Str.ofString "function")) (tCons (tCB (cLen K) (tCons (tFld K (tVar 1) (Str.ofString "arguments")) tNil)) tNil)))) tNext) { nx := fun x H' => Q V.non H', rt := Q } [some (V.ref y), some (V.ref t), z] H3 := fun σ H3 z s3 hf => by
      have hy3 := hy.same s3
      obtain ⟨⟨dy, cc, fs, h1, h2, h3, h4, h5, h9⟩, h6, h7, h8⟩ := id hy3
      walk_at "rd"
      cases k with
      | rd a l =>
        obtain ⟨dx, e⟩ := StA.same s3 ht
        refine ⟨_, _, _, _, _, rfl, .own Wr, T.iR.ty T.cR e, T.kRW, ⟨false, rfl, ?_⟩⟩
        rw [if_neg (by decide)]
        exact q as H3 (by unfold takeS; rw [hf]; rfl) hy3 (SmS.same s3)
      | wr t0 f0 xs =>
        obtain ⟨dx, p, e, ft⟩ := StA.same s3 ht
        refine ⟨_, _, _, _, _, rfl, .own Wr, T.iW.ty T.cW e, T.kWW, ⟨true, rfl, ?_⟩⟩
        rw [if_pos rfl]
        refine ⟨dy, fs, h1, h9 _ (by decide +kernel), Wr, dx, _, e, T.cW, T.aW_function, .str f0, rfl, Wr, dx, _, e, T.cW, T.aW_arguments, .ref p, rfl, lenT (FT.sq ft) ⟨y, pd, ad, f0, xs.length, cs, ps, as, by rw [List.length_map], hy3, hk.2.1, hn, fun as' H' ht' hy' s' => q as' H' (by unfold takeS; rw [hf]; exact ht') hy' (SmS.tr (SmS.same s3) fun c o e n => s' c o e fun z => n (by rw [List.mem_singleton.mp z]; simp)), fun er he => (qx er (by unfold takeS; rw [hf]; exact he)).sm (SmS.same s3)⟩⟩
      | rw a l t0 f0 xs =>
        obtain ⟨dx, p, e, ft⟩ := StA.same s3 ht
        refine ⟨_, _, _, _, _, rfl, .own Wr, T.iB.ty T.cB e, T.kBW, ⟨true, rfl, ?_⟩⟩
        rw [if_pos rfl]
        refine ⟨dy, fs, h1, h9 _ (by decide +kernel), B, dx, _, e, T.cB, T.aB_function, .str f0, rfl, B, dx, _, e, T.cB, T.aB_arguments, .ref p, rfl, lenT (FT.sq ft) ⟨y, pd, ad, f0, xs.length, cs, ps, as, by rw [List.length_map], hy3, hk.2.2.1, hn, fun as' H' ht' hy' s' => q as' H' (by unfold takeS; rw [hf]; exact ht') hy' (SmS.tr (SmS.same s3) fun c o e n => s' c o e fun z => n (by rw [List.mem_singleton.mp z]; simp)), fun er he => (qx er (by unfold takeS; rw [hf]; exact he)).sm (SmS.same s3)⟩⟩
    have lop : ∀ (a : Addr) (H3 : Hp), SqT K H3 a ((k.src ++ k.tgt).map V.str) → Same H H3 → ∃ a', V.ref a = V.ref a' ∧ (∃ xs, SqT K H3 a' xs) ∧ FJ (Itt K a') (gName 2) (tIfS (tTest (tOp (rNInA K) (tVar 2) (tFld K (tVar 0) (Str.ofString "cells")))) (fun x σ H => tMkO UC (sp_UC (K := K) UC) [] (tCons (tVar 2) tNil) σ H fun cls d H' => E cls d H') tNext) { nx := tIfS (tB (tCB (rIsi K) (tCons (tVar 1) (tCons (tC (V.ref Wr)) tNil)))) (tDrop (tMeth Sy (Str.ofString "_take_function") (sp_takeF Sy IS UC) [] E (tVar 0) (tCons (tFld K (tVar 1) (Str.ofString "function")) (tCons (tCB (cLen K) (tCons (tFld K (tVar 1) (Str.ofString "arguments")) tNil)) tNil)))) tNext { nx := fun x H' => Q V.non H', rt := Q }, rt := Q } [some (V.ref y), some (V.ref t), none] H3 := fun a H3 ha s3 => by
      refine ⟨a, rfl, ⟨_, ha⟩, FJ.tup (fun i σ' H' => (∃ z, σ' = [some (.ref y), some (.ref t), z]) ∧ H' = H3 ∧ ∀ d ∈ (k.src ++ k.tgt).take i, d ∈ cs) ⟨⟨_, rfl⟩, rfl, fun d hd => absurd hd (by simp)⟩ (fun i σ' H' _ inv => by rw [inv.2.1]; exact ha) (fun i x σ' H' hx inv => ?_) fun σ' H' inv => ?_⟩
      · obtain ⟨⟨z, rfl⟩, rfl, hin⟩ := inv
        walk_at "rd"
        rw [List.getElem?_map] at hx
        cases hc0 : (k.src ++ k.tgt)[i]? with
        | none => rw [hc0] at hx; cases hx
        | some c0 =>
          rw [hc0] at hx
          cases hx
          have hm : c0 ∈ k.src ++ k.tgt := List.mem_of_getElem? hc0
          obtain ⟨⟨dy, cc, fs, h1, h2, h3, h4, h5, h9⟩, h6, h7, h8⟩ := hy.same s3
          refine ⟨Sy, dy, fs, h1, T.cls, T.s_cells, .ref cc, h2, .inr ⟨cc, cs.map V.str, rfl, .inr (.inl h3), rfl, flatS cs, ?_⟩⟩
          rw [if_pos rfl, inV_str]
          refine ⟨_, rfl, ?_⟩
          by_cases e : c0 ∈ cs
          · rw [if_neg (by simp [e])]
            refine ⟨⟨_, rfl⟩, rfl, fun d hd => ?_⟩
            rw [List.take_add_one, hc0] at hd
            rcases List.mem_append.mp hd with h | h
            · exact hin d h
            · rw [show d = c0 by simpa using h]; exact e
          · rw [if_pos (by simp [e])]
            refine raiseUC T.naUC (small_io hk _ hm) (fun R r => ⟨_, rfl, r⟩) (XE.x1c ((qx (.cell c0) ?_).sm (SmS.same s3)))
            unfold takeS
            rw [find_at hc0 (by simp [e]) (fun d hd => by simp [hin d hd])]
      · obtain ⟨⟨z, rfl⟩, rfl, hin⟩ := inv
        rw [List.length_map, List.take_length] at hin
        exact fin [] _ z s3 (List.find?_eq_none.mpr fun d hd => by simp [hin d hd])
    refine .inr (.inr (.inl ⟨r1, r2, k.src.map V.str, k.tgt.map V.str, rfl, rfl, .inl (.inl hr1), .inl (.inl hr2), by rw [List.length_map, List.length_map, sizeLine_eq]; omega, fun e => ?_, fun e e2 => ?_, fun e e2 p hp => ?_⟩))
    · exact lop r2 H2 (by rw [List.map_append, e]; exact .inl (.inl hr2)) s12
    · exact lop r1 H2 (by rw [List.map_append, e2, List.append_nil]; exact .inl (.inl hr1)) s12
    · exact lop p _ (by rw [List.map_append]; exact .inl (.inl upd_same)) (Same.tr s12 (UL.Same.new hp))
def takeSs (cs : List Str) : List (Str × Nat) → List Sk → Except Er (List (Str × Nat))
  | as, [] => .ok as
  | as, k :: r => match takeS cs as k with
    | .error e => .error e
    | .ok as' => takeSs cs as' r
theorem takeSs_app (cs : List Str) : ∀ (xs ys : List Sk) (as : List (Str × Nat)), takeSs cs as (xs ++ ys) = match takeSs cs as xs with
    | .error e => .error e
    | .ok as' => takeSs cs as' ys
  | [], _, _ => rfl
  | k :: r, ys, as => by
    show (match takeS cs as k with | .error e => Except.error e | .ok as' => takeSs cs as' (r ++ ys)) = match (match takeS cs as k with | .error e => Except.error e | .ok as' => takeSs cs as' r) with | .error e => Except.error e | .ok as' => takeSs cs as' ys
    cases takeS cs as k with
    | error e => rfl
    | ok a => exact takeSs_app cs r ys a
theorem takeF_len {as as' : List (Str × Nat)} {f : Str} {n : Nat} (h : takeF as f n = .ok as') : as'.length ≤ as.length + 1 := by
  unfold takeF at h
  cases hv : valA as f with
  | none => rw [hv] at h; cases h; rw [List.length_append]; exact Nat.le_refl _
  | some m =>
    rw [hv] at h
    by_cases e : m = n
    · simp only [if_pos e] at h; cases h; omega
    · simp only [if_neg e] at h; cases h
theorem takeS_len {cs : List Str} {as as' : List (Str × Nat)} {k : Sk} (h : takeS cs as k = .ok as') : as'.length ≤ as.length + 1 := by
  unfold takeS at h
  cases hf : (k.src ++ k.tgt).find? fun c => decide (c ∉ cs) with
  | some c => rw [hf] at h; cases h
  | none =>
    rw [hf] at h
    cases hk : k.fn with
    | none => rw [hk] at h; cases h; omega
    | some q => rw [hk] at h; exact takeF_len h
/-- the program at a -/
def PgA (H : Hp) (R Wr B Pg a : Addr) (n : Str) (ks : List Sk) : Prop := ∃ (dx p : Addr) (ts : List Addr), H a = some (.ins Pg dx (fsP n p)) ∧ FT H p (ts.map V.ref) ∧ Paired (fun t k => StA H R Wr B t k) ts ks
theorem StA.sms {S : List Addr} {H H' : Hp} {a : Addr} {k : Sk} (h : StA H R Wr B a k) (s : SmS S H H') (hs : ∀ c ∈ S, ∃ kvs, H c = some (.dK kvs)) : StA H' R Wr B a k := by
  have off : ∀ c o, H c = some o → (∀ kvs, o ≠ .dK kvs) → H' c = some o := fun c o e n => s c o e fun z => by
    obtain ⟨kvs, e2⟩ := hs c z
    rw [e] at e2
    exact n kvs (Option.some.inj e2)
  cases k with
  | rd s l => obtain ⟨dx, e⟩ := h; exact ⟨dx, off _ _ e (fun _ z => nomatch z)⟩
  | wr t f xs => obtain ⟨dx, p, e, o, e2, d⟩ := h; exact ⟨dx, p, off _ _ e (fun _ z => nomatch z), o, off _ _ e2 (fun _ z => nomatch z), d⟩
  | rw s l t f xs => obtain ⟨dx, p, e, o, e2, d⟩ := h; exact ⟨dx, p, off _ _ e (fun _ z => nomatch z), o, off _ _ e2 (fun _ z => nomatch z), d⟩
theorem PgA.sms {S : List Addr} {H H' : Hp} {a : Addr} {n : Str} {ks : List Sk} (h : PgA H R Wr B Pg a n ks) (s : SmS S H H') (hs : ∀ c ∈ S, ∃ kvs, H c = some (.dK kvs)) : PgA H' R Wr B Pg a n ks := by
  have off : ∀ c o, H c = some o → (∀ kvs, o ≠ .dK kvs) → H' c = some o := fun c o e n => s c o e fun z => by
    obtain ⟨kvs, e2⟩ := hs c z
    rw [e] at e2
    exact n kvs (Option.some.inj e2)
  obtain ⟨dx, p, ts, e, ⟨o, e2, d⟩, pr⟩ := h
  exact ⟨dx, p, ts, off _ _ e (fun _ z => nomatch z), ⟨o, off _ _ e2 (fun _ z => nomatch z), d⟩, L2.Paired.mapP pr fun _ _ g => StA.sms g s hs⟩
def takeP (cs : List Str) (ps : List (Str × Addr)) (as : List (Str × Nat)) (n : Str) (ks : List Sk) : Except Er (List (Str × Nat)) := if ps.length = 4 ∨ (valA ps n).isSome = true then .error (.sys n) else takeSs cs as ks
theorem Yo.dks {H : Hp} {y : Addr} {cs : List Str} {pd ad : Addr} {ps : List (Str × Addr)} {as : List (Str × Nat)} (h : Yo H Sy y cs pd ad ps as) : ∀ c ∈ [pd, ad], ∃ kvs, H c = some (.dK kvs) := fun c hc => by
  simp only [List.mem_cons, List.not_mem_nil, or_false] at hc
  rcases hc with rfl | rfl
  · exact ⟨_, h.hp⟩
  · exact ⟨_, h.ha⟩
theorem Yo.putp {H : Hp} {y : Addr} {cs : List Str} {pd ad : Addr} {ps ps' : List (Str × Addr)} {as : List (Str × Nat)} (h : Yo H Sy y cs pd ad ps as) : Yo (upd H pd (.dK (pk ps'))) Sy y cs pd ad ps' as := by
  obtain ⟨⟨dy, c, fs, h1, h2, h3, h4, h5, h9⟩, h6, h7, h8⟩ := h
  refine ⟨⟨dy, c, fs, by rw [upd_ne fun e => by rw [e, h6] at h1; cases h1]; exact h1, h2, ?_, h4, h5, h9⟩, upd_same, by rw [upd_ne (Ne.symm h8)]; exact h7, h8⟩
  rcases h3 with e | ⟨o, e⟩
  · exact .inl (by rw [upd_ne fun z => by rw [z, h6] at e; cases e]; exact e)
  · exact .inr ⟨o, by rw [upd_ne fun z => by rw [z, h6] at e; cases e]; exact e⟩
theorem paired_len {α β : Type} {F : α → β → Prop} : ∀ {l : List α} {m : List β}, Paired F l m → l.length = m.length
  | [], [], _ => rfl
  | _ :: _, _ :: _, .cons _ r => congrArg (· + 1) (paired_len r)
abbrev s_System__take_program : Stmt := inClass (top 33) 1
abbrev sc_System__take_program_N : List Str := ["self", "program", "step"]
theorem sc_System__take_program : FnScope sc_System__take_program_N ["self", "program"] (defScope s_System__take_program) := ⟨rfl, rfl, rfl, by decide +kernel, rfl, by decide +kernel, by decide +kernel⟩
-- 0 self, 1 program, 2 step
def sp_takeP (R Wr B Pg Sy IS UC : Addr) : Sp := fun vs H Q E => ∃ (y pd ad a : Addr) (n : Str) (ks : List Sk) (cs : List Str) (ps : List (Str × Addr)) (as : List (Str × Nat)), vs = [.ref y, .ref a] ∧ Yo H Sy y cs pd ad ps as ∧ PgA H R Wr B Pg a n ks ∧ (∀ k ∈ ks, k.small) ∧ ks.length ≤ 8 ∧ n.length ≤ 1000 ∧ cs.length ≤ 100 ∧ as.length ≤ 64 ∧ ps.length ≤ 4 ∧
  (∀ as' H', takeP cs ps as n ks = .ok as' → Yo H' Sy y cs pd ad (ps ++ [(n, a)]) as' → as'.length ≤ as.length + ks.length → SmS [pd, ad] H H' → Q .non H') ∧ (∀ e, takeP cs ps as n ks = .error e → XE IS UC [pd, ad] H E e)
theorem m_takeP (T : SyX K mg R Wr B Pg Sy IS UC UP) (D : MD K Sy "_take_program" "System._take_program" s_System__take_program) (x_InvalidSystem : Xn P w K mg base 1 IS "InvalidSystem" (sp_IS (K := K) IS)) (m__take_step : Mn P w K mg base (L2.CX P w) 5 Sy "_take_step" (sp_takeS R Wr B Sy IS UC)) :
    Mn P w K mg base (L2.CX P w) 7 Sy "_take_program" (sp_takeP R Wr B Pg Sy IS UC) := by
  refine D.mx sc_System__take_program (fun _ _ _ _ _ _ us hl => match us, hl with | [_, _], _ => rfl) (fun vs H Q E h => ?_) (fun f cdv A outer s H vs Q E hr h => ?_)
  · obtain ⟨y, pd, ad, a, n, ks, cs, ps, as, rfl, _⟩ := h; rfl
  · obtain ⟨y, pd, ad, a, n, ks, cs, ps, as, rfl, hy, hg, hk, hkl, hn, hc, hal, hpl, q, qx⟩ := h
    refine ⟨_, (pss_cons (ps_if (pw_or (pt_cmpR (op_eqA (hr.units)) (pe_callB call_lenF (by rfl) T.n_len (by decide +kernel) (pa_cons (pe_fld (pv 0) (by rfl)) pa_nil)) (C8.pe_gc (by rfl) T.c_MOST_PROGRAMS) (nomark _)) (pw_or1 (pt_cmp (pc_din (un1 hr.units) (pe_fld (pv 1) (by rfl)) (pe_fld (pv 0) (by rfl))) (by with_unfolding_all rfl)))).pt (pss_one (ps_raise rfl (takes_of rfl rfl rfl rfl) (pmk_x x_InvalidSystem hr (by decide) (by rfl) (pa_cons (pe_fld (pv 1) (by rfl)) pa_nil)))) pss_nil)
      (pss_cons (ps_for (passes_of rfl) rfl (pi_tup (pe_fld (pv 1) (by rfl))) (pg_name (i := 2) sc_System__take_program.nd rfl (Or.inl rfl)) (pss_one (ps_expr (pe_m m__take_step T.cls hr (by decide) (passes_call (takes_of rfl rfl rfl rfl) (fun _ _ _ _ h => h)) (pv 0) (pa_cons (pv 2) pa_nil)))))
      (pss_one (ps_dput (un1 hr.units) (pe_fld (pv 0) (by rfl)) (pe_fld (pv 1) (by rfl)) (pv 1) rfl)))), ?_⟩
    walk_at "rd"
    obtain ⟨⟨dy, cc, fs, h1, h2, h3, h4, h5, h9⟩, h6, h7, h8⟩ := id hy
    obtain ⟨dx, p, ts, e1, ft, pr⟩ := id hg
    have lp : (pk ps).length = ps.length := List.length_map _
    have rais : takeP cs ps as n ks = .error (.sys n) → tMkO IS (sp_IS (K := K) IS) [] (tCons (tFld K (tVar 1) (Str.ofString "name")) tNil) [some (V.ref y), some (V.ref a), none] H fun cls d H' => E cls d H' := fun e => raiseIS T.naIS hn (fun R r => by
      walk_at "rd"
      exact ⟨Pg, dx, _, e1, T.cP, T.aP_name, .str n, rfl, r⟩) (XE.x1s (qx _ e))
    refine ⟨Sy, dy, fs, h1, T.cls, T.s_programs, .ref pd, h4, pd, pk ps, rfl, .inl h6, eqII.mpr ⟨_, rfl, ?_⟩⟩
    rw [lp]
    by_cases c1 : ps.length = 4
    · rw [if_pos (by simp [c1])]
      exact rais (by unfold takeP; rw [if_pos (.inl c1)])
    rw [if_neg (by simp; omega)]
    unfold tDIn
    walk_at "rd"
    refine ⟨Pg, dx, _, e1, T.cP, T.aP_name, .str n, rfl, Sy, dy, fs, h1, T.cls, T.s_programs, .ref pd, h4, pd, rfl, _, DGet.k (k := Sum.inr n) h6, ?_⟩
    rw [valV_pk]
    cases hv : valA ps n with
    | some m =>
      rw [if_pos (by simp)]
      exact rais (by unfold takeP; rw [if_pos (.inr (by rw [hv]; rfl))])
    | none =>
      rw [if_neg (by simp)]
      have tk : takeP cs ps as n ks = takeSs cs as ks := by unfold takeP; rw [if_neg (by rw [hv]; simp [c1])]
      obtain ⟨ob, ep, eo⟩ := id ft
      have pn : p ∉ [pd, ad] := fun z => by
        obtain ⟨kvs, e⟩ := hy.dks p z
        rw [ep] at e; cases e
      have lt : ts.length = ks.length := paired_len pr
      refine ⟨Pg, dx, _, e1, T.cP, T.aP_steps, .ref p, rfl, p, rfl, ⟨_, FT.sq ft⟩, FJ.tup (fun i σ' H' => (∃ z, σ' = [some (.ref y), some (.ref a), z]) ∧ SmS [pd, ad] H H' ∧ ∃ asi, takeSs cs as (ks.take i) = .ok asi ∧ Yo H' Sy y cs pd ad ps asi ∧ asi.length ≤ as.length + i) ⟨⟨_, rfl⟩, SmS.refl, as, rfl, hy, by omega⟩ (fun i σ' H' _ inv => FT.sq ⟨ob, inv.2.1 _ _ ep pn, eo⟩) (fun i x σ' H' hx inv => ?_) fun σ' H' inv => ?_⟩
      · obtain ⟨⟨z, rfl⟩, s, asi, hasi, hyi, hli⟩ := inv
        rw [List.getElem?_map] at hx
        cases ht : ts[i]? with
        | none => rw [ht] at hx; cases hx
        | some t =>
          rw [ht] at hx
          cases hx
          obtain ⟨k, hki, gk⟩ := pr_at pr ht
          have hil : i < ks.length := (List.getElem?_eq_some_iff.mp hki).1
          walk_at "rd"
          obtain ⟨⟨dy', cc', fs', g1, g2, g3, g4, g5, g9⟩, g6, g7, g8⟩ := id hyi
          refine ⟨dy', fs', g1, g9 _ (by decide +kernel), y, pd, ad, t, k, cs, ps, asi, rfl, hyi, gk.sms s hy.dks, hk k (List.mem_of_getElem? hki), hc, by omega, fun as' H'' ht' hy'' s'' => ⟨⟨_, rfl⟩, SmS.tr s s'', as', ?_, hy'', ?_⟩, fun e he => XE.sm (qx e ?_) s⟩
          · rw [List.take_add_one, hki, takeSs_app, hasi]
            show takeSs cs asi [k] = _
            show (match takeS cs asi k with | .error e => Except.error e | .ok as' => takeSs cs as' []) = _
            rw [ht']
            rfl
          · have := takeS_len ht'; omega
          · rw [tk]
            have e2 : ks = ks.take i ++ k :: ks.drop (i + 1) := by
              have e3 : ks.drop i = k :: ks.drop (i + 1) := by
                rw [List.drop_eq_getElem_cons hil]
                rw [List.getElem?_eq_getElem hil] at hki
                rw [Option.some.inj hki]
              rw [← e3, List.take_append_drop]
            rw [e2, takeSs_app, hasi]
            show (match takeS cs asi k with | .error e => Except.error e | .ok as' => takeSs cs as' (ks.drop (i + 1))) = _
            rw [he]
      · obtain ⟨⟨z, rfl⟩, s, asi, hasi, hyi, hli⟩ := inv
        rw [List.length_map, lt] at hasi hli
        rw [List.take_length] at hasi
        unfold sDPut
        walk_at "rd"
        obtain ⟨⟨dy', cc', fs', g1, g2, g3, g4, g5, g9⟩, g6, g7, g8⟩ := id hyi
        have an : a ∉ [pd, ad] := fun z => by
          obtain ⟨kvs, e⟩ := hy.dks a z
          rw [e1] at e; cases e
        refine ⟨Sy, dy', fs', g1, T.cls, T.s_programs, .ref pd, g4, Pg, dx, _, s _ _ e1 an, T.cP, T.aP_name, .str n, rfl, pd, rfl, _, DPut.k (k := Sum.inr n) (v := .ref a) g6 (by rw [lp, sizeLine_eq]; omega), ?_⟩
        rw [putK_new (by rw [valV_pk, hv]; rfl)]
        have e : pk ps ++ [(Sum.inr n, V.ref a)] = pk (ps ++ [(n, a)]) := by unfold pk; rw [List.map_append]; rfl
        rw [e]
        exact q asi _ (by rw [tk]; exact hasi) hyi.putp hli (SmS.tr s (SmS.at_ List.mem_cons_self))
/-! ### the system -/
abbrev QsT := List (Addr × Str × List Sk)
def takePs (cs : List Str) : List (Str × Addr) → List (Str × Nat) → QsT → Except Er (List (Str × Addr) × List (Str × Nat))
  | ps, as, [] => .ok (ps, as)
  | ps, as, q :: r => match takeP cs ps as q.2.1 q.2.2 with
    | .error e => .error e
    | .ok as' => takePs cs (ps ++ [(q.2.1, q.1)]) as' r
theorem takePs_app (cs : List Str) : ∀ (xs ys : QsT) (ps : List (Str × Addr)) (as : List (Str × Nat)), takePs cs ps as (xs ++ ys) = match takePs cs ps as xs with
    | .error e => .error e
    | .ok (ps', as') => takePs cs ps' as' ys
  | [], _, _, _ => rfl
  | q :: r, ys, ps, as => by
    show (match takeP cs ps as q.2.1 q.2.2 with | .error e => Except.error e | .ok as' => takePs cs (ps ++ [(q.2.1, q.1)]) as' (r ++ ys)) = match (match takeP cs ps as q.2.1 q.2.2 with | .error e => Except.error e | .ok as' => takePs cs (ps ++ [(q.2.1, q.1)]) as' r) with | .error e => Except.error e | .ok (ps', as') => takePs cs ps' as' ys
    cases takeP cs ps as q.2.1 q.2.2 with
    | error e => rfl
    | ok a => exact takePs_app cs r ys _ a
theorem takeP_lt {cs : List Str} {ps : List (Str × Addr)} {as as' : List (Str × Nat)} {n : Str} {ks : List Sk} (h : takeP cs ps as n ks = .ok as') (hp : ps.length ≤ 4) : ps.length < 4 := by
  unfold takeP at h
  by_cases c : ps.length = 4 ∨ (valA ps n).isSome = true
  · rw [if_pos c] at h; cases h
  · have : ps.length ≠ 4 := fun e => c (.inl e)
    omega
theorem StA.keep {H H' : Hp} {a : Addr} {k : Sk} (h : StA H R Wr B a k) (off : ∀ c o, H c = some o → (∀ C d, o ≠ .ins C d []) → H' c = some o) : StA H' R Wr B a k := by
  cases k with
  | rd s l => obtain ⟨dx, e⟩ := h; exact ⟨dx, off _ _ e (fun _ _ z => by injection z with _ _ h; cases h)⟩
  | wr t f xs => obtain ⟨dx, p, e, o, e2, d⟩ := h; exact ⟨dx, p, off _ _ e (fun _ _ z => by injection z with _ _ h; cases h), o, off _ _ e2 (fun _ _ z => nomatch z), d⟩
  | rw s l t f xs => obtain ⟨dx, p, e, o, e2, d⟩ := h; exact ⟨dx, p, off _ _ e (fun _ _ z => by injection z with _ _ h; cases h), o, off _ _ e2 (fun _ _ z => nomatch z), d⟩
theorem PgA.keep {H H' : Hp} {a : Addr} {n : Str} {ks : List Sk} (h : PgA H R Wr B Pg a n ks) (off : ∀ c o, H c = some o → (∀ C d, o ≠ .ins C d []) → H' c = some o) : PgA H' R Wr B Pg a n ks := by
  obtain ⟨dx, p, ts, e, ⟨o, e2, d⟩, pr⟩ := h
  exact ⟨dx, p, ts, off _ _ e (fun _ _ z => by injection z with _ _ h; cases h), ⟨o, off _ _ e2 (fun _ _ z => nomatch z), d⟩, L2.Paired.mapP pr fun _ _ g => StA.keep g off⟩
theorem rd_insS {H : Hp} {x b C dx : Addr} {f0 : List (Str × V)} {o : HO} {ys : List V} (hx : H x = some (.ins C dx f0)) (h : Rd H b (.tup ys)) : Rd (upd H x o) b (.tup ys) := by
  rcases h with e | ⟨ob, e⟩
  · exact .inl (by rw [upd_ne (fun q => by rw [q, hx] at e; cases e)]; exact e)
  · exact .inr ⟨ob, by rw [upd_ne (fun q => by rw [q, hx] at e; cases e)]; exact e⟩
theorem sy1 : ("cells" : Str) ≠ "_programs" := by decide +kernel
theorem sy2 : ("cells" : Str) ≠ "_arities" := by decide +kernel
theorem sy3 : ("_programs" : Str) ≠ "_arities" := by decide +kernel
theorem sy4 : ("cells" : Str) ≠ "names" := by decide +kernel
theorem sy5 : ("_programs" : Str) ≠ "names" := by decide +kernel
theorem sy6 : ("_arities" : Str) ≠ "names" := by decide +kernel
theorem XE.off {S S2 : List Addr} {H H2 : Hp} {E : XK} {e : Er} (h : XE IS UC S H E e) (s : ∀ H3, SmS S2 H2 H3 → SmS S H H3) : XE IS UC S2 H2 E e := match e, h with
  | .cell _, h => fun d H3 s3 z => h d H3 (s H3 s3) z
  | .sys _, h => fun d H3 s3 z => h d H3 (s H3 s3) z
abbrev s_System___init__ : Stmt := inClass (top 33) 0
abbrev sc_System___init___N : List Str := ["self", "cells", "programs", "program"]
theorem sc_System___init__ : FnScope sc_System___init___N ["self", "cells", "programs"] (defScope s_System___init__) := ⟨rfl, rfl, rfl, by decide +kernel, rfl, by decide +kernel, by decide +kernel⟩
-- 0 self, 1 cells, 2 programs, 3 program
def fsS (c p a n : Addr) : List (Str × V) := [("cells", .ref c), ("_programs", .ref p), ("_arities", .ref a), ("names", .ref n)]
def fsS3 (c p a : Addr) : List (Str × V) := [("cells", .ref c), ("_programs", .ref p), ("_arities", .ref a)]
theorem fs3_no {c p a : Addr} : ∀ m ∈ sysM, (fsS3 c p a).lookup m = none := fun m hm => by
  simp only [sysM, List.mem_cons, List.not_mem_nil, or_false] at hm
  rcases hm with rfl | rfl | rfl | rfl | rfl | rfl | rfl <;> rfl
theorem fsS_no {c p a n : Addr} : ∀ m ∈ sysM, (fsS c p a n).lookup m = none := fun m hm => by
  simp only [sysM, List.mem_cons, List.not_mem_nil, or_false] at hm
  rcases hm with rfl | rfl | rfl | rfl | rfl | rfl | rfl <;> rfl
def sp_sinit (K : PySem.W.Frag) (R Wr B Pg Sy IC IS UC : Addr) : Sp := fun vs H Q E => ∃ (x n b dx : Addr) (cs : List Str) (qs : QsT), vs = [.ref x, .ref n, .ref b] ∧ H x = some (.ins Sy dx []) ∧ SqW H n (cs.map V.str) ∧ SqW H b (qs.map fun q => V.ref q.1) ∧ cs.length ≤ 60 ∧ (∀ z ∈ cs, z.length ≤ 1000) ∧ qs.length ≤ 8 ∧
  (∀ q ∈ qs, PgA H R Wr B Pg q.1 q.2.1 q.2.2 ∧ (∀ k ∈ q.2.2, k.small) ∧ q.2.2.length ≤ 8 ∧ q.2.1.length ≤ 1000) ∧
  (nmsB cs = false → X0 IC H E) ∧ (nmsB cs = true → (∀ e, takePs cs [] [] qs = .error e → XE IS UC [x] H E e) ∧
    ∀ ps as, takePs cs [] [] qs = .ok (ps, as) → ∀ H' c p a nn, H' x = some (.ins Sy dx (fsS c p a nn)) → Rd H' c (.tup (cs.map V.str)) → H' p = some (.dK (pk ps)) → H' a = some (.dK (ak as)) → FT H' nn (ps.map fun q => V.str q.1) → p ≠ a → But x H H' → Q .non H')
theorem m_sinit (T : SyX K mg R Wr B Pg Sy IS UC UP) (D : MD K Sy "__init__" "System.__init__" s_System___init__) (d_check_names : Dn P w K mg base (L2.CX P w) 3 "check_names" (sp_chknX K IC)) (m__take_program : Mn P w K mg base (L2.CX P w) 7 Sy "_take_program" (sp_takeP R Wr B Pg Sy IS UC)) :
    Mn P w K mg base (L2.CX P w) 9 Sy "__init__" (sp_sinit K R Wr B Pg Sy IC IS UC) := by
  refine D.mx sc_System___init__ (fun _ _ _ _ _ _ us hl => match us, hl with | [_, _, _], _ => rfl) (fun vs H Q E h => ?_) (fun f cdv A outer s H vs Q E hr h => ?_)
  · obtain ⟨x, n, b, dx, cs, qs, rfl, _⟩ := h; rfl
  · obtain ⟨x, n, b, dx, cs, qs, rfl, hx, hnn, hb, h6, hz, hql, hqs, qx, q⟩ := h
    refine ⟨_, (pss_cons (ps_expr (pe_d d_check_names hr (by decide) (passes_call (takes_of rfl rfl rfl rfl) (fun _ _ _ _ h => h)) (by rfl) (pa_cons (pv 1) pa_nil)))
      (pss_cons (ps_fld (pv 0) (pe_callTy call_tupG (by rfl) T.n_tuple (by decide +kernel) (pa_cons (pv 1) pa_nil)) rfl)
      (pss_cons (ps_fld (pv 0) pe_dnewK rfl)
      (pss_cons (ps_fld (pv 0) pe_dnewK rfl)
      (pss_cons (ps_for (passes_of rfl) rfl (pi_any (pv 2)) (pg_name (i := 3) sc_System___init__.nd rfl (Or.inl rfl)) (pss_one (ps_expr (pe_m m__take_program T.cls hr (by decide) (passes_call (takes_of rfl rfl rfl rfl) (fun _ _ _ _ h => h)) (pv 0) (pa_cons (pv 3) pa_nil)))))
      (pss_one (ps_fld (pv 0) (pe_callTy (call_tupD rfl) (by rfl) T.n_tuple (by decide +kernel) (pa_cons (pe_fld (pv 0) (by rfl)) pa_nil)) rfl))))))), ?_⟩
    walk_at "rd"
    refine ⟨n, cs, rfl, hnn.sqA, h6, hz, fun hb2 H1 sm1 => cTupG_any (hnn.same sm1) fun t H2 ht s2 => ?_, fun hb2 => qx hb2⟩
    obtain ⟨qe, qk⟩ := q hb2
    have s02 : Same H H2 := Same.tr sm1 s2
    have hx2 := s02 _ _ hx
    refine ⟨Sy, dx, [], hx2, T.cls, T.s_cells, by decide, fun p hp => ?_⟩
    have e1 : putF "cells" (V.ref t) [] = [(("cells" : Str), V.ref t)] := rfl
    rw [e1] at hp ⊢
    have xp : x ≠ p := ne_of_none upd_same hp
    have hpH : H p = none := by
      have h2 : H2 p = none := by rw [upd_ne (Ne.symm xp)] at hp; exact hp
      cases e : H p with
      | none => rfl
      | some o => rw [s02 _ _ e] at h2; cases h2
    have hx3 : (upd (upd H2 x (.ins Sy dx [(("cells" : Str), V.ref t)])) p (.dK [])) x = some (.ins Sy dx [(("cells" : Str), V.ref t)]) := by rw [upd_ne xp]; exact upd_same
    have ht3 : Rd (upd (upd H2 x (.ins Sy dx [(("cells" : Str), V.ref t)])) p (.dK [])) t (.tup (cs.map V.str)) := rd_same (rd_insS hx2 ht) (UL.Same.new hp)
    have hp3 : (upd (upd H2 x (.ins Sy dx [(("cells" : Str), V.ref t)])) p (.dK [])) p = some (.dK []) := upd_same
    have b3 : But x H (upd (upd H2 x (.ins Sy dx [(("cells" : Str), V.ref t)])) p (.dK [])) := fun c u e nc => UL.Same.new hp _ _ (by rw [upd_ne nc]; exact s02 _ _ e)
    generalize upd (upd H2 x (.ins Sy dx [(("cells" : Str), V.ref t)])) p (.dK []) = H3 at hx3 ht3 hp3 b3 ⊢
    refine ⟨Sy, dx, _, hx3, T.cls, T.s_programs, by show 1 < 1000; decide, fun a ha => ?_⟩
    have e2 : putF "_programs" (V.ref p) [(("cells" : Str), V.ref t)] = [(("cells" : Str), V.ref t), (("_programs" : Str), V.ref p)] := by simp [putF, sy1]
    rw [e2] at ha ⊢
    have xa : x ≠ a := ne_of_none upd_same ha
    have ha3 : H3 a = none := by rw [upd_ne (Ne.symm xa)] at ha; exact ha
    have haH : H a = none := by
      cases e : H a with
      | none => rfl
      | some o => rw [b3 _ _ e (Ne.symm xa)] at ha3; cases ha3
    have pa : p ≠ a := fun e => by rw [← e, hp3] at ha3; cases ha3
    have hx4 : (upd (upd H3 x (.ins Sy dx [(("cells" : Str), V.ref t), (("_programs" : Str), V.ref p)])) a (.dK [])) x = some (.ins Sy dx [(("cells" : Str), V.ref t), (("_programs" : Str), V.ref p)]) := by rw [upd_ne xa]; exact upd_same
    have ht4 : Rd (upd (upd H3 x (.ins Sy dx [(("cells" : Str), V.ref t), (("_programs" : Str), V.ref p)])) a (.dK [])) t (.tup (cs.map V.str)) := rd_same (rd_insS hx3 ht3) (UL.Same.new ha)
    have hp4 : (upd (upd H3 x (.ins Sy dx [(("cells" : Str), V.ref t), (("_programs" : Str), V.ref p)])) a (.dK [])) p = some (.dK []) := UL.Same.new ha _ _ (by rw [upd_ne (Ne.symm xp)]; exact hp3)
    have ha4 : (upd (upd H3 x (.ins Sy dx [(("cells" : Str), V.ref t), (("_programs" : Str), V.ref p)])) a (.dK [])) a = some (.dK []) := upd_same
    have b4 : But x H (upd (upd H3 x (.ins Sy dx [(("cells" : Str), V.ref t), (("_programs" : Str), V.ref p)])) a (.dK [])) := fun c u e nc => UL.Same.new ha _ _ (by rw [upd_ne nc]; exact b3 c u e nc)
    generalize upd (upd H3 x (.ins Sy dx [(("cells" : Str), V.ref t), (("_programs" : Str), V.ref p)])) a (.dK []) = H4 at hx4 ht4 hp4 ha4 b4 ⊢
    have e3 : putF "_arities" (V.ref a) [(("cells" : Str), V.ref t), (("_programs" : Str), V.ref p)] = fsS3 t p a := by simp [putF, sy2, sy3, fsS3]
    obtain ⟨ob, hob, obi, obd⟩ := hb.some
    have xb : b ≠ x := fun e => by rw [e, hx] at hob; exact obi _ _ _ (Option.some.inj hob).symm
    have hx5 : (upd H4 x (.ins Sy dx (fsS3 t p a))) x = some (.ins Sy dx (fsS3 t p a)) := upd_same
    have hp5 : (upd H4 x (.ins Sy dx (fsS3 t p a))) p = some (.dK []) := by rw [upd_ne (Ne.symm xp)]; exact hp4
    have ha5 : (upd H4 x (.ins Sy dx (fsS3 t p a))) a = some (.dK []) := by rw [upd_ne (Ne.symm xa)]; exact ha4
    have ht5 := rd_insS (o := .ins Sy dx (fsS3 t p a)) hx4 ht4
    have b5 : But x H (upd H4 x (.ins Sy dx (fsS3 t p a))) := fun c u e nc => by rw [upd_ne nc]; exact b4 c u e nc
    have hb5 : SqW _ b _ := hb.off fun o e => b5 _ _ e xb
    refine ⟨Sy, dx, _, hx4, T.cls, T.s_arities, by show 2 < 1000; decide, ?_⟩
    rw [e3]
    generalize upd H4 x (.ins Sy dx (fsS3 t p a)) = H5 at hx5 hp5 ha5 ht5 hb5 b5 ⊢
    obtain ⟨kd, hkd⟩ := hb5.sqA (K := K)
    refine ⟨kd, ⟨_, hkd⟩, ?_⟩
    have lq : (qs.map fun q => V.ref q.1).length = qs.length := List.length_map _
    have sH : ∀ H6 H7, SmS [p, a] H5 H6 → SmS [p, a] H6 H7 → SmS [x] H H7 := fun H6 H7 s6 s7 c o e n => by
      have nx : c ≠ x := fun z => n (by simp [z])
      have npa : c ∉ [p, a] := fun z => by
        simp only [List.mem_cons, List.not_mem_nil, or_false] at z
        rcases z with rfl | rfl
        · rw [hpH] at e; cases e
        · rw [haH] at e; cases e
      exact s7 _ _ (s6 _ _ (b5 _ _ e nx) npa) npa
    have bpa : b ∉ [p, a] := fun z => by
      simp only [List.mem_cons, List.not_mem_nil, or_false] at z
      rcases z with rfl | rfl
      · rw [hpH] at hob; cases hob
      · rw [haH] at hob; cases hob
    have xpa : x ∉ [p, a] := by simp [xp, xa]
    have y0 : Yo H5 Sy x cs p a [] [] := ⟨⟨dx, t, fsS3 t p a, hx5, rfl, ht5, rfl, rfl, fs3_no⟩, hp5, ha5, pa⟩
    have pg5 : ∀ q ∈ qs, PgA H5 R Wr B Pg q.1 q.2.1 q.2.2 := fun q hq => (hqs q hq).1.keep fun c o e n => b5 _ _ e fun z => by
      rw [z, hx] at e
      exact n _ _ (Option.some.inj e).symm
    refine fj_any (xs := qs.map fun q => V.ref q.1) kd (fun i σ' H' => (∃ z, σ' = [some (.ref x), some (.ref n), some (.ref b), z]) ∧ SmS [p, a] H5 H' ∧ ∃ psi asi, takePs cs [] [] (qs.take i) = .ok (psi, asi) ∧ Yo H' Sy x cs p a psi asi ∧ psi.length ≤ 4 ∧ asi.length ≤ 8 * i) ⟨⟨_, rfl⟩, SmS.refl, [], [], rfl, y0, by decide, by decide⟩ (fun i σ' H' _ inv => Kd.off kd hkd fun o e => inv.2.1 _ _ e bpa) (fun i v σ' H' hv inv => ?_) fun σ' H' inv => ?_
    · obtain ⟨⟨z, rfl⟩, s, psi, asi, ht6, yi, hpi, hai⟩ := inv
      rw [List.getElem?_map] at hv
      cases hq : qs[i]? with
      | none => rw [hq] at hv; cases hv
      | some q =>
        rw [hq] at hv
        cases hv
        have hil : i < qs.length := (List.getElem?_eq_some_iff.mp hq).1
        have hqm := List.mem_of_getElem? hq
        walk_at "rd"
        have app : takePs cs [] [] qs = match takeP cs psi asi q.2.1 q.2.2 with
            | .error e => .error e
            | .ok as' => takePs cs (psi ++ [(q.2.1, q.1)]) as' (qs.drop (i + 1)) := by
          have e2 : qs = qs.take i ++ q :: qs.drop (i + 1) := by
            have e3 : qs.drop i = q :: qs.drop (i + 1) := by
              rw [List.drop_eq_getElem_cons hil]
              rw [List.getElem?_eq_getElem hil] at hq
              rw [Option.some.inj hq]
            rw [← e3, List.take_append_drop]
          have e4 : takePs cs [] [] (qs.take i ++ q :: qs.drop (i + 1)) = match takeP cs psi asi q.2.1 q.2.2 with
            | .error e => .error e
            | .ok as' => takePs cs (psi ++ [(q.2.1, q.1)]) as' (qs.drop (i + 1)) := by
            rw [takePs_app, ht6]; rfl
          rw [← e2] at e4
          exact e4
        refine ⟨dx, fsS3 t p a, s _ _ hx5 xpa, rfl, x, p, a, q.1, q.2.1, q.2.2, cs, psi, asi, rfl, yi, (pg5 q hqm).sms s y0.dks, (hqs q hqm).2.1, (hqs q hqm).2.2.1, (hqs q hqm).2.2.2, by omega, by omega, hpi, fun as' H7 ht7 y7 l7 s7 => ⟨⟨_, rfl⟩, SmS.tr s s7, psi ++ [(q.2.1, q.1)], as', ?_, y7, ?_, ?_⟩, fun e he => XE.off (qe e (by rw [app, he])) fun H8 s8 => sH _ _ s s8⟩
        · rw [List.take_add_one, hq, takePs_app, ht6]
          show (match takeP cs psi asi q.2.1 q.2.2 with | .error e => Except.error e | .ok as' => takePs cs (psi ++ [(q.2.1, q.1)]) as' []) = _
          rw [ht7]
          rfl
        · have := takeP_lt ht7 hpi
          rw [List.length_append]; simp only [List.length_cons, List.length_nil]; omega
        · have := (hqs q hqm).2.2.1; omega
    · obtain ⟨⟨z, rfl⟩, s, psi, asi, ht6, yi, hpi, hai⟩ := inv
      rw [lq, List.take_length] at ht6
      walk_at "rd"
      have hx6 := s _ _ hx5 xpa
      refine ⟨Sy, dx, _, hx6, T.cls, T.s_programs, .ref p, rfl, p, pk psi, rfl, .inl yi.hp, fun nn o hnn od os => ?_⟩
      have s6 : Same H' (upd H' nn (.frz o (.tup ((pk psi).map fun kv => kV kv.1)))) := UL.Same.new hnn
      refine ⟨Sy, dx, _, s6 _ _ hx6, T.cls, T.s_names, by show 3 < 1000; decide, ?_⟩
      have xn : x ≠ nn := ne_of_none hx6 hnn
      have e4' : putF (Str.ofString "names") (V.ref nn) (fsS3 t p a) = fsS t p a nn := by
        show putF ("names" : Str) (V.ref nn) [(("cells" : Str), V.ref t), (("_programs" : Str), V.ref p), (("_arities" : Str), V.ref a)] = _
        simp [putF, sy4, sy5, sy6, fsS]
      rw [e4']
      have ek : ((pk psi).map fun kv => kV kv.1) = psi.map fun q => V.str q.1 := by unfold pk; rw [List.map_map]; rfl
      have tpa : t ∉ [p, a] := fun z => by
        obtain ⟨kvs, e⟩ := y0.dks t z
        rcases ht5 with h | ⟨o, h⟩ <;> · rw [h] at e; cases e
      have ht6' : Rd H' t (.tup (cs.map V.str)) := ht5.elim (fun e => .inl (s _ _ e tpa)) fun ⟨o, e⟩ => .inr ⟨o, s _ _ e tpa⟩
      refine qk psi asi ht6 _ t p a nn upd_same (rd_insS (s6 _ _ hx6) (rd_same ht6' s6)) ?_ ?_ ⟨o, ?_, od, os⟩ pa fun c u e nc => ?_
      · rw [upd_ne (Ne.symm xp)]; exact s6 _ _ yi.hp
      · rw [upd_ne (Ne.symm xa)]; exact s6 _ _ yi.ha
      · rw [upd_ne (Ne.symm xn), upd_same, ek]
      · rw [upd_ne nc]
        exact s6 _ _ (s _ _ (b5 c u e nc) fun z => by
          simp only [List.mem_cons, List.not_mem_nil, or_false] at z
          rcases z with rfl | rfl
          · rw [hpH] at e; cases e
          · rw [haH] at e; cases e)
abbrev s_System_program_named : Stmt := inClass (top 33) 4
abbrev sc_System_program_named_N : List Str := ["self", "name"]
theorem sc_System_program_named : FnScope sc_System_program_named_N ["self", "name"] (defScope s_System_program_named) := ⟨rfl, rfl, rfl, by decide +kernel, rfl, by decide +kernel, by decide +kernel⟩
-- 0 self, 1 name
def sp_named (Sy UP : Addr) : Sp := fun vs H Q E => ∃ (y pd ad : Addr) (n : Str) (cs : List Str) (ps : List (Str × Addr)) (as : List (Str × Nat)), vs = [.ref y, .str n] ∧ Yo H Sy y cs pd ad ps as ∧ n.length ≤ 1000 ∧ (∀ a, valA ps n = some a → Q (.ref a) H) ∧ (valA ps n = none → X1 UP "name" (.str n) H E)
theorem m_named (T : SyX K mg R Wr B Pg Sy IS UC UP) (D : MD K Sy "program_named" "System.program_named" s_System_program_named) (x_UnknownProgram : Xn P w K mg base 1 UP "UnknownProgram" (sp_UP (K := K) UP)) : Mn P w K mg base (L2.CX P w) 3 Sy "program_named" (sp_named Sy UP) := by
  refine D.mx sc_System_program_named (fun _ _ _ _ _ _ us hl => match us, hl with | [_, _], _ => rfl) (fun vs H Q E h => ?_) (fun f cdv A outer s H vs Q E hr h => ?_)
  · obtain ⟨y, pd, ad, n, cs, ps, as, rfl, _⟩ := h; rfl
  · obtain ⟨y, pd, ad, n, cs, ps, as, rfl, hy, hn, q, qx⟩ := h
    refine ⟨_, (pss_cons (ps_if (pt_cmp (pc_dnotin (un1 hr.units) (pv 1) (pe_fld (pv 0) (by rfl))) (by with_unfolding_all rfl)) (pss_one (ps_raise rfl (takes_of rfl rfl rfl rfl) (pmk_x x_UnknownProgram hr (by decide) (by rfl) (pa_cons (pv 1) pa_nil)))) pss_nil)
      (pss_one (ps_ret (pe_dget (un1 hr.units) (pe_fld (pv 0) (by rfl)) (pv 1) (fun _ _ => rfl))))), ?_⟩
    unfold tDNotIn tDGet
    walk_at "rd"
    obtain ⟨⟨dy, cc, fs, h1, h2, h3, h4, h5, h9⟩, h6, h7, h8⟩ := id hy
    refine ⟨Sy, dy, fs, h1, T.cls, T.s_programs, .ref pd, h4, pd, rfl, _, DGet.k (k := Sum.inr n) h6, ?_⟩
    rw [valV_pk]
    cases hv : valA ps n with
    | none =>
      rw [if_pos (by simp)]
      exact raiseUP T.naUP hn (fun R r => ⟨_, rfl, r⟩) (qx hv)
    | some a =>
      rw [if_neg (by simp)]
      exact ⟨Sy, dy, fs, h1, T.cls, T.s_programs, .ref pd, h4, pd, rfl, .ref a, by have := DGet.k (k := Sum.inr n) h6; rw [valV_pk, hv] at this; exact this, q a hv⟩
theorem paired_ak {H : Hp} : ∀ {ts : List Addr} {as : List (Str × Nat)}, Paired (fun (t : Addr) (q : Key × V) => H t = some (.tup [kV q.1, q.2])) ts (ak as) → Paired (fun (t : Addr) (q : Str × Nat) => H t = some (.tup [.str q.1, .int q.2])) ts as
  | [], [], _ => .nil
  | t :: ts, q :: as, .cons h r => .cons h (paired_ak r)
end
end U

set_option Elab.async false
set_option linter.all false
set_option maxRecDepth 100000
set_option maxHeartbeats 4000000
set_option pp.deepTerms true
set_option pp.maxSteps 400000
namespace U
open PySem PySem.Spec PyProof.Rows L2 UL UX
local macro_rules | `(tactic| walk_at "rd") => `(tactic| simp only [sMatch, tJs, tFmt, tBC, tMethA, tMakeL, iEnumS, tSeq, tAsg, tOp, tCB, tCons, tNil, tVar, tC, tB, tTest, tNot, tIfS, tNext, tYes, tUn, rU, tM0, tGFrom, tGThen, tG0, tYfLst, gcxK, tSubO, tProp, tListG, tMethG, tBMF, tFld, sFld, tMeth, tMake, tSl, tNoPart, tPart, tM1, gTup, gCons, gNil, tDrop, tFor_eq, tLc_eq, tLc2_eq, iRng1_eq, StX.tStar, iList, iTup, iStr, iAny_var, iZipB, tLenSetS, wipe, tVar, tAndV, tOrV, tNotV, tOr, tAnd, tLst, tTup, tBM, tBM0, tChain, tCall, cxK, noxK, addII, addSS, mulII, eqII, neII, neSS, cIntI, cAbsI, rI, rI0, rLt, rLe, rGt_, rGe_, rSub_, rMod, rPow, rDivW, rNeg, gName, tRet, L2.start, List.length_cons, List.length_nil, List.map_cons, List.map_nil, List.replicate, List.cons_append, List.nil_append, List.getElem?_cons_zero, List.getElem?_cons_succ, List.set_cons_zero, List.set_cons_succ, Option.some.injEq, exists_eq_left', exists_eq_left, V.int.injEq, V.bl.injEq, V.str.injEq, V.ref.injEq, V.ty.injEq, List.cons.injEq, and_true, true_and, reduceCtorEq, false_and, exists_false, or_false, false_or, exists_and_left, exists_and_right, List.append_nil, forall_eq, decide_eq_true_eq, Bool.not_eq_true, Nat.reduceAdd, Nat.reduceSub, List.replicate_zero, List.replicate_succ, Nat.zero_le, ite_true, ite_false, if_true, if_false])
section
variable {P : Program} {w : World} {K : PySem.W.Frag} {mg : Str → Option Value} {base : Heap}

open UW
variable {R Wr B Pg : Addr}
theorem nm_len {z : Str} (h : isNm z) : z.length ≤ 8 := by
  have h : nmB z = true := h
  simp only [nmB, Bool.and_eq_true, decide_eq_true_eq] at h
  exact h.1.2
abbrev s__law_functions : Stmt := top 39
abbrev sc__law_functions_N : List Str := ["_law_pool_here"]
theorem sc__law_functions : FnScope sc__law_functions_N ["_law_pool_here"] (defScope s__law_functions) := ⟨rfl, rfl, rfl, by decide +kernel, rfl, by decide +kernel, by decide +kernel⟩
-- 0 _law_pool_here
def sp_funs : Sp := fun vs H Q _ => ∃ p : Addr, vs = [.ref p] ∧ Pl H p ∧ ∀ q H' (xs : List Str), 2 ≤ xs.length → xs.length ≤ 5 → (∀ z ∈ xs, isNm z) → H q = none → H' q = some (.lst (xs.map V.str)) → Pl H' p → But p H H' → Q (.ref q) H'
theorem d_funs (T : Nm mg) (D : TD K mg "_law_functions" s__law_functions) (d__law_draw : Dn P w K mg base CX0 1 "_law_draw" sp_draw) (d__law_names : Dn P w K mg base CX0 2 "_law_names" sp_names) : Dn P w K mg base CX0 3 "_law_functions" sp_funs := by
  refine D.dn sc__law_functions (fun _ _ _ _ _ _ us hl => match us, hl with | [_], _ => rfl) (fun vs H Q E h => ?_) (fun f cdv A outer s H vs Q E hr h => ?_)
  · obtain ⟨p, rfl, _⟩ := h; rfl
  · obtain ⟨p, rfl, hp, q⟩ := h
    refine ⟨_, (pss_one (ps_ret (pe_d d__law_names hr (by decide) pass0 (by rfl) (pa_cons (pv 0) (pa_cons (pe_ix ix_seq (pe_lst (pa_cons pe_int (pa_cons pe_int (pa_cons pe_int (pa_cons pe_int pa_nil))))) (pe_d d__law_draw hr (by decide) pass0 (by rfl) (pa_cons (pv 0) (pa_cons pe_int pa_nil))) (fun _ _ => rfl)) pa_nil))))), ?_⟩
    walk_at "rd"
    refine ⟨by rw [sizeLine_eq]; decide, fun l hl => drawI (by decide) (hp.put (hp.ne hl)) fun r H1 r0 r3 hp1 b1 => ?_⟩
    have hl1 : H1 l = some (.lst [V.int 4, V.int 2, V.int 3, V.int 5]) := b1 _ _ upd_same (Ne.symm (hp.ne hl))
    have b01 : But p H H1 := But.tr (UL.Same.but (UL.Same.new hl)) b1
    have hr3 : r = 0 ∨ r = 1 ∨ r = 2 ∨ r = 3 := by omega
    rcases hr3 with rfl | rfl | rfl | rfl
    · exact ixL (.inl (.inl hl1)) (show atI _ ((0 : Nat) : Int) = some (.int (4 : Nat)) from atN rfl) ⟨p, 4, rfl, hp1, by omega, by omega, fun q0 H2 xs hxl hnm hq h2 hp2 b2 => q q0 H2 xs (by omega) (by omega) hnm (But.free' b01 hp1 hq) h2 hp2 (But.tr b01 b2)⟩
    · exact ixL (.inl (.inl hl1)) (show atI _ ((1 : Nat) : Int) = some (.int (2 : Nat)) from atN rfl) ⟨p, 2, rfl, hp1, by omega, by omega, fun q0 H2 xs hxl hnm hq h2 hp2 b2 => q q0 H2 xs (by omega) (by omega) hnm (But.free' b01 hp1 hq) h2 hp2 (But.tr b01 b2)⟩
    · exact ixL (.inl (.inl hl1)) (show atI _ ((2 : Nat) : Int) = some (.int (3 : Nat)) from atN rfl) ⟨p, 3, rfl, hp1, by omega, by omega, fun q0 H2 xs hxl hnm hq h2 hp2 b2 => q q0 H2 xs (by omega) (by omega) hnm (But.free' b01 hp1 hq) h2 hp2 (But.tr b01 b2)⟩
    · exact ixL (.inl (.inl hl1)) (show atI _ ((3 : Nat) : Int) = some (.int (5 : Nat)) from atN rfl) ⟨p, 5, rfl, hp1, by omega, by omega, fun q0 H2 xs hxl hnm hq h2 hp2 b2 => q q0 H2 xs (by omega) (by omega) hnm (But.free' b01 hp1 hq) h2 hp2 (But.tr b01 b2)⟩
abbrev s__law_line : Stmt := top 42
abbrev sc__law_line_N : List Str := ["_law_step_here", "_law_words"]
theorem sc__law_line : FnScope sc__law_line_N ["_law_step_here"] (defScope s__law_line) := ⟨rfl, rfl, rfl, by decide +kernel, rfl, by decide +kernel, by decide +kernel⟩
-- 0 _law_step_here, 1 _law_words
/-- a row of the law: what a step reads, its variable, what it writes, by which function, of what -/
def rowV (k : Sk) (e : Addr) : List V := match k with
  | .rd s l => [.str s, .str l, .non, .non, .ref e]
  | .wr t f _ => [.non, .non, .str t, .str f, .ref e]
  | .rw s l t f _ => [.str s, .str l, .str t, .str f, .ref e]
def Sk.args : Sk → List Str
  | .rd .. => []
  | .wr _ _ xs | .rw _ _ _ _ xs => xs
def RowA (H : Hp) (a : Addr) (k : Sk) : Prop := ∃ e, H a = some (.tup (rowV k e)) ∧ H e = some (.tup (k.args.map V.str))
def Sk.words : Sk → List Str
  | .rd s l => [("read" : Str), s, "as", l]
  | .wr t f xs => wrT t f xs
  | .rw s l t f xs => [("read" : Str), s, "as", l] ++ wrT t f xs
theorem words_many {k : Sk} (h : k.small) (hn : k.args.length ≤ 3) : (∀ x ∈ k.words, x.length ≤ 1000) ∧ k.words.length ≤ 12 := by
  have l1 : ("read" : Str).length = 4 := by decide +kernel
  have l2 : ("as" : Str).length = 2 := by decide +kernel
  have hb : (∀ x ∈ k.words, x.length ≤ 1000) ∧ k.words.length ≤ 12 := by
    have r4 : ∀ {s l : Str}, s.length ≤ 1000 → l.length ≤ 1000 → ∀ x ∈ [("read" : Str), s, "as", l], x.length ≤ 1000 := fun hs hl x hx => by
      simp only [List.mem_cons, List.not_mem_nil, or_false] at hx
      rcases hx with rfl | rfl | rfl | rfl
      · rw [l1]; omega
      · exact hs
      · rw [l2]; omega
      · exact hl
    cases k with
    | rd s l => exact ⟨r4 h.1 h.2, by simp [Sk.words]⟩
    | wr t f xs => exact ⟨wr_len h.1 h.2.1 h.2.2.1, Nat.le_trans wr_many (by have : xs.length ≤ 3 := hn; omega)⟩
    | rw s l t f xs =>
      refine ⟨fun x hx => (List.mem_append.mp hx).elim (r4 h.1.1 h.1.2 x) (wr_len h.2.1 h.2.2.1 h.2.2.2.1 x), ?_⟩
      have h3 : xs.length ≤ 3 := hn
      have h4 := wr_many (t := t) (f := f) (xs := xs)
      show ([("read" : Str), s, "as", l] ++ wrT t f xs).length ≤ 12
      rw [List.length_append]
      simp only [List.length_cons, List.length_nil]
      omega
  exact hb
theorem words_sum {k : Sk} (h : k.small) (hn : k.args.length ≤ 3) : (k.words.map (·.length)).sum + k.words.length * (" " : Str).length ≤ 16777216 := by
  have hb := words_many h hn
  have h1 := sum_le hb.1
  have h2 : k.words.length * 1000 ≤ 12 * 1000 := Nat.mul_le_mul_right _ hb.2
  have h3 := hb.2
  rw [l_sp]
  omega
def sp_line : Sp := fun vs H Q _ => ∃ (a : Addr) (k : Sk), vs = [.ref a] ∧ RowA H a k ∧ k.small ∧ k.args.length ≤ 3 ∧ (∀ x ∈ k.args, PyData.strOk x = true) ∧ ∀ H', Same H H' → Q (.str (Txt.join " " k.words)) H'
theorem d_line (T : Nm mg) (D : TD K mg "_law_line" s__law_line) : Dn P w K mg base CX0 1 "_law_line" sp_line := by
  refine D.dn sc__law_line (fun _ _ _ _ _ _ us hl => match us, hl with | [_], _ => rfl) (fun vs H Q E h => ?_) (fun f cdv A outer s H vs Q E hr h => ?_)
  · obtain ⟨a, k, rfl, _⟩ := h; rfl
  · obtain ⟨a, k, rfl, ⟨e, ha, he⟩, hs, hn, hso, q⟩ := h
    refine ⟨_, (pss_cons (ps_set (i := 1) sc__law_line.nd rfl (Or.inl rfl) (pe_lst pa_nil))
      (pss_cons (ps_if (pt_cmpR op_notNone (pe_ix ix_seq (pv 0) pe_int (fun _ _ => rfl)) pe_non (nomark _)) (pss_one (ps_set (i := 1) sc__law_line.nd rfl (Or.inl rfl) (pe_lst (pa_cons pe_str (pa_cons (pe_ix ix_seq (pv 0) pe_int (fun _ _ => rfl)) (pa_cons pe_str (pa_cons (pe_ix ix_seq (pv 0) pe_int (fun _ _ => rfl)) pa_nil))))))) pss_nil)
      (pss_cons (ps_if (pt_cmpR op_notNone (pe_ix ix_seq (pv 0) pe_int (fun _ _ => rfl)) pe_non (nomark _)) (pss_cons (ps_set (i := 1) sc__law_line.nd rfl (Or.inl rfl) (pe_op op_addA (pv 1) (pe_lst (pa_cons pe_str (pa_cons (pe_ix ix_seq (pv 0) pe_int (fun _ _ => rfl)) (pa_cons pe_str (pa_cons (pe_ix ix_seq (pv 0) pe_int (fun _ _ => rfl)) pa_nil)))))))
      (pss_one (ps_if (pt_cmpR (op_neA (hr.units)) (pe_ix ix_seq (pv 0) pe_int (fun _ _ => rfl)) (pe_tup pa_nil) (nomark _)) (pss_one (ps_set (i := 1) sc__law_line.nd rfl (Or.inl rfl) (pe_op op_addA (pe_op op_addA (pv 1) (pe_lst (pa_cons pe_str pa_nil))) (pe_callTy call_listA (by rfl) T.n_list (by decide +kernel) (pa_cons (pe_ix ix_seq (pv 0) pe_int (fun _ _ => rfl)) pa_nil))))) pss_nil))) pss_nil)
      (pss_one (ps_ret (pe_join pe_str (pv 1))))))), ?_⟩
    walk_at "rd"
    have ra : ∀ {H' : Hp} (i : Nat) (j : Int) (_ : j = i) (v : V), Same H H' → (rowV k e)[i]? = some v → ∀ {Q : VK}, Q v H' → rIx K (.ref a) (.int j) H' Q := fun {H'} i j hj v sm hv {Q} hq => by
      subst hj
      exact ixT (.inl (.inl (sm _ _ ha))) (atN hv) hq
    have hj : (k.words.map (·.length)).sum + k.words.length * (" " : Str).length ≤ 16777216 := words_sum hs hn
    have hfx : (k.args.map V.str).all fl3 = true := by
      rw [List.all_map, List.all_eq_true]
      exact fun x hx => hso x hx
    refine fun p hp => ?_
    have s1 : Same H (upd H p (.lst [])) := UL.Same.new hp
    cases k with
    | rd sr l =>
      refine ra 0 0 rfl _ s1 rfl ⟨rfl, _, rfl, ?_⟩
      rw [if_pos (by simp)]
      refine ra 0 0 rfl _ s1 rfl (ra 1 1 rfl _ s1 rfl ⟨by rw [sizeLine_eq]; decide, fun p2 hp2 => ?_⟩)
      have s2 := Same.tr s1 (UL.Same.new (o := .lst [V.str (Str.ofString "read"), V.str sr, V.str (Str.ofString "as"), V.str l]) hp2)
      refine ra 2 2 rfl _ s2 rfl ⟨rfl, _, rfl, ?_⟩
      rw [if_neg (by simp)]
      exact ⟨⟨_, rfl⟩, Sk.words (.rd sr l), .inl (.inl (.inl upd_same)), hj, q _ s2⟩
    | wr t fn xs =>
      refine ra 0 0 rfl _ s1 rfl ⟨rfl, _, rfl, ?_⟩
      rw [if_neg (by simp)]
      refine ra 2 2 rfl _ s1 rfl ⟨rfl, _, rfl, ?_⟩
      rw [if_pos (by simp)]
      have hx1 : upd H p (.lst []) p = some (.lst (([] : List Str).map V.str)) := upd_same
      have hn' : xs.length ≤ 3 := hn
      refine ra 2 2 rfl _ s1 rfl (ra 3 3 rfl _ s1 rfl ⟨by rw [sizeLine_eq]; decide, fun p3 hp3 => ?_⟩)
      refine .inr (.inr (.inr ⟨p, p3, _, _, rfl, rfl, UL.Same.new hp3 _ _ hx1, upd_same, by simp [sizeLine_eq], fun p4 hp4 => ?_⟩))
      have s4 := Same.tr (Same.tr s1 (UL.Same.new (o := .lst [V.str (Str.ofString "write"), V.str t, V.str (Str.ofString "by"), V.str fn]) hp3)) (UL.Same.new (o := .lst (([] : List Str).map V.str ++ [V.str (Str.ofString "write"), V.str t, V.str (Str.ofString "by"), V.str fn])) hp4)
      refine ra 4 4 rfl _ s4 rfl (fun p5 hp5 => neT3 hfx rfl (.inl (.inl (UL.Same.new hp5 _ _ (s4 _ _ he)))) (.inl (.inl upd_same)) ⟨_, rfl, ?_⟩)
      have s5 := Same.tr s4 (UL.Same.new (o := .tup []) hp5)
      by_cases hxs : xs = []
      · subst hxs
        rw [if_neg (by simp [Sk.args])]
        exact ⟨⟨_, rfl⟩, p4, rfl, ([] : List Str) ++ wrT t fn [], .inl (.inl (.inl (UL.Same.new hp5 _ _ (by rw [upd_same, List.map_append]; rfl)))), hj, q _ s5⟩
      · rw [if_pos (by simp [Sk.args, hxs])]
        refine ⟨by rw [sizeLine_eq]; decide, fun p6 hp6 => .inr (.inr (.inr ⟨p4, p6, _, _, rfl, rfl, UL.Same.new hp6 _ _ (UL.Same.new hp5 _ _ upd_same), upd_same, by simp [sizeLine_eq], fun p7 hp7 => ?_⟩))⟩
        have s7 := Same.tr (Same.tr s5 (UL.Same.new (o := .lst [V.str (Str.ofString "of")]) hp6)) (UL.Same.new (o := .lst (([] : List Str).map V.str ++ [V.str (Str.ofString "write"), V.str t, V.str (Str.ofString "by"), V.str fn] ++ [V.str (Str.ofString "of")])) hp7)
        refine ra 4 4 rfl _ s7 rfl ⟨e, _, rfl, .inr (.inl (.inl (s7 _ _ he))), fun p8 hp8 => .inr (.inr (.inr ⟨p7, p8, _, _, rfl, rfl, UL.Same.new hp8 _ _ upd_same, upd_same, by simp [sizeLine_eq, Sk.args]; omega, fun p9 hp9 => ?_⟩))⟩
        have ew : wrT t fn xs = (("write" : Str) :: t :: ("by" : Str) :: fn :: ("of" : Str) :: xs) := by unfold wrT; rw [if_neg hxs]
        exact ⟨⟨_, rfl⟩, p9, rfl, ([] : List Str) ++ wrT t fn xs, .inl (.inl (.inl (by rw [upd_same, ew]; simp [Sk.args]))), hj, q _ (Same.tr (Same.tr s7 (UL.Same.new hp8)) (UL.Same.new hp9))⟩
    | rw sr l t fn xs =>
      refine ra 0 0 rfl _ s1 rfl ⟨rfl, _, rfl, ?_⟩
      rw [if_pos (by simp)]
      refine ra 0 0 rfl _ s1 rfl (ra 1 1 rfl _ s1 rfl ⟨by rw [sizeLine_eq]; decide, fun p2 hp2 => ?_⟩)
      have s2 := Same.tr s1 (UL.Same.new (o := .lst [V.str (Str.ofString "read"), V.str sr, V.str (Str.ofString "as"), V.str l]) hp2)
      have hx2 : upd (upd H p (.lst [])) p2 (.lst [V.str (Str.ofString "read"), V.str sr, V.str (Str.ofString "as"), V.str l]) p2 = some (.lst ([("read" : Str), sr, "as", l].map V.str)) := upd_same
      refine ra 2 2 rfl _ s2 rfl ⟨rfl, _, rfl, ?_⟩
      rw [if_pos (by simp)]
      have hn' : xs.length ≤ 3 := hn
      refine ra 2 2 rfl _ s2 rfl (ra 3 3 rfl _ s2 rfl ⟨by rw [sizeLine_eq]; decide, fun p3 hp3 => ?_⟩)
      refine .inr (.inr (.inr ⟨p2, p3, _, _, rfl, rfl, UL.Same.new hp3 _ _ hx2, upd_same, by simp [sizeLine_eq], fun p4 hp4 => ?_⟩))
      have s4 := Same.tr (Same.tr s2 (UL.Same.new (o := .lst [V.str (Str.ofString "write"), V.str t, V.str (Str.ofString "by"), V.str fn]) hp3)) (UL.Same.new (o := .lst ([("read" : Str), sr, "as", l].map V.str ++ [V.str (Str.ofString "write"), V.str t, V.str (Str.ofString "by"), V.str fn])) hp4)
      refine ra 4 4 rfl _ s4 rfl (fun p5 hp5 => neT3 hfx rfl (.inl (.inl (UL.Same.new hp5 _ _ (s4 _ _ he)))) (.inl (.inl upd_same)) ⟨_, rfl, ?_⟩)
      have s5 := Same.tr s4 (UL.Same.new (o := .tup []) hp5)
      by_cases hxs : xs = []
      · subst hxs
        rw [if_neg (by simp [Sk.args])]
        exact ⟨⟨_, rfl⟩, p4, rfl, [("read" : Str), sr, "as", l] ++ wrT t fn [], .inl (.inl (.inl (UL.Same.new hp5 _ _ (by rw [upd_same, List.map_append]; rfl)))), hj, q _ s5⟩
      · rw [if_pos (by simp [Sk.args, hxs])]
        refine ⟨by rw [sizeLine_eq]; decide, fun p6 hp6 => .inr (.inr (.inr ⟨p4, p6, _, _, rfl, rfl, UL.Same.new hp6 _ _ (UL.Same.new hp5 _ _ upd_same), upd_same, by simp [sizeLine_eq], fun p7 hp7 => ?_⟩))⟩
        have s7 := Same.tr (Same.tr s5 (UL.Same.new (o := .lst [V.str (Str.ofString "of")]) hp6)) (UL.Same.new (o := .lst ([("read" : Str), sr, "as", l].map V.str ++ [V.str (Str.ofString "write"), V.str t, V.str (Str.ofString "by"), V.str fn] ++ [V.str (Str.ofString "of")])) hp7)
        refine ra 4 4 rfl _ s7 rfl ⟨e, _, rfl, .inr (.inl (.inl (s7 _ _ he))), fun p8 hp8 => .inr (.inr (.inr ⟨p7, p8, _, _, rfl, rfl, UL.Same.new hp8 _ _ upd_same, upd_same, by simp [sizeLine_eq, Sk.args]; omega, fun p9 hp9 => ?_⟩))⟩
        have ew : wrT t fn xs = (("write" : Str) :: t :: ("by" : Str) :: fn :: ("of" : Str) :: xs) := by unfold wrT; rw [if_neg hxs]
        exact ⟨⟨_, rfl⟩, p9, rfl, [("read" : Str), sr, "as", l] ++ wrT t fn xs, .inl (.inl (.inl (by rw [upd_same, ew]; simp [Sk.args]))), hj, q _ (Same.tr (Same.tr s7 (UL.Same.new hp8)) (UL.Same.new hp9))⟩
theorem isiG {H : Hp} {a : Addr} {ty t : String} {r : Bool} (h : TyX K H (.ref a) (.type ty)) (hk : PySem.W.kitOne K (.type ty) (.type t) = some r) {Q : VK} (q : Q (.bl r) H) : rIsi K [.ref a, .ty t] H Q := ⟨_, _, _, _, _, rfl, .ty t, h, hk, q⟩
end
end U

set_option Elab.async false
set_option linter.all false
set_option maxRecDepth 100000
set_option maxHeartbeats 4000000
set_option pp.deepTerms true
set_option pp.maxSteps 400000
namespace U
open PySem PySem.Spec PyProof.Rows L2 UL UX
local macro_rules | `(tactic| walk_at "rd") => `(tactic| simp only [sMatch, tJs, tFmt, tBC, tMethA, tMakeL, iEnumS, tSeq, tAsg, tOp, tCB, tCons, tNil, tVar, tC, tB, tTest, tNot, tIfS, tNext, tYes, tUn, rU, tM0, tGFrom, tGThen, tG0, tYfLst, gcxK, tSubO, tProp, tListG, tMethG, tBMF, tFld, sFld, tMeth, tMake, tSl, tNoPart, tPart, tM1, gTup, gCons, gNil, tDrop, tFor_eq, tLc_eq, tLc2_eq, iRng1_eq, StX.tStar, iList, iTup, iStr, iAny_var, iZipB, tLenSetS, wipe, tVar, tAndV, tOrV, tNotV, tOr, tAnd, tLst, tTup, tBM, tBM0, tChain, tCall, cxK, noxK, addII, addSS, mulII, eqII, neII, neSS, cIntI, cAbsI, rI, rI0, rLt, rLe, rGt_, rGe_, rSub_, rMod, rPow, rDivW, rNeg, gName, tRet, L2.start, List.length_cons, List.length_nil, List.map_cons, List.map_nil, List.replicate, List.cons_append, List.nil_append, List.getElem?_cons_zero, List.getElem?_cons_succ, List.set_cons_zero, List.set_cons_succ, Option.some.injEq, exists_eq_left', exists_eq_left, V.int.injEq, V.bl.injEq, V.str.injEq, V.ref.injEq, V.ty.injEq, List.cons.injEq, and_true, true_and, reduceCtorEq, false_and, exists_false, or_false, false_or, exists_and_left, exists_and_right, List.append_nil, forall_eq, decide_eq_true_eq, Bool.not_eq_true, Nat.reduceAdd, Nat.reduceSub, List.replicate_zero, List.replicate_succ, Nat.zero_le, ite_true, ite_false, if_true, if_false])
section
variable {P : Program} {w : World} {K : PySem.W.Frag} {mg : Str → Option Value} {base : Heap}

open UW
variable {R Wr B Pg : Addr}
theorem nm_ok {z : Str} (h : isNm z) : PyData.strOk z = true := by
  have h : nmB z = true := h
  simp only [nmB, Bool.and_eq_true, List.all_eq_true, decide_eq_true_eq] at h
  have e : ∀ c ∈ abc.cps.toList, c < 0x110000 := by rw [abc_eq]; intro c hc; obtain ⟨n, hn, rfl⟩ := List.mem_map.mp hc; have := List.mem_range.mp hn; omega
  show (z.cps.all (· < 0x110000)) = true
  rw [Array.all_eq_true_iff_forall_mem]
  intro c hc
  exact decide_eq_true (e c (h.2 c (by simpa using hc)))
abbrev s__law_step : Stmt := top 40
abbrev sc__law_step_N : List Str := ["_law_pool_here", "_law_cells", "_law_words", "_law_functions_here", "_law_known", "_law_kind", "_law_source", "_law_local", "_law_target", "_law_names_here", "_law_which", "_law_inputs", "_law_k"]
theorem sc__law_step : FnScope sc__law_step_N ["_law_pool_here", "_law_cells", "_law_words", "_law_functions_here", "_law_known"] (defScope s__law_step) := ⟨rfl, rfl, rfl, by decide +kernel, rfl, by decide +kernel, by decide +kernel⟩
-- 0 _law_pool_here, 1 _law_cells, 2 _law_words, 3 _law_functions_here, 4 _law_known, 5 _law_kind, 6 _law_source, 7 _law_local, 8 _law_target, 9 _law_names_here, 10 _law_which, 11 _law_inputs, 12 _law_k
def Good (kn : List Str) (k : Sk) : Prop := (∀ x ∈ k.src ++ k.loc ++ k.tgt, isNm x) ∧ (∀ f, (match k with | .rd .. => none | .wr _ f _ | .rw _ _ _ f _ => some f) = some f → isNm f) ∧ (∀ x ∈ k.args, x ∈ kn ++ k.loc) ∧ k.args.length ≤ 3
theorem catT {H : Hp} {Q : VK} {a b : Addr} {xs ys : List V} (ha : SqT K H a xs) (hb : H b = some (.tup ys)) (hy : ys ≠ []) (hl : xs.length + ys.length ≤ sizeLine) (q : ∀ r H', H' r = some (.tup (xs ++ ys)) → Same H H' → Q (.ref r) H') : rAddA K (.ref a) (.ref b) H Q :=
  .inr (.inr (.inl ⟨a, b, xs, ys, rfl, rfl, ha, .inl (.inl hb), hl, fun e => q b H (by rw [e]; exact hb) (fun _ _ z => z), fun _ e => absurd e hy, fun _ _ p hp => q p _ upd_same (UL.Same.new hp)⟩))
theorem good_wr {t f : Str} {xs kn : List Str} (ht : isNm t) (hf : isNm f) (hx : ∀ x ∈ xs, x ∈ kn) (h3 : xs.length ≤ 3) : Good kn (.wr t f xs) :=
  ⟨fun x h => by have e : x = t := by simpa [Sk.src, Sk.loc, Sk.tgt] using h
                 rw [e]; exact ht, fun g e => by cases e; exact hf, fun x h => List.mem_append_left _ (hx x h), h3⟩
theorem good_rd {s l : Str} {kn : List Str} (hs : isNm s) (hl : isNm l) : Good kn (.rd s l) :=
  ⟨fun x h => by have e : x = s ∨ x = l := by simpa [Sk.src, Sk.loc, Sk.tgt] using h
                 rcases e with rfl | rfl
                 · exact hs
                 · exact hl, (fun g e => by cases e), (fun x h => by cases h), Nat.zero_le _⟩
theorem good_rw {s l t f : Str} {xs kn : List Str} (hs : isNm s) (hl : isNm l) (ht : isNm t) (hf : isNm f) (hx : ∀ x ∈ xs, x ∈ kn ++ [l]) (h3 : xs.length ≤ 3) : Good kn (.rw s l t f xs) :=
  ⟨fun x h => by have e : x = s ∨ x = l ∨ x = t := by simpa [Sk.src, Sk.loc, Sk.tgt] using h
                 rcases e with rfl | rfl | rfl
                 · exact hs
                 · exact hl
                 · exact ht, fun g e => by cases e; exact hf, hx, h3⟩
theorem Same.free {H H' : Hp} {p : Addr} (s : Same H H') (h : H' p = none) : H p = none := by
  cases e : H p with
  | none => rfl
  | some o => rw [s _ _ e] at h; cases h
def Sk.fa : Sk → Option (Str × Nat)
  | .rd .. => none
  | .wr _ f xs | .rw _ _ _ f xs => some (f, xs.length)
/-- the step's cells are of cs, its function is one of fs, with as many arguments as its place says -/
def InS (cs fs : List Str) (k : Sk) : Prop := (∀ c ∈ k.src ++ k.tgt, c ∈ cs) ∧ ∀ f n, k.fa = some (f, n) → ∃ i : Int, 0 ≤ i ∧ atI (fs.map V.str) i = some (V.str f) ∧ atI [V.int 1, .int 0, .int 2, .int 1, .int 3] i = some (V.int (n : Nat))
def sp_lstep (K : PySem.W.Frag) : Sp := fun vs H Q _ => ∃ (p a b c d : Addr) (cs ws fs kn : List Str), vs = [.ref p, .ref a, .ref b, .ref c, .ref d] ∧ Pl H p ∧ H a = some (.lst (cs.map V.str)) ∧ H b = some (.lst (ws.map V.str)) ∧ H c = some (.lst (fs.map V.str)) ∧ H d = some (.lst (kn.map V.str)) ∧ p ≠ a ∧ p ≠ b ∧ p ≠ c ∧ p ≠ d ∧
  1 ≤ cs.length ∧ cs.length ≤ 5 ∧ 1 ≤ ws.length ∧ ws.length ≤ 3 ∧ 2 ≤ fs.length ∧ fs.length ≤ 5 ∧ kn.length ≤ 4 ∧ (∀ z ∈ cs, isNm z) ∧ (∀ z ∈ ws, isNm z) ∧ (∀ z ∈ fs, isNm z) ∧ (∀ z ∈ kn, isNm z) ∧
  ∀ r k H', H r = none → RowA H' r k → Good kn k → InS cs fs k → Pl H' p → But p H H' → Q (.ref r) H'
theorem d_lstep (T : Nm mg) (D : TD K mg "_law_step" s__law_step) (d__law_draw : Dn P w K mg base CX0 1 "_law_draw" sp_draw) : Dn P w K mg base CX0 2 "_law_step" (sp_lstep K) := by
  refine D.dn sc__law_step (fun _ _ _ _ _ _ us hl => match us, hl with | [_, _, _, _, _], _ => rfl) (fun vs H Q E h => ?_) (fun f cdv A outer s H vs Q E hr h => ?_)
  · obtain ⟨p, a, b, c, d, cs, ws, fs, kn, rfl, _⟩ := h; rfl
  · obtain ⟨p, a, b, c, d, cs, ws, fs, kn, rfl, hp, ha, hb, hc, hd, na, nb, nc, nd, c1, c3, w1, w3, f2, f5, k4, ic, iw, iff, ik, q⟩ := h
    refine ⟨_, (pss_cons (ps_set (i := 5) sc__law_step.nd rfl (Or.inl rfl) (pe_d d__law_draw hr (by decide) pass0 (by rfl) (pa_cons (pv 0) (pa_cons pe_int pa_nil))))
      (pss_cons (ps_set (i := 6) sc__law_step.nd rfl (Or.inl rfl) pe_non)
      (pss_cons (ps_set (i := 7) sc__law_step.nd rfl (Or.inl rfl) pe_non)
      (pss_cons (ps_if (pt_cmpR (op_neA (hr.units)) (pv 5) pe_int (nomark _)) (pss_cons (ps_set (i := 6) sc__law_step.nd rfl (Or.inl rfl) (pe_ix ix_seq (pv 1) (pe_d d__law_draw hr (by decide) pass0 (by rfl) (pa_cons (pv 0) (pa_cons (pe_callB call_lenA (by rfl) T.n_len (by decide +kernel) (pa_cons (pv 1) pa_nil)) pa_nil))) (fun _ _ => rfl)))
      (pss_one (ps_set (i := 7) sc__law_step.nd rfl (Or.inl rfl) (pe_ix ix_seq (pv 2) (pe_d d__law_draw hr (by decide) pass0 (by rfl) (pa_cons (pv 0) (pa_cons (pe_callB call_lenA (by rfl) T.n_len (by decide +kernel) (pa_cons (pv 2) pa_nil)) pa_nil))) (fun _ _ => rfl))))) pss_nil)
      (pss_cons (ps_if (pt_cmpR (op_eqA (hr.units)) (pv 5) pe_int (nomark _)) (pss_one (ps_ret (pe_tup (pa_cons (pv 6) (pa_cons (pv 7) (pa_cons pe_non (pa_cons pe_non (pa_cons (pe_tup pa_nil) pa_nil)))))))) pss_nil)
      (pss_cons (ps_set (i := 8) sc__law_step.nd rfl (Or.inl rfl) (pv 6))
      (pss_cons (ps_if (pt_cmpR (op_neA (hr.units)) (pv 5) pe_int (nomark _)) (pss_one (ps_set (i := 8) sc__law_step.nd rfl (Or.inl rfl) (pe_ix ix_seq (pv 1) (pe_d d__law_draw hr (by decide) pass0 (by rfl) (pa_cons (pv 0) (pa_cons (pe_callB call_lenA (by rfl) T.n_len (by decide +kernel) (pa_cons (pv 1) pa_nil)) pa_nil))) (fun _ _ => rfl)))) pss_nil)
      (pss_cons (ps_set (i := 9) sc__law_step.nd rfl (Or.inl rfl) (pe_callTy call_listA (by rfl) T.n_list (by decide +kernel) (pa_cons (pv 4) pa_nil)))
      (pss_cons (ps_if (pt_cmpR op_notNone (pv 7) pe_non (nomark _)) (pss_one (ps_expr (pe_bm PySem.F.plainAttrs_list PySem.F.slot_list_append PySem.F.type_list_append mt_append (pv 9) (pa_cons (pv 7) pa_nil)))) pss_nil)
      (pss_cons (ps_set (i := 10) sc__law_step.nd rfl (Or.inl rfl) (pe_d d__law_draw hr (by decide) pass0 (by rfl) (pa_cons (pv 0) (pa_cons (pe_callB call_lenA (by rfl) T.n_len (by decide +kernel) (pa_cons (pv 3) pa_nil)) pa_nil))))
      (pss_cons (ps_if (pt_cmpR (op_eqA (hr.units)) (pv 9) (pe_lst pa_nil) (nomark _)) (pss_one (ps_set (i := 10) sc__law_step.nd rfl (Or.inl rfl) pe_int)) pss_nil)
      (pss_cons (ps_set (i := 11) sc__law_step.nd rfl (Or.inl rfl) (pe_tup pa_nil))
      (pss_cons (ps_for PassesOwn.never rfl (pi_range1 (by rfl) T.n_range (pa_cons (pe_ix ix_seq (pe_lst (pa_cons pe_int (pa_cons pe_int (pa_cons pe_int (pa_cons pe_int (pa_cons pe_int pa_nil)))))) (pv 10) (fun _ _ => rfl)) pa_nil)) (pg_name (i := 12) sc__law_step.nd rfl (Or.inl rfl)) (pss_one (ps_set (i := 11) sc__law_step.nd rfl (Or.inl rfl) (pe_op op_addA (pv 11) (pe_tup (pa_cons (pe_ix ix_seq (pv 9) (pe_d d__law_draw hr (by decide) pass0 (by rfl) (pa_cons (pv 0) (pa_cons (pe_callB call_lenA (by rfl) T.n_len (by decide +kernel) (pa_cons (pv 9) pa_nil)) pa_nil))) (fun _ _ => rfl)) pa_nil))))))
      (pss_one (ps_ret (pe_tup (pa_cons (pv 6) (pa_cons (pv 7) (pa_cons (pv 8) (pa_cons (pe_ix ix_seq (pv 3) (pv 10) (fun _ _ => rfl)) (pa_cons (pv 11) pa_nil))))))))))))))))))))), ?_⟩
    walk_at "rd"
    have atc : ∀ {xs : List Str} {r : Int}, 0 ≤ r → r < (xs.length : Int) → ∃ z, atI (xs.map V.str) r = some (V.str z) ∧ z ∈ xs := fun {xs r} h0 h1 => by
      obtain ⟨n, rfl⟩ := Int.eq_ofNat_of_zero_le h0
      have hn : n < xs.length := by omega
      exact ⟨xs[n], atN (by rw [List.getElem?_map]; simp [hn]), List.getElem_mem hn⟩
    have inp : ∀ wv : Int, 0 ≤ wv → wv < 5 → ∃ m : Int, atI [V.int 1, .int 0, .int 2, .int 1, .int 3] wv = some (.int m) ∧ 0 ≤ m ∧ m ≤ 3 ∧ (wv = 1 → m = 0) := fun wv h0 h5 => by
      have hc5 : wv = 0 ∨ wv = 1 ∨ wv = 2 ∨ wv = 3 ∨ wv = 4 := by omega
      rcases hc5 with rfl | rfl | rfl | rfl | rfl
      · exact ⟨1, rfl, by decide, by decide, by decide⟩
      · exact ⟨0, rfl, by decide, by decide, by decide⟩
      · exact ⟨2, rfl, by decide, by decide, by decide⟩
      · exact ⟨1, rfl, by decide, by decide, by decide⟩
      · exact ⟨3, rfl, by decide, by decide, by decide⟩
    refine drawI (by decide) hp fun kd H1 k0 k4' hp1 b1 => neII.mpr ⟨_, rfl, ?_⟩
    by_cases e2 : kd = 2
    · rw [if_neg (by simp [e2])]
      have kd2 : kd = 2 := e2
      refine eqII.mpr ⟨_, rfl, ?_⟩
      rw [if_neg (by simp [e2])]
      refine neII.mpr ⟨_, rfl, ?_⟩
      rw [if_pos (by simp [e2])]
      refine lenL (.inl (.inl (b1 _ _ ha (Ne.symm na)))) (drawI (by simp; omega) hp1 fun r1 H3 r10 r1l hp3 b3 => ?_)
      have b13 := But.tr b1 b3
      obtain ⟨tg, htg, htm⟩ := atc (xs := cs) r10 (by simpa using r1l)
      refine ixL (.inl (.inl (b13 _ _ ha (Ne.symm na)))) htg ⟨d, _, rfl, .inl (.inl (.inl (b13 _ _ hd (Ne.symm nd)))), fun l hl0 => ⟨rfl, _, rfl, ?_⟩⟩
      rw [if_neg (by simp)]
      have hl : upd H3 l (.lst (kn.map V.str)) l = some (.lst (kn.map V.str)) := upd_same
      have npl : p ≠ l := hp3.ne hl0
      have hpc : Pl (upd H3 l (.lst (kn.map V.str))) p := hp3.put npl
      have bc : But p H (upd H3 l (.lst (kn.map V.str))) := But.tr b13 (UL.Same.but (UL.Same.new hl0))
      generalize upd H3 l (.lst (kn.map V.str)) = Hc at hl hpc bc ⊢
      have hfl : (kn.map V.str).all fl3 = true := by
        rw [List.all_map, List.all_eq_true]
        exact fun x hx => nm_ok (ik x hx)
      obtain ⟨ns, ens⟩ : ∃ ns, ns = kn := ⟨_, rfl⟩
      rw [← ens] at hl hfl
      refine lenL (.inl (.inl (bc _ _ hc (Ne.symm nc)))) (drawI (by simp; omega) hpc fun wh H2 w0 wlt hp2 b2 => fun p1 hp1' => ?_)
      have hl2 : H2 l = some (.lst (ns.map V.str)) := b2 _ _ hl (Ne.symm npl)
      have wl5 : wh < (fs.length : Int) := by simpa using wlt
      refine eqL3 (xs := ns.map V.str) (ys := []) hfl rfl (.inl (.inl (UL.Same.new hp1' _ _ hl2))) (.inl (.inl upd_same)) ⟨_, rfl, ?_⟩
      by_cases hnn : ns = []
      · rw [if_pos (by simp [hnn])]
        refine fun p2 hp2' => ⟨by rw [sizeLine_eq]; decide, fun p3 hp3 => ?_⟩
        obtain ⟨m, hm, m0, m3, mz⟩ := inp (1) (by omega) (by omega)
        have s3 : Same H2 (upd (upd (upd H2 p1 (.lst [])) p2 (.tup [])) p3 (.lst [V.int 1, .int 0, .int 2, .int 1, .int 3])) := Same.tr (Same.tr (UL.Same.new hp1') (UL.Same.new hp2')) (UL.Same.new hp3)
        refine ixL (.inl (.inl upd_same)) hm ⟨m, rfl, by omega, by omega, FJ.rangeI (fun i σ' H' => ∃ (t : Addr) (xs : List Str) (z : Option V), σ' = [some (.ref p), some (.ref a), some (.ref b), some (.ref c), some (.ref d), some (.int kd), some V.non, some V.non, some (V.str tg), some (.ref l), some (.int (1)), some (.ref t), z] ∧ H' t = some (.tup (xs.map V.str)) ∧ xs.length = i ∧ (∀ x ∈ xs, x ∈ ns) ∧ Pl H' p ∧ But p H H' ∧ H' l = some (.lst (ns.map V.str))) m0 ⟨p2, [], _, rfl, ?_, rfl, (fun _ h => by cases h), hp2.same s3, But.tr bc (But.tr b2 (UL.Same.but s3)), s3 _ _ hl2⟩ (fun i σ' H' hi inv => ?_) fun σ' H' inv => ?_⟩
        · exact UL.Same.new hp3 _ _ upd_same
        · obtain ⟨t, xs, z, rfl, ht, hxl, hxm, hp5, b5, hl5⟩ := inv
          walk_at "rd"
          have hns : ns ≠ [] := fun _ => by have := mz rfl; omega
          have hnl : 0 < ns.length := List.length_pos_iff.mpr hns
          refine lenL (.inl (.inl hl5)) (drawI (by simp; omega) hp5 fun r H6 r0 rl hp6 b6 => ?_)
          obtain ⟨y, hy, hyn⟩ := atc (xs := ns) r0 (by simpa using rl)
          refine ixL (.inl (.inl (b6 _ _ hl5 (Ne.symm npl)))) hy ⟨by rw [sizeLine_eq]; decide, fun p7 hp7 => ?_⟩
          have ntp : t ≠ p := fun e => by obtain ⟨ms, e2⟩ := hp5; rw [e, e2] at ht; cases ht
          refine catT (xs := xs.map V.str) (.inl (.inl (UL.Same.new hp7 _ _ (b6 _ _ ht ntp)))) upd_same (by simp) (by simp [sizeLine_eq]; omega) fun rr H8 hr8 s8 => ?_
          have s68 : Same H6 H8 := Same.tr (UL.Same.new hp7) s8
          exact ⟨rr, ⟨rfl, _, rfl⟩, xs ++ [y], by rw [hr8, List.map_append]; rfl, by simp; omega, fun x hx => (List.mem_append.mp hx).elim (hxm x) fun h => by rw [List.mem_singleton.mp h]; exact hyn, hp6.same s68, But.tr b5 (But.tr b6 (UL.Same.but s68)), s68 _ _ (b6 _ _ hl5 (Ne.symm npl))⟩
        · obtain ⟨t, xs, z, rfl, ht, hxl, hxm, hp5, b5, hl5⟩ := inv
          walk_at "rd"
          obtain ⟨y, hy, hyn⟩ := atc (xs := fs) (r := (1)) (by omega) (by omega)
          refine ixL (.inl (.inl (b5 _ _ hc (Ne.symm nc)))) hy ⟨by rw [sizeLine_eq]; decide, fun p9 hp9 => ?_⟩
          have hx3 : xs.length ≤ 3 := by omega
          have inCells : ∀ c ∈ Sk.src (.wr tg y xs) ++ Sk.tgt (.wr tg y xs), c ∈ cs := by
            intro c h
            simp only [Sk.src, Sk.tgt, List.nil_append, List.append_nil, List.mem_append, List.mem_singleton, or_self, List.cons_append, List.mem_cons, List.not_mem_nil, or_false] at h
            first
              | (rw [h]; assumption)
              | (rcases h with h | h <;> (rw [h]; assumption))
          exact q p9 (.wr tg y xs) _ (But.free' b5 hp5 hp9) ⟨t, upd_same, UL.Same.new hp9 _ _ ht⟩ (good_wr (ic _ htm) (iff _ hyn) (fun x hx => by rw [← ens]; exact hxm x hx) hx3) ⟨inCells, fun f n h => by cases h; exact ⟨(1), by omega, hy, by rw [hm]; exact congrArg (fun z => some (V.int z)) (by omega)⟩⟩ (hp5.same (UL.Same.new hp9)) (But.tr b5 (UL.Same.but (UL.Same.new hp9)))
      · rw [if_neg (by simp [hnn])]
        refine fun p2 hp2' => ⟨by rw [sizeLine_eq]; decide, fun p3 hp3 => ?_⟩
        obtain ⟨m, hm, m0, m3, mz⟩ := inp (wh) (by omega) (by omega)
        have s3 : Same H2 (upd (upd (upd H2 p1 (.lst [])) p2 (.tup [])) p3 (.lst [V.int 1, .int 0, .int 2, .int 1, .int 3])) := Same.tr (Same.tr (UL.Same.new hp1') (UL.Same.new hp2')) (UL.Same.new hp3)
        refine ixL (.inl (.inl upd_same)) hm ⟨m, rfl, by omega, by omega, FJ.rangeI (fun i σ' H' => ∃ (t : Addr) (xs : List Str) (z : Option V), σ' = [some (.ref p), some (.ref a), some (.ref b), some (.ref c), some (.ref d), some (.int kd), some V.non, some V.non, some (V.str tg), some (.ref l), some (.int (wh)), some (.ref t), z] ∧ H' t = some (.tup (xs.map V.str)) ∧ xs.length = i ∧ (∀ x ∈ xs, x ∈ ns) ∧ Pl H' p ∧ But p H H' ∧ H' l = some (.lst (ns.map V.str))) m0 ⟨p2, [], _, rfl, ?_, rfl, (fun _ h => by cases h), hp2.same s3, But.tr bc (But.tr b2 (UL.Same.but s3)), s3 _ _ hl2⟩ (fun i σ' H' hi inv => ?_) fun σ' H' inv => ?_⟩
        · exact UL.Same.new hp3 _ _ upd_same
        · obtain ⟨t, xs, z, rfl, ht, hxl, hxm, hp5, b5, hl5⟩ := inv
          walk_at "rd"
          have hns : ns ≠ [] := hnn
          have hnl : 0 < ns.length := List.length_pos_iff.mpr hns
          refine lenL (.inl (.inl hl5)) (drawI (by simp; omega) hp5 fun r H6 r0 rl hp6 b6 => ?_)
          obtain ⟨y, hy, hyn⟩ := atc (xs := ns) r0 (by simpa using rl)
          refine ixL (.inl (.inl (b6 _ _ hl5 (Ne.symm npl)))) hy ⟨by rw [sizeLine_eq]; decide, fun p7 hp7 => ?_⟩
          have ntp : t ≠ p := fun e => by obtain ⟨ms, e2⟩ := hp5; rw [e, e2] at ht; cases ht
          refine catT (xs := xs.map V.str) (.inl (.inl (UL.Same.new hp7 _ _ (b6 _ _ ht ntp)))) upd_same (by simp) (by simp [sizeLine_eq]; omega) fun rr H8 hr8 s8 => ?_
          have s68 : Same H6 H8 := Same.tr (UL.Same.new hp7) s8
          exact ⟨rr, ⟨rfl, _, rfl⟩, xs ++ [y], by rw [hr8, List.map_append]; rfl, by simp; omega, fun x hx => (List.mem_append.mp hx).elim (hxm x) fun h => by rw [List.mem_singleton.mp h]; exact hyn, hp6.same s68, But.tr b5 (But.tr b6 (UL.Same.but s68)), s68 _ _ (b6 _ _ hl5 (Ne.symm npl))⟩
        · obtain ⟨t, xs, z, rfl, ht, hxl, hxm, hp5, b5, hl5⟩ := inv
          walk_at "rd"
          obtain ⟨y, hy, hyn⟩ := atc (xs := fs) (r := (wh)) (by omega) (by omega)
          refine ixL (.inl (.inl (b5 _ _ hc (Ne.symm nc)))) hy ⟨by rw [sizeLine_eq]; decide, fun p9 hp9 => ?_⟩
          have hx3 : xs.length ≤ 3 := by omega
          have inCells : ∀ c ∈ Sk.src (.wr tg y xs) ++ Sk.tgt (.wr tg y xs), c ∈ cs := by
            intro c h
            simp only [Sk.src, Sk.tgt, List.nil_append, List.append_nil, List.mem_append, List.mem_singleton, or_self, List.cons_append, List.mem_cons, List.not_mem_nil, or_false] at h
            first
              | (rw [h]; assumption)
              | (rcases h with h | h <;> (rw [h]; assumption))
          exact q p9 (.wr tg y xs) _ (But.free' b5 hp5 hp9) ⟨t, upd_same, UL.Same.new hp9 _ _ ht⟩ (good_wr (ic _ htm) (iff _ hyn) (fun x hx => by rw [← ens]; exact hxm x hx) hx3) ⟨inCells, fun f n h => by cases h; exact ⟨(wh), by omega, hy, by rw [hm]; exact congrArg (fun z => some (V.int z)) (by omega)⟩⟩ (hp5.same (UL.Same.new hp9)) (But.tr b5 (UL.Same.but (UL.Same.new hp9)))
    · rw [if_pos (by simp [e2])]
      refine lenL (.inl (.inl (b1 _ _ ha (Ne.symm na)))) (drawI (by simp; omega) hp1 fun r1 H3 r10 r1l hp3 b3 => ?_)
      have b13 := But.tr b1 b3
      obtain ⟨sr, hsr, srm⟩ := atc (xs := cs) r10 (by simpa using r1l)
      refine ixL (.inl (.inl (b13 _ _ ha (Ne.symm na)))) hsr (lenL (.inl (.inl (b13 _ _ hb (Ne.symm nb)))) (drawI (by simp; omega) hp3 fun r2 H4 r20 r2l hp4 b4 => ?_))
      have b14 := But.tr b13 b4
      obtain ⟨lc, hlc, lcm⟩ := atc (xs := ws) r20 (by simpa using r2l)
      refine ixL (.inl (.inl (b14 _ _ hb (Ne.symm nb)))) hlc (eqII.mpr ⟨_, rfl, ?_⟩)
      by_cases e1 : kd = 1
      · rw [if_pos (by simp [e1])]
        refine fun p2 hp2 => ⟨by rw [sizeLine_eq]; decide, fun p3 hp3 => ?_⟩
        have s3 : Same H4 (upd (upd H4 p2 (.tup [])) p3 (.tup [.str sr, .str lc, .non, .non, .ref p2])) := Same.tr (UL.Same.new hp2) (UL.Same.new hp3)
        exact q p3 (.rd sr lc) _ (But.free' b14 hp4 (Same.free (UL.Same.new hp2) hp3)) ⟨p2, upd_same, UL.Same.new hp3 _ _ upd_same⟩ (good_rd (ic _ srm) (iw _ lcm)) ⟨fun c h => (have e : c = sr := (by simpa [Sk.src, Sk.tgt] using h); (by rw [e]; exact srm)), fun f n h => by cases h⟩ (hp4.same s3) (But.tr b14 (UL.Same.but s3))
      · rw [if_neg (by simp [e1])]
        refine neII.mpr ⟨_, rfl, ?_⟩
        by_cases e0 : kd = 0
        · rw [if_neg (by simp [e0])]
          refine ⟨d, _, rfl, .inl (.inl (.inl (b14 _ _ hd (Ne.symm nd)))), fun l hl0 => ⟨rfl, _, rfl, ?_⟩⟩
          rw [if_pos (by simp)]
          refine ⟨.inl ⟨rfl, _, .inl (.inl upd_same)⟩, l, _, _, rfl, rfl, upd_same, by rw [List.length_map, sizeLine_eq]; omega, ?_⟩
          rw [upd_upd]
          have en : kn.map V.str ++ [V.str lc] = (kn ++ [lc]).map V.str := by simp
          rw [en]
          have hl : upd H4 l (.lst ((kn ++ [lc]).map V.str)) l = some (.lst ((kn ++ [lc]).map V.str)) := upd_same
          have npl : p ≠ l := hp4.ne hl0
          have hpc : Pl (upd H4 l (.lst ((kn ++ [lc]).map V.str))) p := hp4.put npl
          have bc : But p H (upd H4 l (.lst ((kn ++ [lc]).map V.str))) := But.tr b14 (UL.Same.but (UL.Same.new hl0))
          generalize upd H4 l (.lst ((kn ++ [lc]).map V.str)) = Hc at hl hpc bc ⊢
          have hfl : ((kn ++ [lc]).map V.str).all fl3 = true := by
            rw [List.all_map, List.all_eq_true]
            exact fun x hx => nm_ok ((List.mem_append.mp hx).elim (ik x) fun h => by rw [List.mem_singleton.mp h]; exact iw _ lcm)
          obtain ⟨ns, ens⟩ : ∃ ns, ns = kn ++ [lc] := ⟨_, rfl⟩
          rw [← ens] at hl hfl
          refine lenL (.inl (.inl (bc _ _ hc (Ne.symm nc)))) (drawI (by simp; omega) hpc fun wh H2 w0 wlt hp2 b2 => fun p1 hp1' => ?_)
          have hl2 : H2 l = some (.lst (ns.map V.str)) := b2 _ _ hl (Ne.symm npl)
          have wl5 : wh < (fs.length : Int) := by simpa using wlt
          refine eqL3 (xs := ns.map V.str) (ys := []) hfl rfl (.inl (.inl (UL.Same.new hp1' _ _ hl2))) (.inl (.inl upd_same)) ⟨_, rfl, ?_⟩
          by_cases hnn : ns = []
          · rw [if_pos (by simp [hnn])]
            refine fun p2 hp2' => ⟨by rw [sizeLine_eq]; decide, fun p3 hp3 => ?_⟩
            obtain ⟨m, hm, m0, m3, mz⟩ := inp (1) (by omega) (by omega)
            have s3 : Same H2 (upd (upd (upd H2 p1 (.lst [])) p2 (.tup [])) p3 (.lst [V.int 1, .int 0, .int 2, .int 1, .int 3])) := Same.tr (Same.tr (UL.Same.new hp1') (UL.Same.new hp2')) (UL.Same.new hp3)
            refine ixL (.inl (.inl upd_same)) hm ⟨m, rfl, by omega, by omega, FJ.rangeI (fun i σ' H' => ∃ (t : Addr) (xs : List Str) (z : Option V), σ' = [some (.ref p), some (.ref a), some (.ref b), some (.ref c), some (.ref d), some (.int kd), some (V.str sr), some (V.str lc), some (V.str sr), some (.ref l), some (.int (1)), some (.ref t), z] ∧ H' t = some (.tup (xs.map V.str)) ∧ xs.length = i ∧ (∀ x ∈ xs, x ∈ ns) ∧ Pl H' p ∧ But p H H' ∧ H' l = some (.lst (ns.map V.str))) m0 ⟨p2, [], _, rfl, ?_, rfl, (fun _ h => by cases h), hp2.same s3, But.tr bc (But.tr b2 (UL.Same.but s3)), s3 _ _ hl2⟩ (fun i σ' H' hi inv => ?_) fun σ' H' inv => ?_⟩
            · exact UL.Same.new hp3 _ _ upd_same
            · obtain ⟨t, xs, z, rfl, ht, hxl, hxm, hp5, b5, hl5⟩ := inv
              walk_at "rd"
              have hns : ns ≠ [] := fun _ => by have := mz rfl; omega
              have hnl : 0 < ns.length := List.length_pos_iff.mpr hns
              refine lenL (.inl (.inl hl5)) (drawI (by simp; omega) hp5 fun r H6 r0 rl hp6 b6 => ?_)
              obtain ⟨y, hy, hyn⟩ := atc (xs := ns) r0 (by simpa using rl)
              refine ixL (.inl (.inl (b6 _ _ hl5 (Ne.symm npl)))) hy ⟨by rw [sizeLine_eq]; decide, fun p7 hp7 => ?_⟩
              have ntp : t ≠ p := fun e => by obtain ⟨ms, e2⟩ := hp5; rw [e, e2] at ht; cases ht
              refine catT (xs := xs.map V.str) (.inl (.inl (UL.Same.new hp7 _ _ (b6 _ _ ht ntp)))) upd_same (by simp) (by simp [sizeLine_eq]; omega) fun rr H8 hr8 s8 => ?_
              have s68 : Same H6 H8 := Same.tr (UL.Same.new hp7) s8
              exact ⟨rr, ⟨rfl, _, rfl⟩, xs ++ [y], by rw [hr8, List.map_append]; rfl, by simp; omega, fun x hx => (List.mem_append.mp hx).elim (hxm x) fun h => by rw [List.mem_singleton.mp h]; exact hyn, hp6.same s68, But.tr b5 (But.tr b6 (UL.Same.but s68)), s68 _ _ (b6 _ _ hl5 (Ne.symm npl))⟩
            · obtain ⟨t, xs, z, rfl, ht, hxl, hxm, hp5, b5, hl5⟩ := inv
              walk_at "rd"
              obtain ⟨y, hy, hyn⟩ := atc (xs := fs) (r := (1)) (by omega) (by omega)
              refine ixL (.inl (.inl (b5 _ _ hc (Ne.symm nc)))) hy ⟨by rw [sizeLine_eq]; decide, fun p9 hp9 => ?_⟩
              have hx3 : xs.length ≤ 3 := by omega
              have inCells : ∀ c ∈ Sk.src (.rw sr lc sr y xs) ++ Sk.tgt (.rw sr lc sr y xs), c ∈ cs := by
                intro c h
                simp only [Sk.src, Sk.tgt, List.nil_append, List.append_nil, List.mem_append, List.mem_singleton, or_self, List.cons_append, List.mem_cons, List.not_mem_nil, or_false] at h
                first
                  | (rw [h]; assumption)
                  | (rcases h with h | h <;> (rw [h]; assumption))
              exact q p9 (.rw sr lc sr y xs) _ (But.free' b5 hp5 hp9) ⟨t, upd_same, UL.Same.new hp9 _ _ ht⟩ (good_rw (ic _ srm) (iw _ lcm) (ic _ srm) (iff _ hyn) (fun x hx => by rw [← ens]; exact hxm x hx) hx3) ⟨inCells, fun f n h => by cases h; exact ⟨(1), by omega, hy, by rw [hm]; exact congrArg (fun z => some (V.int z)) (by omega)⟩⟩ (hp5.same (UL.Same.new hp9)) (But.tr b5 (UL.Same.but (UL.Same.new hp9)))
          · rw [if_neg (by simp [hnn])]
            refine fun p2 hp2' => ⟨by rw [sizeLine_eq]; decide, fun p3 hp3 => ?_⟩
            obtain ⟨m, hm, m0, m3, mz⟩ := inp (wh) (by omega) (by omega)
            have s3 : Same H2 (upd (upd (upd H2 p1 (.lst [])) p2 (.tup [])) p3 (.lst [V.int 1, .int 0, .int 2, .int 1, .int 3])) := Same.tr (Same.tr (UL.Same.new hp1') (UL.Same.new hp2')) (UL.Same.new hp3)
            refine ixL (.inl (.inl upd_same)) hm ⟨m, rfl, by omega, by omega, FJ.rangeI (fun i σ' H' => ∃ (t : Addr) (xs : List Str) (z : Option V), σ' = [some (.ref p), some (.ref a), some (.ref b), some (.ref c), some (.ref d), some (.int kd), some (V.str sr), some (V.str lc), some (V.str sr), some (.ref l), some (.int (wh)), some (.ref t), z] ∧ H' t = some (.tup (xs.map V.str)) ∧ xs.length = i ∧ (∀ x ∈ xs, x ∈ ns) ∧ Pl H' p ∧ But p H H' ∧ H' l = some (.lst (ns.map V.str))) m0 ⟨p2, [], _, rfl, ?_, rfl, (fun _ h => by cases h), hp2.same s3, But.tr bc (But.tr b2 (UL.Same.but s3)), s3 _ _ hl2⟩ (fun i σ' H' hi inv => ?_) fun σ' H' inv => ?_⟩
            · exact UL.Same.new hp3 _ _ upd_same
            · obtain ⟨t, xs, z, rfl, ht, hxl, hxm, hp5, b5, hl5⟩ := inv
              walk_at "rd"
              have hns : ns ≠ [] := hnn
              have hnl : 0 < ns.length := List.length_pos_iff.mpr hns
              refine lenL (.inl (.inl hl5)) (drawI (by simp; omega) hp5 fun r H6 r0 rl hp6 b6 => ?_)
              obtain ⟨y, hy, hyn⟩ := atc (xs := ns) r0 (by simpa using rl)
              refine ixL (.inl (.inl (b6 _ _ hl5 (Ne.symm npl)))) hy ⟨by rw [sizeLine_eq]; decide, fun p7 hp7 => ?_⟩
              have ntp : t ≠ p := fun e => by obtain ⟨ms, e2⟩ := hp5; rw [e, e2] at ht; cases ht
              refine catT (xs := xs.map V.str) (.inl (.inl (UL.Same.new hp7 _ _ (b6 _ _ ht ntp)))) upd_same (by simp) (by simp [sizeLine_eq]; omega) fun rr H8 hr8 s8 => ?_
              have s68 : Same H6 H8 := Same.tr (UL.Same.new hp7) s8
              exact ⟨rr, ⟨rfl, _, rfl⟩, xs ++ [y], by rw [hr8, List.map_append]; rfl, by simp; omega, fun x hx => (List.mem_append.mp hx).elim (hxm x) fun h => by rw [List.mem_singleton.mp h]; exact hyn, hp6.same s68, But.tr b5 (But.tr b6 (UL.Same.but s68)), s68 _ _ (b6 _ _ hl5 (Ne.symm npl))⟩
            · obtain ⟨t, xs, z, rfl, ht, hxl, hxm, hp5, b5, hl5⟩ := inv
              walk_at "rd"
              obtain ⟨y, hy, hyn⟩ := atc (xs := fs) (r := (wh)) (by omega) (by omega)
              refine ixL (.inl (.inl (b5 _ _ hc (Ne.symm nc)))) hy ⟨by rw [sizeLine_eq]; decide, fun p9 hp9 => ?_⟩
              have hx3 : xs.length ≤ 3 := by omega
              have inCells : ∀ c ∈ Sk.src (.rw sr lc sr y xs) ++ Sk.tgt (.rw sr lc sr y xs), c ∈ cs := by
                intro c h
                simp only [Sk.src, Sk.tgt, List.nil_append, List.append_nil, List.mem_append, List.mem_singleton, or_self, List.cons_append, List.mem_cons, List.not_mem_nil, or_false] at h
                first
                  | (rw [h]; assumption)
                  | (rcases h with h | h <;> (rw [h]; assumption))
              exact q p9 (.rw sr lc sr y xs) _ (But.free' b5 hp5 hp9) ⟨t, upd_same, UL.Same.new hp9 _ _ ht⟩ (good_rw (ic _ srm) (iw _ lcm) (ic _ srm) (iff _ hyn) (fun x hx => by rw [← ens]; exact hxm x hx) hx3) ⟨inCells, fun f n h => by cases h; exact ⟨(wh), by omega, hy, by rw [hm]; exact congrArg (fun z => some (V.int z)) (by omega)⟩⟩ (hp5.same (UL.Same.new hp9)) (But.tr b5 (UL.Same.but (UL.Same.new hp9)))
        · rw [if_pos (by simp [e0])]
          refine lenL (.inl (.inl (b14 _ _ ha (Ne.symm na)))) (drawI (by simp; omega) hp4 fun r3 H5 r30 r3l hp5' b5' => ?_)
          have b15 := But.tr b14 b5'
          obtain ⟨tg, htg, htm⟩ := atc (xs := cs) r30 (by simpa using r3l)
          refine ixL (.inl (.inl (b15 _ _ ha (Ne.symm na)))) htg ?_
          refine ⟨d, _, rfl, .inl (.inl (.inl (b15 _ _ hd (Ne.symm nd)))), fun l hl0 => ⟨rfl, _, rfl, ?_⟩⟩
          rw [if_pos (by simp)]
          refine ⟨.inl ⟨rfl, _, .inl (.inl upd_same)⟩, l, _, _, rfl, rfl, upd_same, by rw [List.length_map, sizeLine_eq]; omega, ?_⟩
          rw [upd_upd]
          have en : kn.map V.str ++ [V.str lc] = (kn ++ [lc]).map V.str := by simp
          rw [en]
          have hl : upd H5 l (.lst ((kn ++ [lc]).map V.str)) l = some (.lst ((kn ++ [lc]).map V.str)) := upd_same
          have npl : p ≠ l := hp5'.ne hl0
          have hpc : Pl (upd H5 l (.lst ((kn ++ [lc]).map V.str))) p := hp5'.put npl
          have bc : But p H (upd H5 l (.lst ((kn ++ [lc]).map V.str))) := But.tr b15 (UL.Same.but (UL.Same.new hl0))
          generalize upd H5 l (.lst ((kn ++ [lc]).map V.str)) = Hc at hl hpc bc ⊢
          have hfl : ((kn ++ [lc]).map V.str).all fl3 = true := by
            rw [List.all_map, List.all_eq_true]
            exact fun x hx => nm_ok ((List.mem_append.mp hx).elim (ik x) fun h => by rw [List.mem_singleton.mp h]; exact iw _ lcm)
          obtain ⟨ns, ens⟩ : ∃ ns, ns = kn ++ [lc] := ⟨_, rfl⟩
          rw [← ens] at hl hfl
          refine lenL (.inl (.inl (bc _ _ hc (Ne.symm nc)))) (drawI (by simp; omega) hpc fun wh H2 w0 wlt hp2 b2 => fun p1 hp1' => ?_)
          have hl2 : H2 l = some (.lst (ns.map V.str)) := b2 _ _ hl (Ne.symm npl)
          have wl5 : wh < (fs.length : Int) := by simpa using wlt
          refine eqL3 (xs := ns.map V.str) (ys := []) hfl rfl (.inl (.inl (UL.Same.new hp1' _ _ hl2))) (.inl (.inl upd_same)) ⟨_, rfl, ?_⟩
          by_cases hnn : ns = []
          · rw [if_pos (by simp [hnn])]
            refine fun p2 hp2' => ⟨by rw [sizeLine_eq]; decide, fun p3 hp3 => ?_⟩
            obtain ⟨m, hm, m0, m3, mz⟩ := inp (1) (by omega) (by omega)
            have s3 : Same H2 (upd (upd (upd H2 p1 (.lst [])) p2 (.tup [])) p3 (.lst [V.int 1, .int 0, .int 2, .int 1, .int 3])) := Same.tr (Same.tr (UL.Same.new hp1') (UL.Same.new hp2')) (UL.Same.new hp3)
            refine ixL (.inl (.inl upd_same)) hm ⟨m, rfl, by omega, by omega, FJ.rangeI (fun i σ' H' => ∃ (t : Addr) (xs : List Str) (z : Option V), σ' = [some (.ref p), some (.ref a), some (.ref b), some (.ref c), some (.ref d), some (.int kd), some (V.str sr), some (V.str lc), some (V.str tg), some (.ref l), some (.int (1)), some (.ref t), z] ∧ H' t = some (.tup (xs.map V.str)) ∧ xs.length = i ∧ (∀ x ∈ xs, x ∈ ns) ∧ Pl H' p ∧ But p H H' ∧ H' l = some (.lst (ns.map V.str))) m0 ⟨p2, [], _, rfl, ?_, rfl, (fun _ h => by cases h), hp2.same s3, But.tr bc (But.tr b2 (UL.Same.but s3)), s3 _ _ hl2⟩ (fun i σ' H' hi inv => ?_) fun σ' H' inv => ?_⟩
            · exact UL.Same.new hp3 _ _ upd_same
            · obtain ⟨t, xs, z, rfl, ht, hxl, hxm, hp5, b5, hl5⟩ := inv
              walk_at "rd"
              have hns : ns ≠ [] := fun _ => by have := mz rfl; omega
              have hnl : 0 < ns.length := List.length_pos_iff.mpr hns
              refine lenL (.inl (.inl hl5)) (drawI (by simp; omega) hp5 fun r H6 r0 rl hp6 b6 => ?_)
              obtain ⟨y, hy, hyn⟩ := atc (xs := ns) r0 (by simpa using rl)
              refine ixL (.inl (.inl (b6 _ _ hl5 (Ne.symm npl)))) hy ⟨by rw [sizeLine_eq]; decide, fun p7 hp7 => ?_⟩
              have ntp : t ≠ p := fun e => by obtain ⟨ms, e2⟩ := hp5; rw [e, e2] at ht; cases ht
              refine catT (xs := xs.map V.str) (.inl (.inl (UL.Same.new hp7 _ _ (b6 _ _ ht ntp)))) upd_same (by simp) (by simp [sizeLine_eq]; omega) fun rr H8 hr8 s8 => ?_
              have s68 : Same H6 H8 := Same.tr (UL.Same.new hp7) s8
              exact ⟨rr, ⟨rfl, _, rfl⟩, xs ++ [y], by rw [hr8, List.map_append]; rfl, by simp; omega, fun x hx => (List.mem_append.mp hx).elim (hxm x) fun h => by rw [List.mem_singleton.mp h]; exact hyn, hp6.same s68, But.tr b5 (But.tr b6 (UL.Same.but s68)), s68 _ _ (b6 _ _ hl5 (Ne.symm npl))⟩
            · obtain ⟨t, xs, z, rfl, ht, hxl, hxm, hp5, b5, hl5⟩ := inv
              walk_at "rd"
              obtain ⟨y, hy, hyn⟩ := atc (xs := fs) (r := (1)) (by omega) (by omega)
              refine ixL (.inl (.inl (b5 _ _ hc (Ne.symm nc)))) hy ⟨by rw [sizeLine_eq]; decide, fun p9 hp9 => ?_⟩
              have hx3 : xs.length ≤ 3 := by omega
              have inCells : ∀ c ∈ Sk.src (.rw sr lc tg y xs) ++ Sk.tgt (.rw sr lc tg y xs), c ∈ cs := by
                intro c h
                simp only [Sk.src, Sk.tgt, List.nil_append, List.append_nil, List.mem_append, List.mem_singleton, or_self, List.cons_append, List.mem_cons, List.not_mem_nil, or_false] at h
                first
                  | (rw [h]; assumption)
                  | (rcases h with h | h <;> (rw [h]; assumption))
              exact q p9 (.rw sr lc tg y xs) _ (But.free' b5 hp5 hp9) ⟨t, upd_same, UL.Same.new hp9 _ _ ht⟩ (good_rw (ic _ srm) (iw _ lcm) (ic _ htm) (iff _ hyn) (fun x hx => by rw [← ens]; exact hxm x hx) hx3) ⟨inCells, fun f n h => by cases h; exact ⟨(1), by omega, hy, by rw [hm]; exact congrArg (fun z => some (V.int z)) (by omega)⟩⟩ (hp5.same (UL.Same.new hp9)) (But.tr b5 (UL.Same.but (UL.Same.new hp9)))
          · rw [if_neg (by simp [hnn])]
            refine fun p2 hp2' => ⟨by rw [sizeLine_eq]; decide, fun p3 hp3 => ?_⟩
            obtain ⟨m, hm, m0, m3, mz⟩ := inp (wh) (by omega) (by omega)
            have s3 : Same H2 (upd (upd (upd H2 p1 (.lst [])) p2 (.tup [])) p3 (.lst [V.int 1, .int 0, .int 2, .int 1, .int 3])) := Same.tr (Same.tr (UL.Same.new hp1') (UL.Same.new hp2')) (UL.Same.new hp3)
            refine ixL (.inl (.inl upd_same)) hm ⟨m, rfl, by omega, by omega, FJ.rangeI (fun i σ' H' => ∃ (t : Addr) (xs : List Str) (z : Option V), σ' = [some (.ref p), some (.ref a), some (.ref b), some (.ref c), some (.ref d), some (.int kd), some (V.str sr), some (V.str lc), some (V.str tg), some (.ref l), some (.int (wh)), some (.ref t), z] ∧ H' t = some (.tup (xs.map V.str)) ∧ xs.length = i ∧ (∀ x ∈ xs, x ∈ ns) ∧ Pl H' p ∧ But p H H' ∧ H' l = some (.lst (ns.map V.str))) m0 ⟨p2, [], _, rfl, ?_, rfl, (fun _ h => by cases h), hp2.same s3, But.tr bc (But.tr b2 (UL.Same.but s3)), s3 _ _ hl2⟩ (fun i σ' H' hi inv => ?_) fun σ' H' inv => ?_⟩
            · exact UL.Same.new hp3 _ _ upd_same
            · obtain ⟨t, xs, z, rfl, ht, hxl, hxm, hp5, b5, hl5⟩ := inv
              walk_at "rd"
              have hns : ns ≠ [] := hnn
              have hnl : 0 < ns.length := List.length_pos_iff.mpr hns
              refine lenL (.inl (.inl hl5)) (drawI (by simp; omega) hp5 fun r H6 r0 rl hp6 b6 => ?_)
              obtain ⟨y, hy, hyn⟩ := atc (xs := ns) r0 (by simpa using rl)
              refine ixL (.inl (.inl (b6 _ _ hl5 (Ne.symm npl)))) hy ⟨by rw [sizeLine_eq]; decide, fun p7 hp7 => ?_⟩
              have ntp : t ≠ p := fun e => by obtain ⟨ms, e2⟩ := hp5; rw [e, e2] at ht; cases ht
              refine catT (xs := xs.map V.str) (.inl (.inl (UL.Same.new hp7 _ _ (b6 _ _ ht ntp)))) upd_same (by simp) (by simp [sizeLine_eq]; omega) fun rr H8 hr8 s8 => ?_
              have s68 : Same H6 H8 := Same.tr (UL.Same.new hp7) s8
              exact ⟨rr, ⟨rfl, _, rfl⟩, xs ++ [y], by rw [hr8, List.map_append]; rfl, by simp; omega, fun x hx => (List.mem_append.mp hx).elim (hxm x) fun h => by rw [List.mem_singleton.mp h]; exact hyn, hp6.same s68, But.tr b5 (But.tr b6 (UL.Same.but s68)), s68 _ _ (b6 _ _ hl5 (Ne.symm npl))⟩
            · obtain ⟨t, xs, z, rfl, ht, hxl, hxm, hp5, b5, hl5⟩ := inv
              walk_at "rd"
              obtain ⟨y, hy, hyn⟩ := atc (xs := fs) (r := (wh)) (by omega) (by omega)
              refine ixL (.inl (.inl (b5 _ _ hc (Ne.symm nc)))) hy ⟨by rw [sizeLine_eq]; decide, fun p9 hp9 => ?_⟩
              have hx3 : xs.length ≤ 3 := by omega
              have inCells : ∀ c ∈ Sk.src (.rw sr lc tg y xs) ++ Sk.tgt (.rw sr lc tg y xs), c ∈ cs := by
                intro c h
                simp only [Sk.src, Sk.tgt, List.nil_append, List.append_nil, List.mem_append, List.mem_singleton, or_self, List.cons_append, List.mem_cons, List.not_mem_nil, or_false] at h
                first
                  | (rw [h]; assumption)
                  | (rcases h with h | h <;> (rw [h]; assumption))
              exact q p9 (.rw sr lc tg y xs) _ (But.free' b5 hp5 hp9) ⟨t, upd_same, UL.Same.new hp9 _ _ ht⟩ (good_rw (ic _ srm) (iw _ lcm) (ic _ htm) (iff _ hyn) (fun x hx => by rw [← ens]; exact hxm x hx) hx3) ⟨inCells, fun f n h => by cases h; exact ⟨(wh), by omega, hy, by rw [hm]; exact congrArg (fun z => some (V.int z)) (by omega)⟩⟩ (hp5.same (UL.Same.new hp9)) (But.tr b5 (UL.Same.but (UL.Same.new hp9)))
end
end U

set_option Elab.async false
set_option linter.all false
set_option maxRecDepth 100000
set_option maxHeartbeats 4000000
set_option pp.deepTerms true
set_option pp.maxSteps 400000
namespace U
open PySem PySem.Spec PyProof.Rows L2 UL UX
local macro_rules | `(tactic| walk_at "rd") => `(tactic| simp only [sMatch, tJs, tFmt, tBC, tMethA, tMakeL, iEnumS, tSeq, tAsg, tOp, tCB, tCons, tNil, tVar, tC, tB, tTest, tNot, tIfS, tNext, tYes, tUn, rU, tM0, tGFrom, tGThen, tG0, tYfLst, gcxK, tSubO, tProp, tListG, tMethG, tBMF, tFld, sFld, tMeth, tMake, tSl, tNoPart, tPart, tM1, gTup, gCons, gNil, tDrop, tFor_eq, tLc_eq, tLc2_eq, iRng1_eq, StX.tStar, iList, iTup, iStr, iAny_var, iZipB, tLenSetS, wipe, tVar, tAndV, tOrV, tNotV, tOr, tAnd, tLst, tTup, tBM, tBM0, tChain, tCall, cxK, noxK, addII, addSS, mulII, eqII, neII, neSS, cIntI, cAbsI, rI, rI0, rLt, rLe, rGt_, rGe_, rSub_, rMod, rPow, rDivW, rNeg, gName, tRet, L2.start, List.length_cons, List.length_nil, List.map_cons, List.map_nil, List.replicate, List.cons_append, List.nil_append, List.getElem?_cons_zero, List.getElem?_cons_succ, List.set_cons_zero, List.set_cons_succ, Option.some.injEq, exists_eq_left', exists_eq_left, V.int.injEq, V.bl.injEq, V.str.injEq, V.ref.injEq, V.ty.injEq, List.cons.injEq, and_true, true_and, reduceCtorEq, false_and, exists_false, or_false, false_or, exists_and_left, exists_and_right, List.append_nil, forall_eq, decide_eq_true_eq, Bool.not_eq_true, Nat.reduceAdd, Nat.reduceSub, List.replicate_zero, List.replicate_succ, Nat.zero_le, ite_true, ite_false, if_true, if_false])
section
variable {P : Program} {w : World} {K : PySem.W.Frag} {mg : Str → Option Value} {base : Heap}

open UW
variable {R Wr B Pg : Addr}
def GoodS : List Str → List Sk → Prop
  | _, [] => True
  | kn, k :: r => Good kn k ∧ GoodS (kn ++ k.loc) r
def locs (ks : List Sk) : List Str := ks.flatMap Sk.loc
theorem GoodS.snoc : ∀ {ks : List Sk} {kn : List Str} {k : Sk}, GoodS kn ks → Good (kn ++ locs ks) k → GoodS kn (ks ++ [k])
  | [], kn, k, _, h => ⟨by simpa [locs] using h, trivial⟩
  | k0 :: r, kn, k, ⟨h0, hr⟩, h => ⟨h0, GoodS.snoc hr (by simpa [locs] using h)⟩
theorem RowA.same {H H' : Hp} {a : Addr} {k : Sk} (s : Same H H') (h : RowA H a k) : RowA H' a k := let ⟨e, x, y⟩ := h; ⟨e, s _ _ x, s _ _ y⟩
theorem RowA.but {H H' : Hp} {a p : Addr} {k : Sk} (hp : Pl H p) (s : But p H H') (h : RowA H a k) : RowA H' a k := by
  obtain ⟨e, x, y⟩ := h
  obtain ⟨ms, hm⟩ := hp
  exact ⟨e, s _ _ x (fun q => by rw [q, hm] at x; cases x), s _ _ y (fun q => by rw [q, hm] at y; cases y)⟩
theorem RowA.put {H : Hp} {a p : Addr} {zs : List V} {o : HO} {k : Sk} (hp : H p = some (.lst zs)) (h : RowA H a k) : RowA (upd H p o) a k := by
  obtain ⟨e, x, y⟩ := h
  exact ⟨e, by rw [upd_ne (fun q => by rw [q, hp] at x; cases x)]; exact x, by rw [upd_ne (fun q => by rw [q, hp] at y; cases y)]; exact y⟩
theorem locs_len : ∀ ks : List Sk, (locs ks).length ≤ ks.length
  | [] => Nat.le_refl _
  | k :: r => by
    have h := locs_len r
    have e : k.loc.length ≤ 1 := by cases k <;> simp [Sk.loc]
    show (k.loc ++ locs r).length ≤ _
    rw [List.length_append, List.length_cons]
    omega
theorem GoodS.nm : ∀ {ks : List Sk} {kn : List Str}, GoodS kn ks → ∀ z ∈ locs ks, isNm z
  | [], _, _, _, h => by cases h
  | k :: r, kn, ⟨h0, hr⟩, z, h => by
    have h : z ∈ k.loc ++ locs r := h
    rcases List.mem_append.mp h with h | h
    · exact h0.1 z (by simp [h])
    · exact GoodS.nm hr z h
abbrev s__law_steps : Stmt := top 41
abbrev sc__law_steps_N : List Str := ["_law_pool_here", "_law_cells", "_law_words", "_law_functions_here", "_law_count", "_law_steps_here", "_law_known", "_law_k", "_law_step_here"]
theorem sc__law_steps : FnScope sc__law_steps_N ["_law_pool_here", "_law_cells", "_law_words", "_law_functions_here", "_law_count"] (defScope s__law_steps) := ⟨rfl, rfl, rfl, by decide +kernel, rfl, by decide +kernel, by decide +kernel⟩
-- 0 _law_pool_here, 1 _law_cells, 2 _law_words, 3 _law_functions_here, 4 _law_count, 5 _law_steps_here, 6 _law_known, 7 _law_k, 8 _law_step_here
def sp_lsteps (K : PySem.W.Frag) : Sp := fun vs H Q _ => ∃ (p a b c : Addr) (n : Nat) (cs ws fs : List Str), vs = [.ref p, .ref a, .ref b, .ref c, .int n] ∧ n ≤ 4 ∧ Pl H p ∧ H a = some (.lst (cs.map V.str)) ∧ H b = some (.lst (ws.map V.str)) ∧ H c = some (.lst (fs.map V.str)) ∧ p ≠ a ∧ p ≠ b ∧ p ≠ c ∧
  1 ≤ cs.length ∧ cs.length ≤ 5 ∧ 1 ≤ ws.length ∧ ws.length ≤ 3 ∧ 2 ≤ fs.length ∧ fs.length ≤ 5 ∧ (∀ z ∈ cs, isNm z) ∧ (∀ z ∈ ws, isNm z) ∧ (∀ z ∈ fs, isNm z) ∧
  ∀ r ks rs H', H r = none → H' r = some (.lst (rs.map V.ref)) → Paired (fun t k => RowA H' t k) rs ks → GoodS [] ks → (∀ k ∈ ks, InS cs fs k) → ks.length = n → Pl H' p → But p H H' → Q (.ref r) H'
theorem d_lsteps (T : Nm mg) (D : TD K mg "_law_steps" s__law_steps) (d__law_step : Dn P w K mg base CX0 2 "_law_step" (sp_lstep K)) : Dn P w K mg base CX0 3 "_law_steps" (sp_lsteps K) := by
  refine D.dn sc__law_steps (fun _ _ _ _ _ _ us hl => match us, hl with | [_, _, _, _, _], _ => rfl) (fun vs H Q E h => ?_) (fun f cdv A outer s H vs Q E hr h => ?_)
  · obtain ⟨p, a, b, c, n, cs, ws, fs, rfl, _⟩ := h; rfl
  · obtain ⟨p, a, b, c, n, cs, ws, fs, rfl, hn, hp, ha, hb, hc, na, nb, nc, c1, c3, w1, w3, f2, f5, ic, iw, iff, q⟩ := h
    refine ⟨_, (pss_cons (ps_set (i := 5) sc__law_steps.nd rfl (Or.inl rfl) (pe_lst pa_nil))
      (pss_cons (ps_set (i := 6) sc__law_steps.nd rfl (Or.inl rfl) (pe_lst pa_nil))
      (pss_cons (ps_for PassesOwn.never rfl (pi_range1 (by rfl) T.n_range (pa_cons (pv 4) pa_nil)) (pg_name (i := 7) sc__law_steps.nd rfl (Or.inl rfl)) (pss_cons (ps_set (i := 8) sc__law_steps.nd rfl (Or.inl rfl) (pe_d d__law_step hr (by decide) pass0 (by rfl) (pa_cons (pv 0) (pa_cons (pv 1) (pa_cons (pv 2) (pa_cons (pv 3) (pa_cons (pv 6) pa_nil)))))))
      (pss_cons (ps_if (pt_cmpR op_notNone (pe_ix ix_seq (pv 8) pe_int (fun _ _ => rfl)) pe_non (nomark _)) (pss_one (ps_expr (pe_bm PySem.F.plainAttrs_list PySem.F.slot_list_append PySem.F.type_list_append mt_append (pv 6) (pa_cons (pe_ix ix_seq (pv 8) pe_int (fun _ _ => rfl)) pa_nil)))) pss_nil)
      (pss_one (ps_expr (pe_bm PySem.F.plainAttrs_list PySem.F.slot_list_append PySem.F.type_list_append mt_append (pv 5) (pa_cons (pv 8) pa_nil)))))))
      (pss_one (ps_ret (pv 5)))))), ?_⟩
    walk_at "rd"
    refine fun l1 hl1 l2 hl2 => ⟨by omega, by omega, ?_⟩
    have n12 : l1 ≠ l2 := ne_of_none upd_same hl2
    have hl2H : H l2 = none := by rw [upd_ne (Ne.symm n12)] at hl2; exact hl2
    have np1 := hp.ne hl1
    have np2 := hp.ne hl2H
    have s0 : Same H (upd (upd H l1 (.lst [])) l2 (.lst [])) := Same.tr (UL.Same.new hl1) (UL.Same.new hl2)
    refine FJ.rangeI (fun i σ' H' => ∃ (rs : List Addr) (ks : List Sk) (z1 z2 : Option V), σ' = [some (.ref p), some (.ref a), some (.ref b), some (.ref c), some (.int n), some (.ref l1), some (.ref l2), z1, z2] ∧ H' l1 = some (.lst (rs.map V.ref)) ∧ H' l2 = some (.lst ((locs ks).map V.str)) ∧ Paired (fun t k => RowA H' t k) rs ks ∧ (GoodS [] ks ∧ ∀ k ∈ ks, InS cs fs k) ∧ ks.length = i ∧ Pl H' p ∧ But p H H') (by omega) ⟨[], [], _, _, rfl, by rw [upd_ne n12]; exact upd_same, upd_same, .nil, ⟨trivial, fun k hk => by cases hk⟩, rfl, hp.same s0, UL.Same.but s0⟩ (fun i σ' H' hi inv => ?_) fun σ' H' inv => ?_
    · obtain ⟨rs, ks, z1, z2, rfl, h1, h2, hk, hg, hki, hp', bt⟩ := inv
      walk_at "rd"
      have ll := locs_len ks
      refine ⟨p, a, b, c, l2, cs, ws, fs, locs ks, rfl, hp', bt _ _ ha (Ne.symm na), bt _ _ hb (Ne.symm nb), bt _ _ hc (Ne.symm nc), h2, na, nb, nc, np2, c1, c3, w1, w3, f2, f5, by omega, ic, iw, iff, fun z hz => hg.1.nm z hz, fun r k H1 hr0 hrow hgood hins hp1 b1 => ?_⟩
      have h1' := b1 _ _ h1 (Ne.symm np1)
      have h2' := b1 _ _ h2 (Ne.symm np2)
      have hk1 : Paired (fun t k => RowA H1 t k) (rs ++ [r]) (ks ++ [k]) := (L2.Paired.mapP hk fun _ _ g => RowA.but hp' b1 g).snoc hrow
      have hg1 : GoodS [] (ks ++ [k]) ∧ ∀ k' ∈ ks ++ [k], InS cs fs k' := ⟨hg.1.snoc (by simpa using hgood), fun k' h => (List.mem_append.mp h).elim (hg.2 k') fun h => by rw [List.mem_singleton.mp h]; exact hins⟩
      have bt1 := But.tr bt b1
      have rl : rs.length = ks.length := hk.length
      have fin : ∀ (kn2 : List Str) (H5 : Hp), H5 l1 = some (.lst (rs.map V.ref)) → H5 l2 = some (.lst (kn2.map V.str)) → kn2 = locs (ks ++ [k]) → Paired (fun t k => RowA H5 t k) (rs ++ [r]) (ks ++ [k]) → Pl H5 p → But p H H5 →
          upd H5 l1 (.lst (rs.map V.ref ++ [V.ref r])) l1 = some (.lst ((rs ++ [r]).map V.ref)) ∧ upd H5 l1 (.lst (rs.map V.ref ++ [V.ref r])) l2 = some (.lst ((locs (ks ++ [k])).map V.str)) ∧ Paired (fun t k => RowA (upd H5 l1 (.lst (rs.map V.ref ++ [V.ref r]))) t k) (rs ++ [r]) (ks ++ [k]) ∧ Pl (upd H5 l1 (.lst (rs.map V.ref ++ [V.ref r]))) p ∧ But p H (upd H5 l1 (.lst (rs.map V.ref ++ [V.ref r]))) := fun kn2 H5 e1 e2 ek pr pl b5 =>
        ⟨by rw [upd_same, List.map_append]; rfl, by rw [upd_ne (Ne.symm n12), e2, ek], L2.Paired.mapP pr fun _ _ g => RowA.put e1 g, pl.put np1, UL.But.put b5 hl1⟩
      obtain ⟨e, hr1, he⟩ := hrow
      have ix : ∀ {v : V} {Q : VK}, (rowV k e)[1]? = some v → Q v H1 → rIx K (.ref r) (.int 1) H1 Q := fun {v Q} h hq => ixT (.inl (.inl hr1)) (show atI _ ((1 : Nat) : Int) = some v from atN h) hq
      cases k with
      | wr t fn xs =>
        refine ix rfl ⟨rfl, _, rfl, ?_⟩
        rw [if_neg (by simp)]
        obtain ⟨g1, g2, g3, g4, g5⟩ := fin (locs ks) H1 h1' h2' (by simp [locs, Sk.loc]) hk1 hp1 bt1
        exact ⟨.inl ⟨rfl, _, .inl (.inl h1')⟩, l1, _, _, rfl, rfl, h1', by rw [List.length_map, sizeLine_eq]; omega, ⟨_, rfl⟩, rs ++ [r], g1, ks ++ [.wr t fn xs], g2, g3, hg1, by simp; omega, g4, g5⟩
      | rd sr l =>
        refine ix rfl ⟨rfl, _, rfl, ?_⟩
        rw [if_pos (by simp)]
        have pr5 : Paired (fun t k => RowA (upd H1 l2 (.lst ((locs ks).map V.str ++ [V.str l]))) t k) (rs ++ [r]) (ks ++ [.rd sr l]) := L2.Paired.mapP hk1 fun _ _ g => RowA.put h2' g
        have e5 : upd H1 l2 (.lst ((locs ks).map V.str ++ [V.str l])) l1 = some (.lst (rs.map V.ref)) := by rw [upd_ne n12]; exact h1'
        obtain ⟨g1, g2, g3, g4, g5⟩ := fin (locs ks ++ [l]) (upd H1 l2 (.lst ((locs ks).map V.str ++ [V.str l]))) e5 (by rw [upd_same, List.map_append]; rfl) (by simp [locs, Sk.loc]) pr5 (hp1.put np2) (UL.But.put bt1 hl2H)
        refine ⟨.inl ⟨rfl, _, .inl (.inl h2')⟩, ix rfl ⟨l2, _, _, rfl, rfl, h2', by rw [List.length_map, sizeLine_eq]; omega, ?_⟩⟩
        exact ⟨.inl ⟨rfl, _, .inl (.inl e5)⟩, l1, _, _, rfl, rfl, e5, by rw [List.length_map, sizeLine_eq]; omega, ⟨_, rfl⟩, rs ++ [r], g1, ks ++ [.rd sr l], g2, g3, hg1, by simp; omega, g4, g5⟩
      | rw sr l t fn xs =>
        refine ix rfl ⟨rfl, _, rfl, ?_⟩
        rw [if_pos (by simp)]
        have pr5 : Paired (fun t k => RowA (upd H1 l2 (.lst ((locs ks).map V.str ++ [V.str l]))) t k) (rs ++ [r]) (ks ++ [.rw sr l t fn xs]) := L2.Paired.mapP hk1 fun _ _ g => RowA.put h2' g
        have e5 : upd H1 l2 (.lst ((locs ks).map V.str ++ [V.str l])) l1 = some (.lst (rs.map V.ref)) := by rw [upd_ne n12]; exact h1'
        obtain ⟨g1, g2, g3, g4, g5⟩ := fin (locs ks ++ [l]) (upd H1 l2 (.lst ((locs ks).map V.str ++ [V.str l]))) e5 (by rw [upd_same, List.map_append]; rfl) (by simp [locs, Sk.loc]) pr5 (hp1.put np2) (UL.But.put bt1 hl2H)
        refine ⟨.inl ⟨rfl, _, .inl (.inl h2')⟩, ix rfl ⟨l2, _, _, rfl, rfl, h2', by rw [List.length_map, sizeLine_eq]; omega, ?_⟩⟩
        exact ⟨.inl ⟨rfl, _, .inl (.inl e5)⟩, l1, _, _, rfl, rfl, e5, by rw [List.length_map, sizeLine_eq]; omega, ⟨_, rfl⟩, rs ++ [r], g1, ks ++ [.rw sr l t fn xs], g2, g3, hg1, by simp; omega, g4, g5⟩
    · obtain ⟨rs, ks, z1, z2, rfl, h1, h2, hk, hg, hki, hp', bt⟩ := inv
      walk_at "rd"
      exact q l1 ks rs _ hl1 h1 hk hg.1 hg.2 (by omega) hp' bt
abbrev s__law_text : Stmt := top 43
abbrev sc__law_text_N : List Str := ["_law_name", "_law_steps_here", ".0", "_law_step_here"]
theorem sc__law_text : FnScope sc__law_text_N ["_law_name", "_law_steps_here"] (defScope s__law_text) := ⟨rfl, rfl, rfl, by decide +kernel, rfl, by decide +kernel, by decide +kernel⟩
-- 0 _law_name, 1 _law_steps_here, 2 .0, 3 _law_step_here
def sp_ltext : Sp := fun vs H Q _ => ∃ (n : Str) (r : Addr) (rs : List Addr) (ks : List Sk), vs = [.str n, .ref r] ∧ n.length ≤ 8 ∧ H r = some (.lst (rs.map V.ref)) ∧ Paired (fun t k => RowA H t k) rs ks ∧ ks.length ≤ 4 ∧ (∀ k ∈ ks, k.small ∧ k.args.length ≤ 3 ∧ ∀ x ∈ k.args, PyData.strOk x = true) ∧
  ∀ H', Same H H' → Q (.str (Txt.join "\n" (("program " ++ n) :: ks.map fun k => Txt.join " " k.words))) H'
theorem d_ltext (T : Nm mg) (D : TD K mg "_law_text" s__law_text) (d__law_line : Dn P w K mg base CX0 1 "_law_line" sp_line) : Dn P w K mg base CX0 2 "_law_text" sp_ltext := by
  refine D.dn sc__law_text (fun _ _ _ _ _ _ us hl => match us, hl with | [_, _], _ => rfl) (fun vs H Q E h => ?_) (fun f cdv A outer s H vs Q E hr h => ?_)
  · obtain ⟨n, r, rs, ks, rfl, _⟩ := h; rfl
  · obtain ⟨n, r, rs, ks, rfl, hn, hrr, hk, hl, hs, q⟩ := h
    refine ⟨_, (pss_one (ps_ret (pe_join pe_str (pe_op op_addA (pe_lst (pa_cons (pe_op op_addA pe_str (pv 0)) pa_nil)) (pe_lc (own := [(".0", 2), ("_law_step_here", 3)]) (g := (gName 3)) (tt := tYes) rfl sc__law_text.nd (pi_list (pv 1)) (blkOk_by (N := sc__law_text_N) (sc := defScope s__law_text) (by decide +kernel)) (fun _ _ _ _ _ => pg_name (i := 3) sc__law_text.nd rfl (Or.inl rfl)) (fun _ _ _ _ _ => pts_nil) (fun _ _ _ _ _ => (pe_d d__law_line hr (by decide) pass0 (by rfl) (pa_cons (pv 3) pa_nil)))))))), ?_⟩
    walk_at "rd"
    have l8 : ("program " : Str).length = 8 := by decide +kernel
    have l1 : ("\n" : Str).length = 1 := by decide +kernel
    have rl : rs.length = ks.length := hk.length
    refine ⟨⟨_, rfl⟩, by rw [l8, sizeLine_eq]; omega, by rw [sizeLine_eq]; decide, fun p hp => ⟨⟨_, .inl (.inl (UL.Same.new hp _ _ hrr))⟩, fun D hD => ?_⟩⟩
    have npD := ne_of_none upd_same hD
    have hDH : H D = none := Same.free (UL.Same.new hp) hD
    refine LJ.it (walk_list (xs := rs.map V.ref)) (fun i H' => H' p = some (.lst [V.str ("program " ++ n)]) ∧ H' D = some (.lst (((ks.take i).map fun k => Txt.join " " k.words).map V.str)) ∧ Same H H') ⟨by rw [upd_ne npD]; exact upd_same, upd_same, Same.tr (UL.Same.new hp) (UL.Same.new hD)⟩ (fun i H' _ inv => .inl (.inl (inv.2.2 _ _ hrr))) (fun i x H1 H2 hi inv yy => ?_) fun H2 inv => ?_
    · obtain ⟨e1, e2, sm⟩ := inv
      obtain ⟨rfl, hx⟩ := yy
      obtain ⟨t, hti, rfl⟩ : ∃ t, rs[i]? = some t ∧ x = V.ref t := by
        rw [List.getElem?_map] at hx
        cases e : rs[i]? with
        | none => rw [e] at hx; cases hx
        | some t => rw [e] at hx; cases hx; exact ⟨t, rfl, rfl⟩
      obtain ⟨k, hki, gk⟩ := pr_at hk hti
      refine ⟨rfl, ?_⟩
      walk_at "rd"
      obtain ⟨k1, k2, k3⟩ := hs k (List.mem_of_getElem? hki)
      refine ⟨t, k, rfl, RowA.same sm gk, k1, k2, k3, fun H5 s5 => ⟨_, s5 _ _ e2, by simp [sizeLine_eq]; omega, ?_, ?_, UL.Same.put (Same.tr sm s5) hDH⟩⟩
      · rw [upd_ne npD]; exact s5 _ _ e1
      · rw [upd_same, List.take_add_one, hki]; simp
    · obtain ⟨e1, e2, sm⟩ := inv
      rw [List.length_map, rl, List.take_length] at e2
      refine .inr (.inr (.inr ⟨p, D, _, _, rfl, rfl, e1, e2, by simp [sizeLine_eq]; omega, fun r2 hr2 => ⟨r2, rfl, (("program " ++ n) :: ks.map fun k => Txt.join " " k.words), .inl (.inl (.inl (by rw [upd_same]; simp))), ?_, q _ (UL.Same.put sm (Same.free sm hr2))⟩⟩))
      have hb : ∀ y ∈ (("program " ++ n) :: ks.map fun k => Txt.join " " k.words), y.length ≤ 100000 := fun y hy => by
        rcases List.mem_cons.mp hy with rfl | hy
        · rw [len_app, l8]; omega
        · obtain ⟨k, hk', rfl⟩ := List.mem_map.mp hy
          obtain ⟨k1, k2, k3⟩ := hs k hk'
          have h0 := join_len " " k.words
          have h1 := words_many k1 k2
          have h2 := sum_le h1.1
          have h3 : k.words.length * 1000 ≤ 12 * 1000 := Nat.mul_le_mul_right _ h1.2
          have h4 := h1.2
          show (Txt.join " " k.words).length ≤ _
          rw [show Txt.join " " k.words = Str.join " " k.words from _root_.TL.join_eq _ _]
          rw [l_sp] at h0
          omega
      have h1 := sum_le hb
      have h2 : (("program " ++ n) :: ks.map fun k => Txt.join " " k.words).length ≤ 5 := by rw [List.length_cons, List.length_map]; omega
      have h3 : (("program " ++ n) :: ks.map fun k => Txt.join " " k.words).length * 100000 ≤ 5 * 100000 := Nat.mul_le_mul_right _ h2
      rw [l1]
      omega
end
end U

set_option Elab.async false
set_option linter.all false
set_option maxRecDepth 100000
set_option maxHeartbeats 4000000
set_option pp.deepTerms true
set_option pp.maxSteps 400000
namespace U
open PySem PySem.Spec PyProof.Rows L2 UL UX
local macro_rules | `(tactic| walk_at "rd") => `(tactic| simp only [sMatch, tJs, tFmt, tBC, tMethA, tMakeL, iEnumS, tSeq, tAsg, tOp, tCB, tCons, tNil, tVar, tC, tB, tTest, tNot, tIfS, tNext, tYes, tUn, rU, tM0, tGFrom, tGThen, tG0, tYfLst, gcxK, tSubO, tProp, tListG, tMethG, tBMF, tFld, sFld, tMeth, tMake, tSl, tNoPart, tPart, tM1, gTup, gCons, gNil, tDrop, tFor_eq, tLc_eq, tLc2_eq, iRng1_eq, StX.tStar, iList, iTup, iStr, iAny_var, iZipB, tLenSetS, wipe, tVar, tAndV, tOrV, tNotV, tOr, tAnd, tLst, tTup, tBM, tBM0, tChain, tCall, cxK, noxK, addII, addSS, mulII, eqII, neII, neSS, cIntI, cAbsI, rI, rI0, rLt, rLe, rGt_, rGe_, rSub_, rMod, rPow, rDivW, rNeg, gName, tRet, L2.start, List.length_cons, List.length_nil, List.map_cons, List.map_nil, List.replicate, List.cons_append, List.nil_append, List.getElem?_cons_zero, List.getElem?_cons_succ, List.set_cons_zero, List.set_cons_succ, Option.some.injEq, exists_eq_left', exists_eq_left, V.int.injEq, V.bl.injEq, V.str.injEq, V.ref.injEq, V.ty.injEq, List.cons.injEq, and_true, true_and, reduceCtorEq, false_and, exists_false, or_false, false_or, exists_and_left, exists_and_right, List.append_nil, forall_eq, decide_eq_true_eq, Bool.not_eq_true, Nat.reduceAdd, Nat.reduceSub, List.replicate_zero, List.replicate_succ, Nat.zero_le, ite_true, ite_false, if_true, if_false])
section
variable {P : Program} {w : World} {K : PySem.W.Frag} {mg : Str → Option Value} {base : Heap}

open UW
variable {R Wr B Pg : Addr}
theorem sp_free {z : Str} (h : isNm z) : 32 ∉ z.cps.toList ∧ 10 ∉ z.cps.toList := by
  have h : nmB z = true := h
  simp only [nmB, Bool.and_eq_true, List.all_eq_true, decide_eq_true_eq] at h
  have e : ∀ c ∈ abc.cps.toList, 97 ≤ c := by rw [abc_eq]; intro c hc; obtain ⟨n, hn, rfl⟩ := List.mem_map.mp hc; omega
  exact ⟨fun q => by have := e 32 (h.2 32 q); omega, fun q => by have := e 10 (h.2 10 q); omega⟩
/-- the words of a right step: names all of them -/
theorem words_nm {k : Sk} {kn : List Str} (g : Good kn k) (hk : ∀ z ∈ kn, isNm z) : ∀ x ∈ k.words, isNm x := by
  obtain ⟨g1, g2, g3, g4⟩ := g
  have ga : ∀ x ∈ k.args, isNm x := fun x hx => (List.mem_append.mp (g3 x hx)).elim (hk x) fun h => g1 x (by simp [h])
  have wr : ∀ {t f : Str} {xs : List Str}, isNm t → isNm f → (∀ x ∈ xs, isNm x) → ∀ x ∈ wrT t f xs, isNm x := fun {t f xs} ht hf hx x h => by
    unfold wrT at h
    rcases List.mem_cons.mp h with rfl | h
    · exact nm_write
    rcases List.mem_cons.mp h with rfl | h
    · exact ht
    rcases List.mem_cons.mp h with rfl | h
    · exact nm_by
    rcases List.mem_cons.mp h with rfl | h
    · exact hf
    by_cases e : xs = []
    · rw [if_pos e] at h; cases h
    · rw [if_neg e] at h
      rcases List.mem_cons.mp h with rfl | h
      · exact nm_of
      · exact hx x h
  have rd : ∀ {s l : Str}, isNm s → isNm l → ∀ x ∈ [("read" : Str), s, "as", l], isNm x := fun hs hl x hx => by
    simp only [List.mem_cons, List.not_mem_nil, or_false] at hx
    rcases hx with rfl | rfl | rfl | rfl
    · exact nm_read
    · exact hs
    · exact nm_as
    · exact hl
  cases k with
  | rd s l => exact rd (g1 s (by simp [Sk.src])) (g1 l (by simp [Sk.loc]))
  | wr t f xs => exact wr (g1 t (by simp [Sk.tgt])) (g2 f rfl) ga
  | rw s l t f xs => exact fun x hx => (List.mem_append.mp hx).elim (rd (g1 s (by simp [Sk.src])) (g1 l (by simp [Sk.loc])) x) (wr (g1 t (by simp [Sk.tgt])) (g2 f rfl) ga x)
theorem split_words {ws : List Str} (h : ∀ x ∈ ws, isNm x) (hne : ws ≠ []) : Txt.split (Txt.join " " ws) " " = ws :=
  _root_.TL.split_join (y := " ") (s := 32) (S := []) (by decide +kernel) (by decide +kernel) hne fun p hp => (sp_free (h p hp)).1
theorem arg_ok {xs kn : List Str} (hx : ∀ x ∈ xs, x ∈ kn) (h3 : xs.length ≤ 3) : argB (if xs = [] then [] else ("of" : Str) :: xs) kn = true ∧ (if xs = [] then [] else ("of" : Str) :: xs).drop 1 = xs := by
  by_cases e : xs = []
  · subst e; exact ⟨rfl, rfl⟩
  · rw [if_neg e]
    have h1 : 1 ≤ xs.length := List.length_pos_iff.mpr e
    refine ⟨?_, rfl⟩
    simp only [argB, decide_true, decide_eq_true h1, decide_eq_true h3, Bool.true_and, List.all_eq_true, decide_eq_true_eq]
    exact hx
theorem step_words {k : Sk} {kn : List Str} (g : Good kn k) : stepO k.words kn = some k := by
  obtain ⟨g1, g2, g3, g4⟩ := g
  have nb : ∀ {z : Str}, isNm z → nmB z = true := fun h => h
  have ne1 : ("write" : Str) ≠ "read" := by decide +kernel
  cases k with
  | rd s l =>
    have c1 : hR (Sk.words (.rd s l)) := ⟨rfl, rfl, rfl⟩
    rw [stepO, if_pos c1]
    show mkR s l = _
    rw [mkR, if_pos (by rw [nb (g1 s (by simp [Sk.src])), nb (g1 l (by simp [Sk.loc]))]; rfl)]
  | wr t f xs =>
    have c1 : ¬ hR (Sk.words (.wr t f xs)) := fun h => ne1 h.2.1
    have c2 : hW (Sk.words (.wr t f xs)) := ⟨by show 4 ≤ (wrT t f xs).length; unfold wrT; simp, rfl, rfl⟩
    rw [stepO, if_neg c1, if_pos c2]
    obtain ⟨a1, a2⟩ := arg_ok (xs := xs) (kn := kn) (fun x hx => by simpa [Sk.loc] using g3 x hx) g4
    show mkW t f (if xs = [] then [] else ("of" : Str) :: xs) kn = _
    rw [mkW, if_pos (by rw [nb (g1 t (by simp [Sk.tgt])), nb (g2 f rfl), a1]; rfl), a2]
  | rw s l t f xs =>
    have c1 : ¬ hR (Sk.words (.rw s l t f xs)) := fun h => by
      have h1 : ([("read" : Str), s, "as", l] ++ wrT t f xs).length = 4 := h.1
      rw [List.length_append] at h1
      have h2 : 4 ≤ (wrT t f xs).length := by unfold wrT; simp
      simp only [List.length_cons, List.length_nil] at h1
      omega
    have c2 : ¬ hW (Sk.words (.rw s l t f xs)) := fun h => ne1 h.2.1.symm
    have c3 : hB (Sk.words (.rw s l t f xs)) := ⟨by show 8 ≤ ([("read" : Str), s, "as", l] ++ wrT t f xs).length; unfold wrT; simp, rfl, rfl, rfl, rfl⟩
    rw [stepO, if_neg c1, if_neg c2, if_pos c3]
    obtain ⟨a1, a2⟩ := arg_ok (xs := xs) (kn := kn ++ [l]) (fun x hx => by simpa [Sk.loc] using g3 x hx) g4
    show mkB (mkR s l) (mkW t f (if xs = [] then [] else ("of" : Str) :: xs) (kn ++ [l])) = _
    rw [mkR, if_pos (by rw [nb (g1 s (by simp [Sk.src])), nb (g1 l (by simp [Sk.loc]))]; rfl), mkW, if_pos (by rw [nb (g1 t (by simp [Sk.tgt])), nb (g2 f rfl), a1]; rfl), a2]
    rfl
theorem words_ne (k : Sk) : k.words ≠ [] := by
  cases k <;> simp [Sk.words, wrT]
theorem steps_words : ∀ {ks : List Sk} {kn : List Str}, GoodS kn ks → (∀ z ∈ kn, isNm z) → stepsO (ks.map fun k => Txt.join " " k.words) kn = some ks
  | [], _, _, _ => rfl
  | k :: r, kn, ⟨h0, hr⟩, hk => by
    have e1 : stepO (Txt.split (Txt.join " " k.words) " ") kn = some k := by rw [split_words (words_nm h0 hk) (words_ne k)]; exact step_words h0
    have e2 := steps_words hr fun z hz => (List.mem_append.mp hz).elim (hk z) fun h => h0.1 z (by simp [h])
    simp only [List.map_cons, stepsO, e1, e2]
end
end U

set_option Elab.async false
set_option linter.all false
set_option maxRecDepth 100000
set_option maxHeartbeats 4000000
set_option pp.deepTerms true
set_option pp.maxSteps 400000
namespace U
open PySem PySem.Spec PyProof.Rows L2 UL UX
local macro_rules | `(tactic| walk_at "rd") => `(tactic| simp only [sMatch, tJs, tFmt, tBC, tMethA, tMakeL, iEnumS, tSeq, tAsg, tOp, tCB, tCons, tNil, tVar, tC, tB, tTest, tNot, tIfS, tNext, tYes, tUn, rU, tM0, tGFrom, tGThen, tG0, tYfLst, gcxK, tSubO, tProp, tListG, tMethG, tBMF, tFld, sFld, tMeth, tMake, tSl, tNoPart, tPart, tM1, gTup, gCons, gNil, tDrop, tFor_eq, tLc_eq, tLc2_eq, iRng1_eq, StX.tStar, iList, iTup, iStr, iAny_var, iZipB, tLenSetS, wipe, tVar, tAndV, tOrV, tNotV, tOr, tAnd, tLst, tTup, tBM, tBM0, tChain, tCall, cxK, noxK, addII, addSS, mulII, eqII, neII, neSS, cIntI, cAbsI, rI, rI0, rLt, rLe, rGt_, rGe_, rSub_, rMod, rPow, rDivW, rNeg, gName, tRet, L2.start, List.length_cons, List.length_nil, List.map_cons, List.map_nil, List.replicate, List.cons_append, List.nil_append, List.getElem?_cons_zero, List.getElem?_cons_succ, List.set_cons_zero, List.set_cons_succ, Option.some.injEq, exists_eq_left', exists_eq_left, V.int.injEq, V.bl.injEq, V.str.injEq, V.ref.injEq, V.ty.injEq, List.cons.injEq, and_true, true_and, reduceCtorEq, false_and, exists_false, or_false, false_or, exists_and_left, exists_and_right, List.append_nil, forall_eq, decide_eq_true_eq, Bool.not_eq_true, Nat.reduceAdd, Nat.reduceSub, List.replicate_zero, List.replicate_succ, Nat.zero_le, ite_true, ite_false, if_true, if_false])
section
variable {P : Program} {w : World} {K : PySem.W.Frag} {mg : Str → Option Value} {base : Heap}

open UV UW NdefX ClX
variable {R Wr B Pg Sy IC UC IS UP : Addr}
/-- a number of a written list, drawn -/
theorem pickL {p : Addr} {H : Hp} {R : VK} {E : XK} {ls : List Nat} {m : Int} (hp : Pl H p) (hn : ls ≠ []) (hs : ls.length ≤ 16) (hm : m = ls.length) (q : ∀ (c : Nat) H', c ∈ ls → Pl H' p → But p H H' → R (.int c) H') :
    ls.length ≤ sizeLine ∧ ∀ l, H l = none → sp_draw [.ref p, .int m] (upd H l (.lst (ls.map fun n => V.int (n : Nat)))) (fun y H2 => rIx K (.ref l) y H2 R) E := by
  have h1 : 1 ≤ ls.length := List.length_pos_iff.mpr hn
  refine ⟨by rw [sizeLine_eq]; omega, fun l hl => drawI (by omega) (hp.put (hp.ne hl)) fun r H1 r0 r3 hp1 b1 => ?_⟩
  have hl1 := b1 _ _ upd_same (Ne.symm (hp.ne hl))
  obtain ⟨n, rfl⟩ := Int.eq_ofNat_of_zero_le r0
  have hlt : n < ls.length := by omega
  exact ixL (.inl (.inl hl1)) (show atI _ ((n : Nat) : Int) = some (.int (ls[n] : Nat)) from atN (by rw [List.getElem?_map]; simp [hlt])) (q _ _ (List.getElem_mem hlt) hp1 (But.tr (UL.Same.but (UL.Same.new hl)) b1))
/-- xs[draw(len(xs))] -/
theorem drawAt {K : PySem.W.Frag} {p a : Addr} {H : Hp} {R : VK} {E : XK} {xs : List V} (hp : Pl H p) (ha : H a = some (.lst xs)) (nap : a ≠ p) (hn : xs ≠ []) (q : ∀ x H', x ∈ xs → Pl H' p → But p H H' → R x H') : cLen K [.ref a] H fun n H1 => sp_draw [.ref p, n] H1 (fun y H2 => rIx K (.ref a) y H2 R) E := by
  have h1 : 1 ≤ xs.length := List.length_pos_iff.mpr hn
  refine lenL (.inl (.inl ha)) (drawI (by omega) hp fun r H1 r0 r3 hp1 b1 => ?_)
  obtain ⟨n, rfl⟩ := Int.eq_ofNat_of_zero_le r0
  have hlt : n < xs.length := by omega
  exact ixL (.inl (.inl (b1 _ _ ha nap))) (atN (List.getElem?_eq_getElem hlt)) (q _ _ (List.getElem_mem hlt) hp1 b1)
/-- a row of the law: the program's name and its steps -/
structure Rw where
  r : Addr
  sl : Addr
  n : Str
  rs : List Addr
  ks : List Sk
def RwH (H : Hp) (q : Rw) : Prop := H q.r = some (.tup [.str q.n, .ref q.sl]) ∧ H q.sl = some (.lst (q.rs.map V.ref)) ∧ Paired (fun t k => RowA H t k) q.rs q.ks
def RwG (cs fs : List Str) (q : Rw) : Prop := isNm q.n ∧ GoodS [] q.ks ∧ (∀ k ∈ q.ks, InS cs fs k) ∧ q.ks.length ≤ 4
theorem RwH.same {H H' : Hp} {q : Rw} (h : RwH H q) (s : Same H H') : RwH H' q := ⟨s _ _ h.1, s _ _ h.2.1, L2.Paired.mapP h.2.2 fun _ _ g => RowA.same s g⟩
theorem RwH.but {H H' : Hp} {p : Addr} {q : Rw} (h : RwH H q) (hp : Pl H p) (n : q.sl ≠ p) (s : But p H H') : RwH H' q := by
  obtain ⟨a, b, c⟩ := h
  refine ⟨s _ _ a fun e => ?_, s _ _ b n, L2.Paired.mapP c fun _ _ g => RowA.but hp s g⟩
  obtain ⟨ms, hm⟩ := hp
  rw [e, hm] at a; cases a
theorem RwH.put {H : Hp} {l : Addr} {zs : List V} {o : HO} {q : Rw} (h : RwH H q) (hl : H l = some (.lst zs)) (n : q.sl ≠ l) : RwH (upd H l o) q := by
  obtain ⟨a, b, c⟩ := h
  exact ⟨by rw [upd_ne fun e => by rw [e, hl] at a; cases a]; exact a, by rw [upd_ne n]; exact b, L2.Paired.mapP c fun _ _ g => RowA.put hl g⟩
end
end U

set_option Elab.async false
set_option linter.all false
set_option maxRecDepth 100000
set_option maxHeartbeats 4000000
set_option pp.deepTerms true
set_option pp.maxSteps 400000
namespace U
open PySem PySem.Spec PyProof.Rows L2 UL UX
local macro_rules | `(tactic| walk_at "rd") => `(tactic| simp only [sMatch, tJs, tFmt, tBC, tMethA, tMakeL, iEnumS, tSeq, tAsg, tOp, tCB, tCons, tNil, tVar, tC, tB, tTest, tNot, tIfS, tNext, tYes, tUn, rU, tM0, tGFrom, tGThen, tG0, tYfLst, gcxK, tSubO, tProp, tListG, tMethG, tBMF, tFld, sFld, tMeth, tMake, tSl, tNoPart, tPart, tM1, gTup, gCons, gNil, tDrop, tFor_eq, tLc_eq, tLc2_eq, iRng1_eq, StX.tStar, iList, iTup, iStr, iAny_var, iZipB, tLenSetS, wipe, tVar, tAndV, tOrV, tNotV, tOr, tAnd, tLst, tTup, tBM, tBM0, tChain, tCall, cxK, noxK, addII, addSS, mulII, eqII, neII, neSS, cIntI, cAbsI, rI, rI0, rLt, rLe, rGt_, rGe_, rSub_, rMod, rPow, rDivW, rNeg, gName, tRet, L2.start, List.length_cons, List.length_nil, List.map_cons, List.map_nil, List.replicate, List.cons_append, List.nil_append, List.getElem?_cons_zero, List.getElem?_cons_succ, List.set_cons_zero, List.set_cons_succ, Option.some.injEq, exists_eq_left', exists_eq_left, V.int.injEq, V.bl.injEq, V.str.injEq, V.ref.injEq, V.ty.injEq, List.cons.injEq, and_true, true_and, reduceCtorEq, false_and, exists_false, or_false, false_or, exists_and_left, exists_and_right, List.append_nil, forall_eq, decide_eq_true_eq, Bool.not_eq_true, Nat.reduceAdd, Nat.reduceSub, List.replicate_zero, List.replicate_succ, Nat.zero_le, ite_true, ite_false, if_true, if_false])
section
variable {P : Program} {w : World} {K : PySem.W.Frag} {mg : Str → Option Value} {base : Heap}

open UV UW NdefX ClX
variable {R Wr B Pg Sy IC UC IS UP : Addr}
theorem app_as (x y z : Str) : x ++ y ++ z = x ++ (y ++ z) := by
  show (⟨(x.cps ++ y.cps) ++ z.cps⟩ : Str) = ⟨x.cps ++ (y.cps ++ z.cps)⟩
  rw [Array.append_assoc]
theorem e_read : ("read " : Str) = ("read" : Str) ++ (" " : Str) := by decide +kernel
theorem e_as : (" as " : Str) = (" " : Str) ++ (("as" : Str) ++ (" " : Str)) := by decide +kernel
theorem e_prog : ("program " : Str) = ("program" : Str) ++ (" " : Str) := by decide +kernel
theorem prog_join (n : Str) : ("program " : Str) ++ n = Txt.join " " [("program" : Str), n] := by
  rw [_root_.TL.join_eq, e_prog]; rfl
theorem line_fun : Sk.line = fun k : Sk => Txt.join " " k.words := by
  funext k
  rw [_root_.TL.join_eq]
  cases k with
  | rd s l =>
    show "read " ++ s ++ " as " ++ l = ("read" : Str) ++ (" " : Str) ++ (s ++ (" " : Str) ++ (("as" : Str) ++ (" " : Str) ++ l))
    rw [e_read, e_as]
    simp only [app_as]
  | wr t f xs =>
    show Txt.join " " (wrT t f xs) = _
    rw [_root_.TL.join_eq]; rfl
  | rw s l t f xs =>
    show "read " ++ s ++ " as " ++ l ++ " " ++ Txt.join " " (wrT t f xs) = ("read" : Str) ++ (" " : Str) ++ (s ++ (" " : Str) ++ (("as" : Str) ++ (" " : Str) ++ (l ++ (" " : Str) ++ Str.join " " (wrT t f xs))))
    rw [_root_.TL.join_eq, e_read, e_as]
    simp only [app_as]
theorem join_no {c : Nat} (hc : c ≠ 32) : ∀ {ws : List Str}, (∀ x ∈ ws, c ∉ x.cps.toList) → c ∉ (Txt.join " " ws).cps.toList := by
  have hsp : c ∉ (" " : Str).cps.toList := by
    have e : (" " : Str).cps.toList = [32] := by decide +kernel
    rw [e]; simpa using hc
  have ap : ∀ x y : Str, c ∉ x.cps.toList → c ∉ y.cps.toList → c ∉ (x ++ y).cps.toList := fun x y hx hy => by
    show c ∉ (x.cps ++ y.cps).toList
    rw [Array.toList_append, List.mem_append]
    exact fun q => q.elim hx hy
  intro ws h
  rw [_root_.TL.join_eq]
  induction ws with
  | nil => show c ∉ (Str.empty).cps.toList; simp [Str.empty]
  | cons x r ih =>
    cases r with
    | nil => exact h x List.mem_cons_self
    | cons z r => exact ap _ _ (ap _ _ (h x List.mem_cons_self) hsp) (ih fun y hy => h y (List.mem_cons_of_mem _ hy))
theorem GoodS.each : ∀ {ks : List Sk} {kn : List Str}, GoodS kn ks → (∀ z ∈ kn, isNm z) → ∀ k ∈ ks, (∀ x ∈ k.words, isNm x) ∧ k.args.length ≤ 3 ∧ ∀ x ∈ k.args, isNm x
  | k :: r, kn, ⟨h0, hr⟩, hk, k', hm => by
    rcases List.mem_cons.mp hm with rfl | hm
    · exact ⟨words_nm h0 hk, h0.2.2.2, fun x hx => (List.mem_append.mp (h0.2.2.1 x hx)).elim (hk x) fun h => h0.1 x (by simp [h])⟩
    · exact GoodS.each hr (fun z hz => (List.mem_append.mp hz).elim (hk z) fun h => h0.1 z (by simp [h])) k' hm
theorem small_of {k : Sk} (h : ∀ x ∈ k.words, isNm x) (h3 : k.args.length ≤ 3) : k.small := by
  have l8 : ∀ x ∈ k.words, x.length ≤ 1000 := fun x hx => Nat.le_trans (nm_len (h x hx)) (by decide)
  have wr : ∀ {t f : Str} {xs : List Str}, (∀ x ∈ wrT t f xs, x.length ≤ 1000) → xs.length ≤ 3 → t.length ≤ 1000 ∧ f.length ≤ 1000 ∧ (∀ x ∈ xs, x.length ≤ 1000) ∧ xs.length ≤ 100 := fun {t f xs} h h3 => by
    refine ⟨h t (by simp [wrT]), h f (by simp [wrT]), fun x hx => h x ?_, by omega⟩
    unfold wrT
    have e : xs ≠ [] := fun e => by rw [e] at hx; cases hx
    rw [if_neg e]; simp [hx]
  cases k with
  | rd s l => exact ⟨l8 s (by simp [Sk.words]), l8 l (by simp [Sk.words])⟩
  | wr t f xs => exact wr l8 h3
  | rw s l t f xs => exact ⟨⟨l8 s (by simp [Sk.words]), l8 l (by simp [Sk.words])⟩, wr (fun x hx => l8 x (by simp only [Sk.words, List.mem_append]; exact .inr hx)) h3⟩
theorem line_le2 {ws : List Str} (h : ∀ x ∈ ws, isNm x) (hn : ws.length ≤ 12) : (Txt.join " " ws).length ≤ 120 := by
  rw [_root_.TL.join_eq]
  have h0 := join_len " " ws
  have h2 := sum_le (m := 8) fun x hx => nm_len (h x hx)
  rw [l_sp] at h0
  omega
theorem text_le {n : Str} {ks : List Sk} (hn : isNm n) (h : ∀ k ∈ ks, (∀ x ∈ k.words, isNm x) ∧ k.words.length ≤ 12) (hl : ks.length ≤ 4) : (Txt.join "\n" (("program " ++ n) :: ks.map fun k => Txt.join " " k.words)).length ≤ 10000 := by
  rw [_root_.TL.join_eq]
  have l8 : ("program " : Str).length = 8 := by decide +kernel
  have l1 : ("\n" : Str).length = 1 := by decide +kernel
  have h0 := join_len "\n" (("program " ++ n) :: ks.map fun k => Txt.join " " k.words)
  have h2 := sum_le (m := 120) (l := ("program " ++ n) :: ks.map fun k => Txt.join " " k.words) fun x hx => by
    rcases List.mem_cons.mp hx with rfl | hx
    · have := nm_len hn; rw [len_app, l8]; omega
    · obtain ⟨k, hk, rfl⟩ := List.mem_map.mp hx
      exact line_le2 (h k hk).1 (h k hk).2
  rw [l1, List.length_cons, List.length_map] at h0
  rw [List.length_cons, List.length_map] at h2
  omega
theorem nm_program : isNm "program" := by show nmB _ = true; decide +kernel
/-- the comprehension over one item, None left out -/
def sp_funsN : Sp := fun vs H Q _ => ∃ p : Addr, vs = [.ref p] ∧ Pl H p ∧ ∀ q H' (xs : List Str), 2 ≤ xs.length → xs.length ≤ 5 → (∀ z ∈ xs, isNm z) → xs.Nodup → H q = none → H' q = some (.lst (xs.map V.str)) → Pl H' p → But p H H' → Q (.ref q) H'
theorem d_funsN (T : Nm mg) (D : TD K mg "_law_functions" s__law_functions) (d__law_draw : Dn P w K mg base CX0 1 "_law_draw" sp_draw) (d__law_names : Dn P w K mg base CX0 2 "_law_names" sp_namesN) : Dn P w K mg base CX0 3 "_law_functions" sp_funsN := by
  refine D.dn sc__law_functions (fun _ _ _ _ _ _ us hl => match us, hl with | [_], _ => rfl) (fun vs H Q E h => ?_) (fun f cdv A outer s H vs Q E hr h => ?_)
  · obtain ⟨p, rfl, _⟩ := h; rfl
  · obtain ⟨p, rfl, hp, q⟩ := h
    refine ⟨_, (pss_one (ps_ret (pe_d d__law_names hr (by decide) pass0 (by rfl) (pa_cons (pv 0) (pa_cons (pe_ix ix_seq (pe_lst (pa_cons pe_int (pa_cons pe_int (pa_cons pe_int (pa_cons pe_int pa_nil))))) (pe_d d__law_draw hr (by decide) pass0 (by rfl) (pa_cons (pv 0) (pa_cons pe_int pa_nil))) (fun _ _ => rfl)) pa_nil))))), ?_⟩
    walk_at "rd"
    refine ⟨by rw [sizeLine_eq]; decide, fun l hl => drawI (by decide) (hp.put (hp.ne hl)) fun r H1 r0 r3 hp1 b1 => ?_⟩
    have hl1 : H1 l = some (.lst [V.int 4, V.int 2, V.int 3, V.int 5]) := b1 _ _ upd_same (Ne.symm (hp.ne hl))
    have b01 : But p H H1 := But.tr (UL.Same.but (UL.Same.new hl)) b1
    have hr3 : r = 0 ∨ r = 1 ∨ r = 2 ∨ r = 3 := by omega
    rcases hr3 with rfl | rfl | rfl | rfl
    · exact ixL (.inl (.inl hl1)) (show atI _ ((0 : Nat) : Int) = some (.int (4 : Nat)) from atN rfl) ⟨p, 4, rfl, hp1, by omega, by omega, fun q0 H2 xs hxl hnm hnd hq h2 hp2 b2 => q q0 H2 xs (by omega) (by omega) hnm hnd (But.free' b01 hp1 hq) h2 hp2 (But.tr b01 b2)⟩
    · exact ixL (.inl (.inl hl1)) (show atI _ ((1 : Nat) : Int) = some (.int (2 : Nat)) from atN rfl) ⟨p, 2, rfl, hp1, by omega, by omega, fun q0 H2 xs hxl hnm hnd hq h2 hp2 b2 => q q0 H2 xs (by omega) (by omega) hnm hnd (But.free' b01 hp1 hq) h2 hp2 (But.tr b01 b2)⟩
    · exact ixL (.inl (.inl hl1)) (show atI _ ((2 : Nat) : Int) = some (.int (3 : Nat)) from atN rfl) ⟨p, 3, rfl, hp1, by omega, by omega, fun q0 H2 xs hxl hnm hnd hq h2 hp2 b2 => q q0 H2 xs (by omega) (by omega) hnm hnd (But.free' b01 hp1 hq) h2 hp2 (But.tr b01 b2)⟩
    · exact ixL (.inl (.inl hl1)) (show atI _ ((3 : Nat) : Int) = some (.int (5 : Nat)) from atN rfl) ⟨p, 5, rfl, hp1, by omega, by omega, fun q0 H2 xs hxl hnm hnd hq h2 hp2 b2 => q q0 H2 xs (by omega) (by omega) hnm hnd (But.free' b01 hp1 hq) h2 hp2 (But.tr b01 b2)⟩
/-- a later heap where only lists (and fresh objects without fields) changed -/
theorem StA.keep3 {H H' : Hp} {a : Addr} {k : Sk} (h : StA H R Wr B a k) (off : ∀ c o, H c = some o → (∀ xs, o ≠ .lst xs) → H' c = some o) : StA H' R Wr B a k := by
  cases k with
  | rd s l => obtain ⟨dx, e⟩ := h; exact ⟨dx, off _ _ e (fun _ z => nomatch z)⟩
  | wr t f xs => obtain ⟨dx, p, e, o, e2, d⟩ := h; exact ⟨dx, p, off _ _ e (fun _ z => nomatch z), o, off _ _ e2 (fun _ z => nomatch z), d⟩
  | rw s l t f xs => obtain ⟨dx, p, e, o, e2, d⟩ := h; exact ⟨dx, p, off _ _ e (fun _ z => nomatch z), o, off _ _ e2 (fun _ z => nomatch z), d⟩
theorem PgA.keep3 {H H' : Hp} {a : Addr} {n : Str} {ks : List Sk} (h : PgA H R Wr B Pg a n ks) (off : ∀ c o, H c = some o → (∀ xs, o ≠ .lst xs) → H' c = some o) : PgA H' R Wr B Pg a n ks := by
  obtain ⟨dx, p, ts, e, ⟨o, e2, d⟩, pr⟩ := h
  exact ⟨dx, p, ts, off _ _ e (fun _ z => nomatch z), ⟨o, off _ _ e2 (fun _ z => nomatch z), d⟩, L2.Paired.mapP pr fun _ _ g => StA.keep3 g off⟩
theorem PgA.same {H H' : Hp} {a : Addr} {n : Str} {ks : List Sk} (h : PgA H R Wr B Pg a n ks) (s : Same H H') : PgA H' R Wr B Pg a n ks := h.keep3 fun c o e _ => s c o e
theorem met_nd : ∀ {xs : List Str}, 1 ≤ xs.length → xs.length ≤ 3 → xs.Nodup → (met xs).length = xs.length
  | [a], _, _, _ => by simp [met]
  | [a, b], _, _, h => by
    have h1 : a ≠ b := by simpa using h
    simp [met, Ne.symm h1]
    try (simp [h1])
  | [a, b, c], _, _, h => by
    simp only [List.nodup_cons, List.mem_cons, List.not_mem_nil, or_false, not_or, List.nodup_nil, and_true, not_false_eq_true] at h
    obtain ⟨⟨h1, h2⟩, h3⟩ := h
    simp [met, Ne.symm h1, Ne.symm h2, Ne.symm h3]
    try (simp [h1, h2, h3])
  | _ :: _ :: _ :: _ :: _, _, h, _ => absurd h (by simp only [List.length_cons]; omega)
theorem nms_right {xs : List Str} (h1 : 1 ≤ xs.length) (h3 : xs.length ≤ 3) (hn : ∀ z ∈ xs, isNm z) (nd : xs.Nodup) : nmsB xs = true := by
  unfold nmsB
  rw [decide_eq_true h1, decide_eq_true h3, decide_eq_true (met_nd h1 h3 nd)]
  simp only [Bool.true_and, Bool.and_true, List.all_eq_true]
  exact fun z hz => hn z hz
/-- the text of a row -/
def txR (q : Rw) : Str := Txt.join "\n" (("program " ++ q.n) :: q.ks.map fun k => Txt.join " " k.words)
theorem txR_line (q : Rw) : Txt.join "\n" (("program " ++ q.n) :: q.ks.map Sk.line) = txR q := by rw [line_fun]; rfl
/-- what a row's text and its reading ask -/
def RwG0 (q : Rw) : Prop := isNm q.n ∧ GoodS [] q.ks ∧ q.ks.length ≤ 4
theorem RwG.g0 {cs fs : List Str} {q : Rw} (g : RwG cs fs q) : RwG0 q := ⟨g.1, g.2.1, g.2.2.2⟩
theorem RwG0.each {q : Rw} (g : RwG0 q) : ∀ k ∈ q.ks, k.small ∧ k.args.length ≤ 3 ∧ ∀ x ∈ k.args, PyData.strOk x = true := fun k hk => by
  have e := GoodS.each g.2.1 (fun z hz => by cases hz) k hk
  exact ⟨small_of e.1 e.2.1, e.2.1, fun x hx => nm_ok (e.2.2 x hx)⟩
/-- _law_text of a row -/
theorem row_text0 {q : Rw} {H : Hp} {Q : VK} {E : XK} (g : RwG0 q) (h : RwH H q) (k : ∀ H', Same H H' → Q (.str (txR q)) H') : sp_ltext [.str q.n, .ref q.sl] H Q E :=
  ⟨q.n, q.sl, q.rs, q.ks, rfl, nm_len g.1, h.2.1, h.2.2, g.2.2, g.each, k⟩
/-- Program.read of a row's text -/
theorem row_read0 {q : Rw} {H : Hp} {Q : VK} {E : XK} (g : RwG0 q) (k : ∀ a H', PgA H' R Wr B Pg a q.n q.ks → Same H H' → Q (.ref a) H') : sp_pread K R Wr B Pg [.ref Pg, .str (txR q)] H Q E := by
  have each := GoodS.each g.2.1 (fun z hz => by cases hz)
  have kl4 := g.2.2
  have each3 : ∀ k ∈ q.ks, (∀ x ∈ k.words, isNm x) ∧ k.words.length ≤ 12 := fun k hk => ⟨(each k hk).1, (words_many (g.each k hk).1 (g.each k hk).2.1).2⟩
  have n8 := nm_len g.1
  have sp1 : Txt.split (Txt.join "\n" (("program " ++ q.n) :: q.ks.map fun k => Txt.join " " k.words)) "\n" = ("program " ++ q.n) :: q.ks.map fun k => Txt.join " " k.words := by
    refine _root_.TL.split_join (y := "\n") (s := 10) (S := []) (by decide +kernel) (by decide +kernel) (by simp) fun z hz => ?_
    rcases List.mem_cons.mp hz with rfl | hz
    · rw [prog_join]
      refine join_no (by decide) fun x hx => ?_
      simp only [List.mem_cons, List.not_mem_nil, or_false] at hx
      rcases hx with rfl | rfl
      · exact (sp_free nm_program).2
      · exact (sp_free g.1).2
    · obtain ⟨k, hk', rfl⟩ := List.mem_map.mp hz
      exact join_no (by decide) fun x hx => (sp_free ((each k hk').1 x hx)).2
  have sp2 : Txt.split ("program " ++ q.n) " " = [("program" : Str), q.n] := by
    rw [prog_join]
    refine split_words (fun x hx => ?_) (by simp)
    simp only [List.mem_cons, List.not_mem_nil, or_false] at hx
    rcases hx with rfl | rfl
    · exact nm_program
    · exact g.1
  have hln : ∀ z ∈ q.ks.map (fun k => Txt.join " " k.words), LnOk z := fun z hz => by
    obtain ⟨k, hk', rfl⟩ := List.mem_map.mp hz
    obtain ⟨e1, e2⟩ := each3 k hk'
    have e3 := line_le2 e1 e2
    refine ⟨by omega, ?_⟩
    rw [split_words e1 (words_ne k)]
    exact ⟨fun x hx => Nat.le_trans (nm_len (e1 x hx)) (by decide), by omega⟩
  have l8 : ("program " : Str).length = 8 := by decide +kernel
  exact ⟨txR q, "program " ++ q.n, q.n, _, q.ks, rfl, text_le g.1 each3 kl4, sp1, sp2, g.1, by rw [len_app, l8]; omega, by omega, by rw [List.length_map]; exact kl4, hln, steps_words g.2.1 (fun z hz => by cases hz), fun a dx p ts H' ha hp hst s => k a H' ⟨dx, p, ts, ha, hp, hst⟩ s⟩
theorem RwG.each {cs fs : List Str} {q : Rw} (g : RwG cs fs q) : ∀ k ∈ q.ks, k.small ∧ k.args.length ≤ 3 ∧ ∀ x ∈ k.args, PyData.strOk x = true := g.g0.each
theorem row_text {cs fs : List Str} {q : Rw} {H : Hp} {Q : VK} {E : XK} (g : RwG cs fs q) (h : RwH H q) (k : ∀ H', Same H H' → Q (.str (txR q)) H') : sp_ltext [.str q.n, .ref q.sl] H Q E := row_text0 g.g0 h k
theorem row_read {cs fs : List Str} {q : Rw} {H : Hp} {Q : VK} {E : XK} (g : RwG cs fs q) (k : ∀ a H', PgA H' R Wr B Pg a q.n q.ks → Same H H' → Q (.ref a) H') : sp_pread K R Wr B Pg [.ref Pg, .str (txR q)] H Q E := row_read0 g.g0 k
end
end U

set_option Elab.async false
set_option linter.all false
set_option maxRecDepth 100000
set_option maxHeartbeats 4000000
/-! own __contains__, __len__, a comparison's own method; d[tuple]; a dict comprehension whose keys are tuples -/
namespace UX
open PySem PySem.Spec PyProof.Rows L2 UL UV UW ClX
section
variable {X : Cx} {CX : CXT} {k j : Nat} {C : Addr} {sp : Sp} {E : XK}
/-- x in o -/
structure Ctn (P : Program) (w : World) (K : PySem.W.Frag) (mg : Str → Option Value) (base : Heap) (CX : CXT) (k : Nat) (C : Addr) (sp : Sp) : Prop where
  ex : ∃ (f : Addr) (fd : FuncData) (ps : List Str), FnOk P w K mg base CX k f fd ps sp ∧ PySem.W.findIn K (.ref C) "__contains__" = some (some (.ref f)) ∧ PySem.W.isFn K (.ref f) = true ∧ Binds K fd ps []
theorem Mn.ctn {P : Program} {w : World} {K : PySem.W.Frag} {mg : Str → Option Value} {base : Heap} (d : Mn P w K mg base CX k C "__contains__" sp) : Ctn P w K mg base CX k C sp :=
  let ⟨f, fd, ps, F, M, B⟩ := d.ex
  ⟨f, fd, ps, F, M.at_, M.fn, B⟩
def rInO (C : Addr) (sp : Sp) (E : XK) (n : Bool) : R2 := fun x y H Q => ∃ a dx fs, y = .ref a ∧ H a = some (.ins C dx fs) ∧ sp [.ref a, x] H (fun r H' => ∃ b, r = .bl b ∧ Q (.bl (if n = true then !b else b)) H') E
theorem op_inO (d : Ctn X.prog X.w X.K X.mg X.base CX k C sp) (hr : Room j X.A) (hk : k ≤ j) (hx : Passes CX X E) : OpR X (compareOp .In) (rInO C sp E false) := by
  obtain ⟨f, fd, ps, F, at_, fn, B⟩ := d.ex
  intro pins s σ H x y v u Q I rx ry h
  obtain ⟨a, dx, fs, rfl, e, q⟩ := h
  cases ry
  obtain ⟨od, J⟩ := inst_of I e
  obtain ⟨m, hF⟩ := I.fr
  refine PySem.W.in_K hF I.ok.mod.kin J at_ fn (thn (run_fn (us := [.ref a, v]) (vs := [.ref a, x]) F (hr.mono hk) B .nil hx I (.cons rfl (.cons rx .nil)) q) fun r s1 z => ?_)
  obtain ⟨r', H', I', rr, b, rfl, q'⟩ := z
  cases rr
  exact wpAny_truthy_bool ⟨.bl b, H', I', rfl, q'⟩
theorem op_ninO (d : Ctn X.prog X.w X.K X.mg X.base CX k C sp) (hr : Room j X.A) (hk : k ≤ j) (hx : Passes CX X E) : OpR X (compareOp .NotIn) (rInO C sp E true) := by
  obtain ⟨f, fd, ps, F, at_, fn, B⟩ := d.ex
  intro pins s σ H x y v u Q I rx ry h
  obtain ⟨a, dx, fs, rfl, e, q⟩ := h
  cases ry
  obtain ⟨od, J⟩ := inst_of I e
  obtain ⟨m, hF⟩ := I.fr
  refine PySem.W.notIn_K hF I.ok.mod.kin J at_ fn (thn (run_fn (us := [.ref a, v]) (vs := [.ref a, x]) F (hr.mono hk) B .nil hx I (.cons rfl (.cons rx .nil)) q) fun r s1 z => ?_)
  obtain ⟨r', H', I', rr, b, rfl, q'⟩ := z
  cases rr
  exact wpAny_truthy_bool ⟨.bl (!b), H', I', rfl, q'⟩
/-- len(o) -/
structure Lnn (P : Program) (w : World) (K : PySem.W.Frag) (mg : Str → Option Value) (base : Heap) (CX : CXT) (k : Nat) (C : Addr) (sp : Sp) : Prop where
  ex : ∃ (f : Addr) (fd : FuncData) (ps : List Str), FnOk P w K mg base CX k f fd ps sp ∧ PySem.W.findIn K (.ref C) "__len__" = some (some (.ref f)) ∧ PySem.W.isFn K (.ref f) = true ∧ Binds K fd ps []
theorem Mn.lnn {P : Program} {w : World} {K : PySem.W.Frag} {mg : Str → Option Value} {base : Heap} (d : Mn P w K mg base CX k C "__len__" sp) : Lnn P w K mg base CX k C sp :=
  let ⟨f, fd, ps, F, M, B⟩ := d.ex
  ⟨f, fd, ps, F, M.at_, M.fn, B⟩
def cLenO (C : Addr) (sp : Sp) (E : XK) : List V → Hp → VK → Prop := fun xs H Q => ∃ a dx fs, xs = [.ref a] ∧ H a = some (.ins C dx fs) ∧ sp [.ref a] H (fun r H' => ∃ n : Int, r = .int n ∧ 0 ≤ n ∧ n < 2 ^ 63 ∧ Q (.int n) H') E
theorem call_lenO (d : Lnn X.prog X.w X.K X.mg X.base CX k C sp) (hr : Room j X.A) (hk : k + 1 ≤ j) (hx : Passes CX X E) : CallR X (.builtin "len") (cLenO C sp E) := by
  obtain ⟨f, fd, ps, F, at_, fn, B⟩ := d.ex
  intro pins s σ H xs us Q I r h
  obtain ⟨a, dx, fs, rfl, e, q⟩ := h
  obtain rfl := Vals.ref1 r
  obtain ⟨od, J⟩ := inst_of I e
  obtain ⟨m, hF⟩ := I.fr
  refine PySem.W.len_K hF I.ok.mod.kin J at_ fn (thn (run_in1 (us := [.ref a]) (vs := [.ref a]) F (hr.mono hk) B hx I (.cons rfl .nil) q) fun r s1 z => ?_)
  obtain ⟨r', H', I', rr, n, rfl, h0, h1, q'⟩ := z
  obtain ⟨t, rfl⟩ := rr
  exact ⟨⟨h0, h1⟩, .int n, H', I'.tok _, ⟨_, rfl⟩, q'⟩
/-- x <= y and its like, both of the class -/
structure Cpn (P : Program) (w : World) (K : PySem.W.Frag) (mg : Str → Option Value) (base : Heap) (CX : CXT) (k : Nat) (C : Addr) (op : CmpOp) (sp : Sp) : Prop where
  ex : ∃ (f : Addr) (fd : FuncData) (ps : List Str), FnOk P w K mg base CX k f fd ps sp ∧ PySem.W.findIn K (.ref C) (cmpInfo op).2.1 = some (some (.ref f)) ∧ PySem.W.isFn K (.ref f) = true ∧ Binds K fd ps []
theorem Mn.cpn {P : Program} {w : World} {K : PySem.W.Frag} {mg : Str → Option Value} {base : Heap} {m : Str} {op : CmpOp} (d : Mn P w K mg base CX k C m sp) (e : (cmpInfo op).2.1 = m) : Cpn P w K mg base CX k C op sp :=
  let ⟨f, fd, ps, F, M, B⟩ := d.ex
  ⟨f, fd, ps, F, e ▸ M.at_, M.fn, B⟩
def rCmpO (C : Addr) (sp : Sp) (E : XK) : R2 := fun x y H Q => ∃ a dx fs b dy gs, x = .ref a ∧ y = .ref b ∧ H a = some (.ins C dx fs) ∧ H b = some (.ins C dy gs) ∧ sp [.ref a, .ref b] H Q E
theorem op_cmpO {op : CmpOp} (hop : ∀ a b, compareOp op a b = richCompare op a b) (d : Cpn X.prog X.w X.K X.mg X.base CX k C op sp) (hr : Room j X.A) (hk : k ≤ j) (hx : Passes CX X E) : OpR X (compareOp op) (rCmpO C sp E) := by
  obtain ⟨f, fd, ps, F, at_, fn, B⟩ := d.ex
  intro pins s σ H x y v u Q I rx ry h
  obtain ⟨a, dx, fs, b, dy, gs, rfl, rfl, e1, e2, q⟩ := h
  cases rx
  cases ry
  obtain ⟨od, J⟩ := inst_of I e1
  obtain ⟨od', J'⟩ := inst_of I e2
  obtain ⟨m, hF⟩ := I.fr
  rw [hop]
  refine PySem.W.cmp_K (op := op) (tb := .ref C) hr.units0 hF I.ok.mod.kin J J'.type (by simp [PySem.W.notFirst]) at_ fn (thn (run_fn (us := [.ref a, .ref b]) (vs := [.ref a, .ref b]) F (hr.mono hk) B .nil hx I (.cons rfl (.cons rfl .nil)) q) fun r s1 z => ?_)
  obtain ⟨z', H', I', rz, qz⟩ := z
  exact SlX.cmpback rz ⟨z', H', I', rz, qz⟩
end
end UX

set_option Elab.async false
set_option linter.all false
set_option maxRecDepth 100000
set_option maxHeartbeats 4000000
/-! plain data at a later heap; data compared -/
namespace UX
open PySem PySem.Spec PyProof.Rows L2 UL UV UW ClX
variable {K : PySem.W.Frag} {H H' : Hp}
mutual
theorem dp_same (s : Same H H') : ∀ {v : V} {d : PyData}, Dp K H v d → Dp K H' v d
  | _, _, .non => .non
  | _, _, .bl b => .bl b
  | _, _, .int i => .int i
  | _, _, .str x => .str x
  | _, _, .lst h a => .lst (UL.Same.sqL s h) (dpa_same s a)
  | _, _, .tup h a => .tup (UL.Same.sqT s h) (dpa_same s a)
theorem dpa_same (s : Same H H') : ∀ {vs : List V} {ds : List PyData}, DpAll K H vs ds → DpAll K H' vs ds
  | _, _, .nil => .nil
  | _, _, .cons h r => .cons (dp_same s h) (dpa_same s r)
end
theorem dpa_strs : ∀ {xs : List Str}, DpAll K H (xs.map V.str) (xs.map PyData.str)
  | [] => .nil
  | x :: r => .cons (.str x) dpa_strs
theorem dpa_ints : ∀ {xs : List Int}, DpAll K H (xs.map V.int) (xs.map PyData.int)
  | [] => .nil
  | x :: r => .cons (.int x) dpa_ints
/-- may stand in a comparison, at most n deep -/
def Sh (n : Nat) (d : PyData) : Prop := PyData.canLay0 d = true ∧ PyData.depth d ≤ n
theorem Sh.shaped {n : Nat} {d : PyData} (h : Sh n d) (hn : n ≤ 64) : SeqAt.shaped d = true := by
  show (_ && _) = true
  rw [h.1, decide_eq_true (Nat.le_trans h.2 hn)]; rfl
theorem Sh.int (i : Int) : Sh 0 (.int i) := ⟨by simp [PyData.canLay0], by simp [PyData.depth]⟩
theorem Sh.non : Sh 0 .none := ⟨by simp [PyData.canLay0], by simp [PyData.depth]⟩
theorem Sh.bl (b : Bool) : Sh 0 (.bool b) := ⟨by simp [PyData.canLay0], by simp [PyData.depth]⟩
theorem Sh.str {x : Str} (h : PyData.strOk x = true) : Sh 0 (.str x) := ⟨by simpa [PyData.canLay0] using h, by simp [PyData.depth]⟩
theorem Sh.all {n : Nat} : ∀ {ds : List PyData}, (∀ d ∈ ds, Sh n d) → PyData.canLayAll0 ds = true ∧ PyData.depthAll ds ≤ n
  | [], _ => by simp [PyData.canLayAll0, PyData.depthAll]
  | d :: r, h => by
    have h1 := h d List.mem_cons_self
    have h2 := Sh.all (n := n) (ds := r) fun x hx => h x (List.mem_cons_of_mem _ hx)
    simp only [PyData.canLayAll0, PyData.depthAll, h1.1, h2.1, Bool.and_self, true_and]
    have := h1.2
    have := h2.2
    omega
theorem Sh.tup {n : Nat} {ds : List PyData} (h : ∀ d ∈ ds, Sh n d) : Sh (n + 1) (.tuple ds) := by
  have h := Sh.all h
  refine ⟨by rw [PyData.canLay0]; exact h.1, by rw [PyData.depth]; have := h.2; omega⟩
theorem Sh.lst {n : Nat} {ds : List PyData} (h : ∀ d ∈ ds, Sh n d) : Sh (n + 1) (.list ds) := by
  have h := Sh.all h
  refine ⟨by rw [PyData.canLay0]; exact h.1, by rw [PyData.depth]; have := h.2; omega⟩
theorem Sh.mono {n m : Nat} {d : PyData} (h : Sh n d) (l : n ≤ m) : Sh m d := ⟨h.1, Nat.le_trans h.2 l⟩
theorem sh_strs {xs : List Str} (h : ∀ x ∈ xs, PyData.strOk x = true) : ∀ d ∈ xs.map PyData.str, Sh 0 d := fun d hd => by
  obtain ⟨x, hx, rfl⟩ := List.mem_map.mp hd
  exact Sh.str (h x hx)
theorem sh_ints {xs : List Int} : ∀ d ∈ xs.map PyData.int, Sh 0 d := fun d hd => by
  obtain ⟨x, _, rfl⟩ := List.mem_map.mp hd
  exact Sh.int x
/-- == and != of data -/
theorem eqDD {n m : Nat} {x y : V} {d e : PyData} {Q : VK} (h1 : Dp K H x d) (h2 : Dp K H y e) (s1 : Sh n d) (s2 : Sh m e) (hn : n ≤ 64 := by decide) (hm : m ≤ 64 := by decide) (q : Q (.bl (PyData.eqv d e)) H) : rEqA K x y H Q := .inr ⟨d, e, h1, h2, s1.shaped hn, s2.shaped hm, q⟩
theorem neDD {n m : Nat} {x y : V} {d e : PyData} {Q : VK} (h1 : Dp K H x d) (h2 : Dp K H y e) (s1 : Sh n d) (s2 : Sh m e) (hn : n ≤ 64 := by decide) (hm : m ≤ 64 := by decide) (q : Q (.bl (!PyData.eqv d e)) H) : rNeA K x y H Q := .inr ⟨d, e, h1, h2, s1.shaped hn, s2.shaped hm, q⟩
theorem eqv_same {n : Nat} {d : PyData} (h : Sh n d) : PyData.eqv d d = true := SeqAt.eqv_refl d h.1
theorem cut_from (xs : List V) (n : Nat) : cutV xs (some (n : Int)) none = xs.drop n := by
  unfold cutV
  rw [HT.sIx_nat, HT.sIx_none]
  by_cases h : n ≤ xs.length
  · rw [Nat.min_eq_left h]; exact List.take_of_length_le (by rw [List.length_drop]; omega)
  · rw [Nat.min_eq_right (by omega), List.drop_eq_nil_of_le (Nat.le_refl _), List.drop_eq_nil_of_le (by omega)]; simp
theorem cut_to (xs : List V) (n : Nat) : cutV xs none (some (n : Int)) = xs.take n := by
  unfold cutV
  rw [HT.sIx_nat, HT.sIx_none, List.drop_zero, Nat.sub_zero]
  by_cases h : n ≤ xs.length
  · rw [Nat.min_eq_left h]
  · rw [Nat.min_eq_right (by omega), List.take_of_length_le (Nat.le_refl _), List.take_of_length_le (by omega)]
/-- two lists put together -/
theorem catL {H : Hp} {Q : VK} {a b : Addr} {xs ys : List V} (ha : H a = some (.lst xs)) (hb : H b = some (.lst ys)) (hl : xs.length + ys.length ≤ sizeLine) (q : ∀ r, H r = none → Q (.ref r) (upd H r (.lst (xs ++ ys)))) : rAddA K (.ref a) (.ref b) H Q :=
  .inr (.inr (.inr ⟨a, b, xs, ys, rfl, rfl, ha, hb, hl, q⟩))
/-! a block in two parts, by what holds between them -/
section
variable {t1 t2 t3 t4 t5 tb : TS} {D : Ends} {σ : L2.St} {H : Hp}
theorem seq_cut (M : L2.St → Hp → Prop) (h1 : ∀ tl : L2.St → Hp → Prop, (∀ σ H, M σ H → tl σ H) → t1 { D with nx := tl } σ H) (h2 : ∀ σ H, M σ H → tb D σ H) : tSeq t1 tb D σ H := h1 (tb D) h2
theorem seq_cut2 (M : L2.St → Hp → Prop) (h1 : ∀ tl : L2.St → Hp → Prop, (∀ σ H, M σ H → tl σ H) → tSeq t1 t2 { D with nx := tl } σ H) (h2 : ∀ σ H, M σ H → tb D σ H) : tSeq t1 (tSeq t2 tb) D σ H := h1 (tb D) h2
theorem seq_cut3 (M : L2.St → Hp → Prop) (h1 : ∀ tl : L2.St → Hp → Prop, (∀ σ H, M σ H → tl σ H) → tSeq t1 (tSeq t2 t3) { D with nx := tl } σ H) (h2 : ∀ σ H, M σ H → tb D σ H) : tSeq t1 (tSeq t2 (tSeq t3 tb)) D σ H := h1 (tb D) h2
theorem seq_cut4 (M : L2.St → Hp → Prop) (h1 : ∀ tl : L2.St → Hp → Prop, (∀ σ H, M σ H → tl σ H) → tSeq t1 (tSeq t2 (tSeq t3 t4)) { D with nx := tl } σ H) (h2 : ∀ σ H, M σ H → tb D σ H) : tSeq t1 (tSeq t2 (tSeq t3 (tSeq t4 tb))) D σ H := h1 (tb D) h2
theorem seq_cut5 (M : L2.St → Hp → Prop) (h1 : ∀ tl : L2.St → Hp → Prop, (∀ σ H, M σ H → tl σ H) → tSeq t1 (tSeq t2 (tSeq t3 (tSeq t4 t5))) { D with nx := tl } σ H) (h2 : ∀ σ H, M σ H → tb D σ H) : tSeq t1 (tSeq t2 (tSeq t3 (tSeq t4 (tSeq t5 tb)))) D σ H := h1 (tb D) h2
end
end UX

set_option Elab.async false
set_option linter.all false
set_option maxRecDepth 100000
set_option maxHeartbeats 4000000
set_option pp.deepTerms true
set_option pp.maxSteps 400000
namespace U
open PySem PySem.Spec PyProof.Rows L2 UL UX
local macro_rules | `(tactic| walk_at "rd") => `(tactic| simp only [sMatch, tJs, tFmt, tBC, tMethA, tMakeL, iEnumS, tSeq, tAsg, tOp, tCB, tCons, tNil, tVar, tC, tB, tTest, tNot, tIfS, tNext, tYes, tUn, rU, tM0, tGFrom, tGThen, tG0, tYfLst, gcxK, tSubO, tProp, tListG, tMethG, tBMF, tFld, sFld, tMeth, tMake, tSl, tNoPart, tPart, tM1, gTup, gCons, gNil, tDrop, tFor_eq, tLc_eq, tLc2_eq, iRng1_eq, StX.tStar, iList, iTup, iStr, iAny_var, iZipB, tLenSetS, wipe, tVar, tAndV, tOrV, tNotV, tOr, tAnd, tLst, tTup, tBM, tBM0, tChain, tCall, cxK, noxK, addII, addSS, mulII, eqII, neII, neSS, cIntI, cAbsI, rI, rI0, rLt, rLe, rGt_, rGe_, rSub_, rMod, rPow, rDivW, rNeg, gName, tRet, L2.start, List.length_cons, List.length_nil, List.map_cons, List.map_nil, List.replicate, List.cons_append, List.nil_append, List.getElem?_cons_zero, List.getElem?_cons_succ, List.set_cons_zero, List.set_cons_succ, Option.some.injEq, exists_eq_left', exists_eq_left, V.int.injEq, V.bl.injEq, V.str.injEq, V.ref.injEq, V.ty.injEq, List.cons.injEq, and_true, true_and, reduceCtorEq, false_and, exists_false, or_false, false_or, exists_and_left, exists_and_right, List.append_nil, forall_eq, decide_eq_true_eq, Bool.not_eq_true, Nat.reduceAdd, Nat.reduceSub, List.replicate_zero, List.replicate_succ, Nat.zero_le, ite_true, ite_false, if_true, if_false])
section
variable {P : Program} {w : World} {K : PySem.W.Frag} {mg : Str → Option Value} {base : Heap}

open UV UW NdefX ClX
variable {R Wr B Pg Sy IC UC IS UP WE : Addr}
structure LoX (K : PySem.W.Frag) (mg : Str → Option Value) (R Wr B Pg Sy IC IS UC UP WE : Addr) : Prop extends SyX K mg R Wr B Pg Sy IS UC UP where
  c_WeaveError : ∃ u, mg "WeaveError" = some u ∧ RelV (.ref WE) u
  c_InvalidSystem : ∃ u, mg "InvalidSystem" = some u ∧ RelV (.ref IS) u
  c_UnknownCell : ∃ u, mg "UnknownCell" = some u ∧ RelV (.ref UC) u
  g_IC : mg "InvalidCells" = some (.ref IC)
  g_IS : mg "InvalidSystem" = some (.ref IS)
  g_UC : mg "UnknownCell" = some (.ref UC)
  xfS : XfC K IS
  xfC : XfC K UC
  ecI : ExcC K IC
  ecS : ExcC K IS
  ecC : ExcC K UC
  ii : PySem.W.exmOne K (.ref IC) (.ref IC) = some true
  si : PySem.W.exmOne K (.ref IS) (.ref IC) = some false
  ss : PySem.W.exmOne K (.ref IS) (.ref IS) = some true
  ci : PySem.W.exmOne K (.ref UC) (.ref IC) = some false
  cs : PySem.W.exmOne K (.ref UC) (.ref IS) = some false
  cc : PySem.W.exmOne K (.ref UC) (.ref UC) = some true
  iw : PySem.W.kitOne K (.ref IC) (.ref WE) = some true
  iS : PySem.W.kitOne K (.ref IC) (.ref IS) = some false
  sw : PySem.W.kitOne K (.ref IS) (.ref WE) = some true
  sC : PySem.W.kitOne K (.ref IS) (.ref UC) = some false
  cw : PySem.W.kitOne K (.ref UC) (.ref WE) = some true
/-- what is told of a system that is made or refused -/
def resD : Option (Except Er (List Str)) → PyData
  | none => .tuple [.str "cells", .str ""]
  | some (.error (.cell c)) => .tuple [.str "cell", .str c]
  | some (.error (.sys n)) => .tuple [.str "system", .str n]
  | some (.ok ns) => .tuple [.str "made", .list (ns.map .str)]
def dueR (cs : List Str) : List Str → List (Str × Nat) → List (Str × List Sk) → Except Er (List Str)
  | ns, _, [] => .ok ns
  | ns, as, q :: r => if ns.length = 4 ∨ q.1 ∈ ns then .error (.sys q.1) else match takeSs cs as q.2 with
    | .error e => .error e
    | .ok as' => dueR cs (ns ++ [q.1]) as' r
theorem valA_isSome {α : Type} {as : List (Str × α)} {f : Str} : (valA as f).isSome = decide (f ∈ as.map (·.1)) := by
  by_cases h : f ∈ as.map (·.1)
  · rw [decide_eq_true h]
    unfold valA
    cases hv : as.find? fun q => decide (q.1 = f) with
    | some q => rfl
    | none =>
      obtain ⟨q, hq, e⟩ := List.mem_map.mp h
      have := List.find?_eq_none.mp hv q hq
      simp [e] at this
  · rw [decide_eq_false h]
    unfold valA
    rw [List.find?_eq_none.mpr fun q hq => by
      simp only [decide_eq_true_eq]
      exact fun e => h (by rw [← e]; exact List.mem_map_of_mem hq)]
    rfl
theorem due_take (cs : List Str) : ∀ (qs : QsT) (ps : List (Str × Addr)) (as : List (Str × Nat)), match dueR cs (ps.map (·.1)) as (qs.map (·.2)) with
    | .error e => takePs cs ps as qs = .error e
    | .ok ns => ∃ ps' as', takePs cs ps as qs = .ok (ps', as') ∧ ps'.map (·.1) = ns
  | [], ps, as => ⟨ps, as, rfl, rfl⟩
  | q :: r, ps, as => by
    show match (if (ps.map (·.1)).length = 4 ∨ q.2.1 ∈ ps.map (·.1) then Except.error (Er.sys q.2.1) else match takeSs cs as q.2.2 with
      | .error e => .error e
      | .ok as' => dueR cs (ps.map (·.1) ++ [q.2.1]) as' (r.map (·.2))) with
      | .error e => (match takeP cs ps as q.2.1 q.2.2 with | .error e => Except.error e | .ok as' => takePs cs (ps ++ [(q.2.1, q.1)]) as' r) = Except.error e
      | .ok ns => ∃ ps' as', (match takeP cs ps as q.2.1 q.2.2 with | .error e => Except.error e | .ok as' => takePs cs (ps ++ [(q.2.1, q.1)]) as' r) = Except.ok (ps', as') ∧ ps'.map (·.1) = ns
    unfold takeP
    rw [List.length_map, valA_isSome]
    by_cases c : ps.length = 4 ∨ q.2.1 ∈ ps.map (·.1)
    · rw [if_pos c, if_pos (c.imp id fun h => decide_eq_true h)]
    · rw [if_neg c, if_neg fun h => c (h.imp id of_decide_eq_true)]
      cases hs : takeSs cs as q.2.2 with
      | error e => rfl
      | ok as' =>
        have ih := due_take cs r (ps ++ [(q.2.1, q.1)]) as'
        rw [List.map_append] at ih
        exact ih
abbrev s__law_due : Stmt := top 45
abbrev sc__law_due_N : List Str := ["_law_cells", "_law_programs", "_law_counts", "_law_names_here", "_law_row", "_law_step_here"]
theorem sc__law_due : FnScope sc__law_due_N ["_law_cells", "_law_programs"] (defScope s__law_due) := ⟨rfl, rfl, rfl, by decide +kernel, rfl, by decide +kernel, by decide +kernel⟩
-- 0 _law_cells, 1 _law_programs, 2 _law_counts, 3 _law_names_here, 4 _law_row, 5 _law_step_here
def sp_ldue (K : PySem.W.Frag) : Sp := fun vs H Q _ => ∃ (a b : Addr) (cs : List Str) (qs : List Rw), vs = [.ref a, .ref b] ∧ H a = some (.lst (cs.map V.str)) ∧ H b = some (.lst (qs.map fun q => V.ref q.r)) ∧ (∀ q ∈ qs, RwH H q ∧ q.ks.length ≤ 4 ∧ PyData.strOk q.n = true) ∧ qs.length ≤ 8 ∧ cs.length ≤ 8 ∧
  ∀ r H', (∀ H'', (∀ c o, H c = none → H' c = some o → H'' c = some o) → Dp K H'' (.ref r) (resD (some (dueR cs [] [] (qs.map fun q => (q.n, q.ks)))))) → Same H H' → Q (.ref r) H'
theorem d_ldue (T : LoX K mg R Wr B Pg Sy IC IS UC UP WE) (D : TD K mg "_law_due" s__law_due) : Dn P w K mg base CX0 1 "_law_due" (sp_ldue K) := by
  refine D.dn sc__law_due (fun _ _ _ _ _ _ us hl => match us, hl with | [_, _], _ => rfl) (fun vs H Q E h => ?_) (fun f cdv A outer s H vs Q E hr h => ?_)
  · obtain ⟨a, b, cs, qs, rfl, _⟩ := h; rfl
  · obtain ⟨a, b, cs, qs, rfl, ha, hb, hq, hl, hc, q⟩ := h
    refine ⟨_, (pss_cons (ps_set (i := 2) sc__law_due.nd rfl (Or.inl rfl) pe_dnewK)
      (pss_cons (ps_set (i := 3) sc__law_due.nd rfl (Or.inl rfl) (pe_lst pa_nil))
      (pss_cons (ps_for PassesOwn.never rfl (pi_list (pv 1)) (pg_name (i := 4) sc__law_due.nd rfl (Or.inl rfl)) (pss_cons (ps_if (pw_or (pt_cmpR (op_eqA (hr.units)) (pe_callB call_lenA (by rfl) T.n_len (by decide +kernel) (pa_cons (pv 3) pa_nil)) pe_int (nomark _)) (pw_or1 (pt_cmpR (op_inK K rfl) (pe_ix ix_seq (pv 4) pe_int (fun _ _ => rfl)) (pv 3) (by with_unfolding_all rfl)))).pt (pss_one (ps_ret (pe_tup (pa_cons pe_str (pa_cons (pe_ix ix_seq (pv 4) pe_int (fun _ _ => rfl)) pa_nil))))) pss_nil)
      (pss_cons (ps_expr (pe_bm PySem.F.plainAttrs_list PySem.F.slot_list_append PySem.F.type_list_append mt_append (pv 3) (pa_cons (pe_ix ix_seq (pv 4) pe_int (fun _ _ => rfl)) pa_nil)))
      (pss_one (ps_for PassesOwn.never rfl (pi_list (pe_ix ix_seq (pv 4) pe_int (fun _ _ => rfl))) (pg_name (i := 5) sc__law_due.nd rfl (Or.inl rfl)) (pss_cons (ps_if (pw_and (pt_cmpR op_notNone (pe_ix ix_seq (pv 5) pe_int (fun _ _ => rfl)) pe_non (nomark _)) (pw_and1 (pt_cmpR op_ninA (pe_ix ix_seq (pv 5) pe_int (fun _ _ => rfl)) (pv 0) (by with_unfolding_all rfl)))).pt (pss_one (ps_ret (pe_tup (pa_cons pe_str (pa_cons (pe_ix ix_seq (pv 5) pe_int (fun _ _ => rfl)) pa_nil))))) pss_nil)
      (pss_cons (ps_if (pw_and (pt_cmpR op_notNone (pe_ix ix_seq (pv 5) pe_int (fun _ _ => rfl)) pe_non (nomark _)) (pw_and1 (pt_cmpR op_ninA (pe_ix ix_seq (pv 5) pe_int (fun _ _ => rfl)) (pv 0) (by with_unfolding_all rfl)))).pt (pss_one (ps_ret (pe_tup (pa_cons pe_str (pa_cons (pe_ix ix_seq (pv 5) pe_int (fun _ _ => rfl)) pa_nil))))) pss_nil)
      (pss_cons (ps_if (pw_and (pt_cmpR op_notNone (pe_ix ix_seq (pv 5) pe_int (fun _ _ => rfl)) pe_non (nomark _)) (pw_and1 (pt_cmp (pc_dnotin (un1 hr.units) (pe_ix ix_seq (pv 5) pe_int (fun _ _ => rfl)) (pv 2)) (by with_unfolding_all rfl)))).pt (pss_one (ps_dput (un1 hr.units) (pv 2) (pe_ix ix_seq (pv 5) pe_int (fun _ _ => rfl)) (pe_callB call_lenA (by rfl) T.n_len (by decide +kernel) (pa_cons (pe_ix ix_seq (pv 5) pe_int (fun _ _ => rfl)) pa_nil)) rfl)) pss_nil)
      (pss_one (ps_if (pw_and (pt_cmpR op_notNone (pe_ix ix_seq (pv 5) pe_int (fun _ _ => rfl)) pe_non (nomark _)) (pw_and1 (pt_cmpR (op_neA (hr.units)) (pe_dget (un1 hr.units) (pv 2) (pe_ix ix_seq (pv 5) pe_int (fun _ _ => rfl)) (fun _ _ => rfl)) (pe_callB call_lenA (by rfl) T.n_len (by decide +kernel) (pa_cons (pe_ix ix_seq (pv 5) pe_int (fun _ _ => rfl)) pa_nil)) (nomark _)))).pt (pss_one (ps_ret (pe_tup (pa_cons pe_str (pa_cons (pe_ix ix_seq (pv 5) pe_int (fun _ _ => rfl)) pa_nil))))) pss_nil))))))))))
      (pss_one (ps_ret (pe_tup (pa_cons pe_str (pa_cons (pv 3) pa_nil)))))))), ?_⟩
    walk_at "rd"
    unfold tDNewK
    walk_at "rd"
    have lq : (qs.map fun q => V.ref q.r).length = qs.length := List.length_map _
    intro d hd p hp
    have ndp : d ≠ p := ne_of_none upd_same hp
    have hpH : H p = none := by rw [upd_ne (Ne.symm ndp)] at hp; exact hp
    have s0 : Same H (upd (upd H d (.dK [])) p (.lst [])) := Same.tr (UL.Same.new hd) (UL.Same.new hp)
    have dmap : ∀ i, (qs.map fun q => (q.n, q.ks)).drop i = (qs.drop i).map fun q => (q.n, q.ks) := fun i => List.map_drop.symm
    refine ⟨⟨_, .inl (.inl (s0 _ _ hb))⟩, FJ.list (xs := qs.map fun q => V.ref q.r) (fun i σ' H' => ∃ (ns : List Str) (as : List (Str × Nat)) (z4 z5 : Option V), σ' = [some (.ref a), some (.ref b), some (.ref d), some (.ref p), z4, z5] ∧ H' d = some (.dK (ak as)) ∧ H' p = some (.lst (ns.map V.str)) ∧ Same H H' ∧ ns.length ≤ 4 ∧ as.length ≤ 4 * i ∧ dueR cs [] [] (qs.map fun q => (q.n, q.ks)) = dueR cs ns as ((qs.drop i).map fun q => (q.n, q.ks))) ⟨[], [], _, _, rfl, by rw [upd_ne ndp]; exact upd_same, upd_same, s0, by decide, by decide, rfl⟩ (fun i σ' H' _ inv => ?_) (fun i x σ' H' hx inv => ?_) fun σ' H' inv => ?_⟩
    · obtain ⟨ns, as, z4, z5, _, _, _, sm, _⟩ := inv
      exact .inl (.inl (sm _ _ hb))
    · obtain ⟨ns, as, z4, z5, rfl, h1, h2, sm, hn4, hal, hdue⟩ := inv
      rw [List.getElem?_map] at hx
      cases hqi : qs[i]? with
      | none => rw [hqi] at hx; cases hx
      | some q0 =>
        rw [hqi] at hx
        cases hx
        have il : i < qs.length := (List.getElem?_eq_some_iff.mp hqi).1
        have hdrop : qs.drop i = q0 :: qs.drop (i + 1) := by
          rw [List.drop_eq_getElem_cons il]
          rw [List.getElem?_eq_getElem il] at hqi
          rw [Option.some.inj hqi]
        rw [hdrop] at hdue
        have hdue : _ = if ns.length = 4 ∨ q0.n ∈ ns then Except.error (Er.sys q0.n) else match takeSs cs as q0.ks with
          | .error e => .error e
          | .ok as' => dueR cs (ns ++ [q0.n]) as' ((qs.drop (i + 1)).map fun q => (q.n, q.ks)) := hdue
        obtain ⟨hrow, hk4, hok⟩ := hq q0 (List.mem_of_getElem? hqi)
        have g := hrow.same sm
        walk_at "rd"
        have ix0 : ∀ {H2 : Hp} {Q : VK}, Same H' H2 → Q (.str q0.n) H2 → rIx K (.ref q0.r) (.int 0) H2 Q := fun {H2 Q} s2 h => ixT (.inl (.inl (s2 _ _ g.1))) (atN (n := 0) rfl) h
        have ix1 : ∀ {H2 : Hp} {Q : VK}, RwH H2 q0 → Q (.ref q0.sl) H2 → rIx K (.ref q0.r) (.int 1) H2 Q := fun {H2 Q} g2 h => ixT (.inl (.inl g2.1)) (atN (n := 1) rfl) h
        have fault : (ns.length = 4 ∨ q0.n ∈ ns) → rIx K (.ref q0.r) (.int 0) H' (fun x H1 => 2 ≤ sizeLine ∧ ∀ (p : Addr), H1 p = none → Q (V.ref p) (upd H1 p (HO.tup [V.str (Str.ofString "system"), x]))) := fun c => ix0 (fun _ _ z => z) ⟨by rw [sizeLine_eq]; decide, fun r hr => q r _ (fun H'' keep => by
          rw [hdue, if_pos c]
          exact .tup (.inl (.inl (keep _ _ (Same.free sm hr) upd_same))) (.cons (.str _) (.cons (.str _) .nil))) (Same.tr sm (UL.Same.new hr))⟩
        refine lenL (.inl (.inl h2)) (eqII.mpr ⟨_, rfl, ?_⟩)
        rw [List.length_map]
        by_cases c4 : ns.length = 4
        · rw [if_pos (by simp [c4])]
          exact fault (.inl c4)
        rw [if_neg (by simp; omega)]
        refine ix0 (fun _ _ z => z) (.inr ⟨p, _, rfl, .inl (.inl (.inl h2)), rfl, flatS ns, ?_⟩)
        rw [if_neg (by decide), inV_str]
        refine ⟨_, rfl, ?_⟩
        by_cases cm : q0.n ∈ ns
        · rw [if_pos (by simp [cm])]
          exact fault (.inr cm)
        rw [if_neg (by simp [cm])]
        rw [if_neg (fun h => h.elim c4 cm)] at hdue
        refine ⟨.inl ⟨rfl, _, .inl (.inl h2)⟩, ix0 (fun _ _ z => z) ⟨p, _, _, rfl, rfl, h2, by rw [List.length_map, sizeLine_eq]; omega, ?_⟩⟩
        have e2 : ns.map V.str ++ [V.str q0.n] = (ns ++ [q0.n]).map V.str := by simp
        rw [e2]
        have hpn : H p = none := hpH
        have sm2 : Same H (upd H' p (.lst ((ns ++ [q0.n]).map V.str))) := UL.Same.put sm hpn
        have g2 := hrow.same sm2
        refine ix1 g2 ⟨q0.sl, rfl, ⟨_, .inl (.inl g2.2.1)⟩, FJ.list (xs := q0.rs.map V.ref) (fun j σ' H' => ∃ (as' : List (Str × Nat)) (z5 : Option V), σ' = [some (.ref a), some (.ref b), some (.ref d), some (.ref p), some (.ref q0.r), z5] ∧ H' d = some (.dK (ak as')) ∧ H' p = some (.lst ((ns ++ [q0.n]).map V.str)) ∧ Same H H' ∧ as'.length ≤ 4 * i + j ∧ takeSs cs as q0.ks = takeSs cs as' (q0.ks.drop j)) ⟨as, _, rfl, by rw [upd_ne ndp]; exact h1, upd_same, sm2, by omega, rfl⟩ (fun j σ' H' _ inv => ?_) (fun j x σ' H' hx inv => ?_) fun σ' H' inv => ?_⟩
        · obtain ⟨as', z5, _, _, _, s3, _⟩ := inv
          exact .inl (.inl (hrow.same s3).2.1)
        · obtain ⟨as', z5, rfl, h3, h4, s3, hl3, ht3⟩ := inv
          rw [List.getElem?_map] at hx
          cases hti : q0.rs[j]? with
          | none => rw [hti] at hx; cases hx
          | some t =>
            rw [hti] at hx
            cases hx
            obtain ⟨k, hki, e, gt, ge⟩ := pr_at (hrow.same s3).2.2 hti
            have jl : j < q0.ks.length := (List.getElem?_eq_some_iff.mp hki).1
            have kdrop : q0.ks.drop j = k :: q0.ks.drop (j + 1) := by
              rw [List.drop_eq_getElem_cons jl]
              rw [List.getElem?_eq_getElem jl] at hki
              rw [Option.some.inj hki]
            rw [kdrop] at ht3
            have ht3 : _ = match takeS cs as' k with | .error e => Except.error e | .ok as2 => takeSs cs as2 (q0.ks.drop (j + 1)) := ht3
            walk_at "rd"
            unfold tDNotIn sDPut tDGet
            walk_at "rd"
            have rx : ∀ {H2 : Hp} {Q : VK} {v : V} (j : Nat), H2 t = some (.tup (rowV k e)) → (rowV k e)[j]? = some v → Q v H2 → rIx K (.ref t) (.int j) H2 Q := fun {H2 Q v} j h1 h2 h3 => ixT (.inl (.inl h1)) (atN h2) h3
            have tell : ∀ (er : Er) (w : Str) (c : Str), (resD (some (Except.error er)) = .tuple [.str w, .str c]) → takeS cs as' k = .error er → ∀ {H2 : Hp}, Same H H2 → 2 ≤ sizeLine ∧ ∀ (p : Addr), H2 p = none → Q (V.ref p) (upd H2 p (HO.tup [V.str w, V.str c])) := fun er w c e1 e2 {H2} s2 => ⟨by rw [sizeLine_eq]; decide, fun r hr => q r _ (fun H'' keep => by
              rw [hdue, ht3, e2]
              show Dp K _ _ (resD (some (Except.error er)))
              rw [e1]
              exact .tup (.inl (.inl (keep _ _ (Same.free s2 hr) upd_same))) (.cons (.str _) (.cons (.str _) .nil))) (Same.tr s2 (UL.Same.new hr))⟩
            have inA : ∀ {x : Str} {Q : VK}, Q (.bl (!decide (x ∈ cs))) H' → rNInA K (.str x) (.ref a) H' Q := fun {x Q} h => .inr ⟨a, _, rfl, .inl (.inl (.inl (s3 _ _ ha))), rfl, flatS cs, by rw [if_pos rfl, inV_str]; exact h⟩
            rcases k with ⟨s, l⟩ | ⟨tg, f, xs⟩ | ⟨s, l, tg, f, xs⟩
            case rd =>
              have e1 : takeS cs as' (.rd s l) = if s ∈ cs then .ok as' else .error (.cell s) := by
                unfold takeS
                by_cases c : s ∈ cs <;> simp [Sk.src, Sk.tgt, Sk.fn, c]
              refine rx 0 gt rfl ⟨rfl, _, rfl, ?_⟩
              rw [if_pos (by simp)]
              refine rx 0 gt rfl (inA ⟨_, rfl, ?_⟩)
              by_cases c : s ∈ cs
              · rw [if_neg (by simp [c])]
                rw [if_pos c] at e1
                rw [e1] at ht3
                refine rx 2 gt rfl ⟨rfl, _, rfl, ?_⟩
                rw [if_neg (by simp)]
                refine rx 2 gt rfl ⟨rfl, _, rfl, ?_⟩
                rw [if_neg (by simp)]
                refine rx 2 gt rfl ⟨rfl, _, rfl, ?_⟩
                rw [if_neg (by simp)]
                exact ⟨as', h3, h4, s3, by omega, ht3⟩
              · rw [if_pos (by simp [c])]
                rw [if_neg c] at e1
                exact rx 0 gt rfl (tell _ "cell" s rfl e1 s3)
            case' wr =>
              have e1 : takeS cs as' (.wr tg f xs) = if tg ∈ cs then takeF as' f xs.length else .error (.cell tg) := by
                unfold takeS
                by_cases c : tg ∈ cs <;> simp [Sk.src, Sk.tgt, Sk.fn, c]
              refine rx 0 gt rfl ⟨rfl, _, rfl, ?_⟩
              rw [if_neg (by simp)]
              refine rx 2 gt rfl ⟨rfl, _, rfl, ?_⟩
              rw [if_pos (by simp)]
              refine rx 2 gt rfl (inA ⟨_, rfl, ?_⟩)
              by_cases c : tg ∈ cs
              rotate_left
              · rw [if_pos (by simp [c])]
                rw [if_neg c] at e1
                exact rx 2 gt rfl (tell _ "cell" tg rfl e1 s3)
              rw [if_neg (by simp [c])]
              rw [if_pos c] at e1
            case' rw =>
              have e1 : takeS cs as' (.rw s l tg f xs) = if s ∈ cs then (if tg ∈ cs then takeF as' f xs.length else .error (.cell tg)) else .error (.cell s) := by
                unfold takeS
                by_cases c1 : s ∈ cs <;> by_cases c : tg ∈ cs <;> simp [Sk.src, Sk.tgt, Sk.fn, c, c1, List.find?_cons]
              refine rx 0 gt rfl ⟨rfl, _, rfl, ?_⟩
              rw [if_pos (by simp)]
              refine rx 0 gt rfl (inA ⟨_, rfl, ?_⟩)
              by_cases c1 : s ∈ cs
              rotate_left
              · rw [if_pos (by simp [c1])]
                rw [if_neg c1] at e1
                exact rx 0 gt rfl (tell _ "cell" s rfl e1 s3)
              rw [if_neg (by simp [c1])]
              rw [if_pos c1] at e1
              refine rx 2 gt rfl ⟨rfl, _, rfl, ?_⟩
              rw [if_pos (by simp)]
              refine rx 2 gt rfl (inA ⟨_, rfl, ?_⟩)
              by_cases c : tg ∈ cs
              rotate_left
              · rw [if_pos (by simp [c])]
                rw [if_neg c] at e1
                exact rx 2 gt rfl (tell _ "cell" tg rfl e1 s3)
              rw [if_neg (by simp [c])]
              rw [if_pos c] at e1
            all_goals
              refine rx 2 gt rfl ⟨rfl, _, rfl, ?_⟩
              rw [if_pos (by simp)]
              refine rx 3 gt rfl ⟨_, DGet.k (k := Sum.inr f) h3, ?_⟩
              rw [valV_ak]
              have ge : H' e = some (.tup (xs.map V.str)) := ge
              have gt2 : ∀ kv, upd H' d (.dK kv) t = some _ := fun kv => (upd_ne (fun z => by rw [z, h3] at gt; cases gt)).trans gt
              have ge2 : ∀ kv, upd H' d (.dK kv) e = some _ := fun kv => (upd_ne (fun z => by rw [z, h3] at ge; cases ge)).trans ge
              have la : (xs.map V.str).length = xs.length := List.length_map _
              cases hv : valA as' f with
              | none =>
                rw [if_pos (by simp)]
                have e2 : takeF as' f xs.length = .ok (as' ++ [(f, xs.length)]) := by unfold takeF; rw [hv]
                rw [e2] at e1
                rw [e1] at ht3
                have hn : valV (ak as') (Sum.inr f) = none := by rw [valV_ak, hv]; rfl
                have ek : putK (ak as') (Sum.inr f) (V.int (xs.length : Nat)) = ak (as' ++ [(f, xs.length)]) := by rw [putK_new hn]; unfold ak; rw [List.map_append]; rfl
                have lak : (ak as').length = as'.length := List.length_map _
                refine rx 4 gt rfl (lenT (.inl (.inl ge)) (rx 3 gt rfl ⟨_, DPut.k (k := Sum.inr f) h3 (by rw [lak, sizeLine_eq]; omega), ?_⟩))
                rw [la, ek]
                refine rx 2 (gt2 _) rfl ⟨rfl, _, rfl, ?_⟩
                rw [if_pos (by simp)]
                have gd : DGet (upd H' d (.dK (ak (as' ++ [(f, xs.length)])))) d (.str f) (some (.int (xs.length : Nat))) := by
                  have := DGet.k (k := Sum.inr f) (show upd H' d (.dK (ak (as' ++ [(f, xs.length)]))) d = some _ from upd_same)
                  rw [← ek, valV_put, if_pos rfl] at this
                  rw [← ek]
                  exact this
                refine rx 3 (gt2 _) rfl ⟨_, gd, rx 4 (gt2 _) rfl (lenT (.inl (.inl (ge2 _))) (neII.mpr ⟨_, rfl, ?_⟩))⟩
                rw [if_neg (by simp [Sk.args])]
                exact ⟨⟨_, rfl⟩, _, upd_same, by rw [upd_ne (Ne.symm ndp)]; exact h4, UL.Same.put s3 hd, by rw [List.length_append]; simp only [List.length_cons, List.length_nil]; omega, ht3⟩
              | some m =>
                rw [if_neg (by simp)]
                refine rx 2 gt rfl ⟨rfl, _, rfl, ?_⟩
                rw [if_pos (by simp)]
                have gd : DGet H' d (.str f) (some (.int (m : Nat))) := by
                  have := DGet.k (k := Sum.inr f) h3
                  rw [valV_ak, hv] at this
                  exact this
                refine rx 3 gt rfl ⟨_, gd, rx 4 gt rfl (lenT (.inl (.inl ge)) (neII.mpr ⟨_, rfl, ?_⟩))⟩
                by_cases c2 : m = xs.length
                · rw [if_neg (by simp [Sk.args, c2])]
                  have e2 : takeF as' f xs.length = .ok as' := by unfold takeF; rw [hv]; exact if_pos c2
                  rw [e2] at e1
                  rw [e1] at ht3
                  exact ⟨as', h3, h4, s3, by omega, ht3⟩
                · rw [if_pos (by simp [Sk.args]; omega)]
                  have e2 : takeF as' f xs.length = .error (.sys f) := by unfold takeF; rw [hv]; exact if_neg c2
                  rw [e2] at e1
                  exact rx 3 gt rfl (tell _ "system" f rfl e1 s3)
        · obtain ⟨as', z5, rfl, h3, h4, s3, hl3, ht3⟩ := inv
          have lr : (q0.rs.map V.ref).length = q0.ks.length := by rw [List.length_map]; exact paired_len hrow.2.2
          rw [lr] at hl3 ht3
          rw [List.drop_length] at ht3
          rw [show takeSs cs as q0.ks = .ok as' from ht3] at hdue
          exact ⟨⟨_, _, rfl⟩, ns ++ [q0.n], as', h3, h4, s3, by rw [List.length_append]; simp only [List.length_cons, List.length_nil]; omega, by omega, hdue⟩
    · obtain ⟨ns, as, z4, z5, rfl, h1, h2, sm, hn4, hal, hdue⟩ := inv
      rw [lq, List.drop_length] at hdue
      walk_at "rd"
      refine ⟨by rw [sizeLine_eq]; decide, fun r hr => q r _ ?_ (Same.tr sm (UL.Same.new hr))⟩
      intro H'' keep
      rw [hdue]
      exact .tup (.inl (.inl (keep _ _ (Same.free sm hr) upd_same))) (.cons (.str _) (.cons (.lst (.inl (.inl (keep _ _ hpH (by rw [upd_ne (ne_of_none h2 hr)]; exact h2)))) dpa_strs) .nil))
abbrev s__law_outcome : Stmt := top 44
abbrev sc__law_outcome_N : List Str := ["_law_cells", "_law_made", "_law_system", "e"]
theorem sc__law_outcome : FnScope sc__law_outcome_N ["_law_cells", "_law_made"] (defScope s__law_outcome) := ⟨rfl, rfl, rfl, by decide +kernel, rfl, by decide +kernel, by decide +kernel⟩
-- 0 _law_cells, 1 _law_made, 2 _law_system, 3 e
def sp_lout (K : PySem.W.Frag) (R Wr B Pg : Addr) : Sp := fun vs H Q _ => ∃ (a b : Addr) (cs : List Str) (qs : QsT), vs = [.ref a, .ref b] ∧ SqW H a (cs.map V.str) ∧ SqW H b (qs.map fun q => V.ref q.1) ∧ cs.length ≤ 60 ∧ (∀ z ∈ cs, z.length ≤ 1000) ∧ qs.length ≤ 8 ∧
  (∀ q ∈ qs, PgA H R Wr B Pg q.1 q.2.1 q.2.2 ∧ (∀ k ∈ q.2.2, k.small) ∧ q.2.2.length ≤ 8 ∧ q.2.1.length ≤ 1000) ∧ ∀ r H', Dp K H' (.ref r) (resD (if nmsB cs = true then some (dueR cs [] [] (qs.map (·.2))) else none)) → Same H H' → Q (.ref r) H'
theorem d_lout (T : LoX K mg R Wr B Pg Sy IC IS UC UP WE) (a_names : NoAttr K Sy "names") (D : TD K mg "_law_outcome" s__law_outcome) (k_System : Kn P w K mg base (L2.CX P w) 9 Sy "System" (sp_sinit K R Wr B Pg Sy IC IS UC)) : Dn P w K mg base CX0 12 "_law_outcome" (sp_lout K R Wr B Pg) := by
  have xf_InvalidSystem := T.xfS
  have na_InvalidSystem_name := T.naIS
  have xf_UnknownCell := T.xfC
  have na_UnknownCell_cell := T.naUC
  have nms_InvalidCells : ∀ {X : Cx}, X.mg = mg → Gl X "InvalidCells" → Names X "InvalidCells" (.ref IC) := fun e g => ⟨g, by decide, .inl (by rw [e]; exact T.g_IC)⟩
  have nms_InvalidSystem : ∀ {X : Cx}, X.mg = mg → Gl X "InvalidSystem" → Names X "InvalidSystem" (.ref IS) := fun e g => ⟨g, by decide, .inl (by rw [e]; exact T.g_IS)⟩
  have nms_UnknownCell : ∀ {X : Cx}, X.mg = mg → Gl X "UnknownCell" → Names X "UnknownCell" (.ref UC) := fun e g => ⟨g, by decide, .inl (by rw [e]; exact T.g_UC)⟩
  refine D.dn sc__law_outcome (fun _ _ _ _ _ _ us hl => match us, hl with | [_, _], _ => rfl) (fun vs H Q E h => ?_) (fun f cdv A outer s H vs Q E hr h => ?_)
  · obtain ⟨a, b, cs, qs, rfl, _⟩ := h; rfl
  · obtain ⟨a, b, cs, qs, rfl, ha, hb, hc, hz, hql, hqs, q⟩ := h
    refine ⟨_, (pss_cons (ps_try_asMany rfl rfl takes0 (fun W pn xe tk po => (pss_one (ps_set (i := 2) sc__law_outcome.nd rfl (Or.inl rfl) (pe_kX k_System hr (by decide) (fun σ => passAt tk σ) (by rfl) (pa_cons (pv 0) (pa_cons (pv 1) pa_nil)))))) (.cons (i := 3) sc__law_outcome.nd rfl rfl (nms_InvalidCells rfl (by rfl)) (fun a oe cls d pn hz hv => (pss_cons (ps_if (pw_or (pt_not (pt_val (pe_callB (call_is0 hz hv) (by rfl) T.n_isinstance (by decide +kernel) (pa_cons (pv 3) (pa_cons (C8.pe_gc (by rfl) T.c_WeaveError) pa_nil))))) (pw_or1 (pt_val (pe_callB (call_is0 hz hv) (by rfl) T.n_isinstance (by decide +kernel) (pa_cons (pv 3) (pa_cons (C8.pe_gc (by rfl) T.c_InvalidSystem) pa_nil)))))).pt (pss_one (ps_ret (pe_tup (pa_cons pe_str (pa_cons pe_str pa_nil))))) pss_nil)
      (pss_one (ps_ret (pe_tup (pa_cons pe_str (pa_cons pe_str pa_nil))))))) (.cons (i := 3) sc__law_outcome.nd rfl rfl (nms_InvalidSystem rfl (by rfl)) (fun a oe cls d pn hz hv => (pss_cons (ps_if (pw_or (pt_not (pt_val (pe_callB (call_isX hz hv) (by rfl) T.n_isinstance (by decide +kernel) (pa_cons (pv 3) (pa_cons (C8.pe_gc (by rfl) T.c_WeaveError) pa_nil))))) (pw_or1 (pt_val (pe_callB (call_isX hz hv) (by rfl) T.n_isinstance (by decide +kernel) (pa_cons (pv 3) (pa_cons (C8.pe_gc (by rfl) T.c_UnknownCell) pa_nil)))))).pt (pss_one (ps_ret (pe_tup (pa_cons pe_str (pa_cons pe_str pa_nil))))) pss_nil)
      (pss_one (ps_ret (pe_tup (pa_cons pe_str (pa_cons (pe_xf xf_InvalidSystem na_InvalidSystem_name hz hv (pv 3)) pa_nil))))))) (.cons (i := 3) sc__law_outcome.nd rfl rfl (nms_UnknownCell rfl (by rfl)) (fun a oe cls d pn hz hv => (pss_cons (ps_if (pt_not (pt_val (pe_callB (call_isX hz hv) (by rfl) T.n_isinstance (by decide +kernel) (pa_cons (pv 3) (pa_cons (C8.pe_gc (by rfl) T.c_WeaveError) pa_nil))))) (pss_one (ps_ret (pe_tup (pa_cons pe_str (pa_cons pe_str pa_nil))))) pss_nil)
      (pss_one (ps_ret (pe_tup (pa_cons pe_str (pa_cons (pe_xf xf_UnknownCell na_UnknownCell_cell hz hv (pv 3)) pa_nil))))))) .nil))))
      (pss_one (ps_ret (pe_tup (pa_cons pe_str (pa_cons (pe_callTy call_listA (by rfl) T.n_list (by decide +kernel) (pa_cons (pe_fld (pv 2) (by rfl)) pa_nil)) pa_nil)))))), ?_⟩
    walk_at "rd"
    unfold tMakeX
    walk_at "rd"
    intro x dx hx hdx ndx
    have s0 : Same H (upd (upd H dx (.own x)) x (.ins Sy dx [])) := Same.tr (UL.Same.new hdx) (UL.Same.new (by rw [upd_ne (Ne.symm ndx)]; exact hx))
    have due := due_take cs qs [] []
    refine ⟨x, a, b, dx, cs, qs, rfl, upd_same, ha.same s0, hb.same s0, hc, hz, hql, fun q0 hq0 => ⟨(hqs q0 hq0).1.same s0, (hqs q0 hq0).2⟩, fun hnm H1 s1 => ?_, fun hnm => ⟨fun er he => ?_, fun ps as he H1 c p ad nn h1 h2 h3 h4 h5 h6 b1 => ?_⟩⟩
    · have s := Same.tr s0 s1
      refine ⟨true, T.ii, fun _ a2 ha2 => ?_, fun h => nomatch h⟩
      walk_at "rd"
      refine is0 T.ecI (fun _ r => r) T.iw ⟨true, rfl, ?_⟩
      rw [if_neg (by decide)]
      refine is0 T.ecI (fun _ r => r) T.iS ⟨false, rfl, ?_⟩
      rw [if_neg (by decide)]
      refine ⟨by rw [sizeLine_eq]; decide, fun r hr => q r _ ?_ (Same.tr s (UL.Same.new hr))⟩
      rw [if_neg (by rw [hnm]; decide)]
      exact .tup (.inl (.inl upd_same)) (.cons (.str _) (.cons (.str _) .nil))
    · have tell : ∀ {H1 : Hp} {w z : Str}, SmS [x] (upd (upd H dx (.own x)) x (.ins Sy dx [])) H1 → resD (some (.error er)) = .tuple [.str w, .str z] → 2 ≤ sizeLine ∧ ∀ (p : Addr), H1 p = none → Q (V.ref p) (upd H1 p (HO.tup [V.str w, V.str z])) := fun {H1 w z} s1 e1 => ⟨by rw [sizeLine_eq]; decide, fun r hr => q r _ (by
        rw [if_pos hnm]
        have e2 : dueR cs [] [] (qs.map (·.2)) = .error er := by
          cases hd : dueR cs [] [] (qs.map (·.2)) with
          | error e3 =>
            rw [show dueR cs (([] : List (Str × Addr)).map (·.1)) [] (qs.map (·.2)) = Except.error e3 from hd] at due
            rw [show takePs cs [] [] qs = Except.error e3 from due] at he
            cases he
            rfl
          | ok ns =>
            rw [show dueR cs (([] : List (Str × Addr)).map (·.1)) [] (qs.map (·.2)) = Except.ok ns from hd] at due
            obtain ⟨ps', as', e3, _⟩ := due
            rw [e3] at he
            cases he
        rw [e2, e1]
        exact .tup (.inl (.inl upd_same)) (.cons (.str _) (.cons (.str _) .nil))) (fun c o ec => by
          rw [upd_ne (ne_of_none (s1 _ _ (s0 _ _ ec) (by simp only [List.mem_singleton]; exact ne_of_none ec hx)) hr)]
          exact s1 _ _ (s0 _ _ ec) (by simp only [List.mem_singleton]; exact ne_of_none ec hx))⟩
      cases er with
      | cell c =>
        intro d H1 s1 hd
        refine ⟨false, T.ci, fun h => (nomatch h), fun _ => ⟨false, T.cs, fun h => (nomatch h), fun _ => ⟨true, T.cc, fun _ a2 ha2 => ?_, fun h => nomatch h⟩⟩⟩
        walk_at "rd"
        refine isX T.ecC hd (fun _ r => r) T.cw ⟨true, rfl, ?_⟩
        rw [if_neg (by decide)]
        exact ⟨_, rfl, rfl, rfl, d, _, .str c, rfl, hd, rfl, tell s1 rfl⟩
      | sys n =>
        intro d H1 s1 hd
        refine ⟨false, T.si, fun h => (nomatch h), fun _ => ⟨true, T.ss, fun _ a2 ha2 => ?_, fun h => nomatch h⟩⟩
        walk_at "rd"
        refine isX T.ecS hd (fun _ r => r) T.sw ⟨true, rfl, ?_⟩
        rw [if_neg (by decide)]
        refine isX T.ecS hd (fun _ r => r) T.sC ⟨false, rfl, ?_⟩
        rw [if_neg (by decide)]
        exact ⟨_, rfl, rfl, rfl, d, _, .str n, rfl, hd, rfl, tell s1 rfl⟩
    · have e2 : dueR cs [] [] (qs.map (·.2)) = .ok (ps.map (·.1)) := by
        cases hd : dueR cs [] [] (qs.map (·.2)) with
        | error e3 =>
          rw [show dueR cs (([] : List (Str × Addr)).map (·.1)) [] (qs.map (·.2)) = Except.error e3 from hd] at due
          rw [show takePs cs [] [] qs = Except.error e3 from due] at he
          cases he
        | ok ns =>
          rw [show dueR cs (([] : List (Str × Addr)).map (·.1)) [] (qs.map (·.2)) = Except.ok ns from hd] at due
          obtain ⟨ps', as', e3, e4⟩ := due
          rw [e3] at he
          cases he
          rw [e4]
      have s : Same H H1 := fun c o ec => b1 _ _ (s0 _ _ ec) (ne_of_none ec hx)
      refine ⟨rfl, Sy, dx, _, h1, T.cls, a_names, .ref nn, rfl, nn, _, rfl, .inr (FT.sq h5), fun l hl => ⟨by rw [sizeLine_eq]; decide, fun r hr => q r _ ?_ (Same.tr s (Same.tr (UL.Same.new hl) (UL.Same.new hr)))⟩⟩
      rw [if_pos hnm, e2]
      have em : (ps.map fun q => V.str q.1) = (ps.map (·.1)).map V.str := by rw [List.map_map]; rfl
      refine .tup (.inl (.inl upd_same)) (.cons (.str _) (.cons (.lst (.inl (.inl ?_)) (dpa_strs (xs := ps.map (·.1)))) .nil))
      rw [upd_ne (ne_of_none upd_same hr), upd_same, em]
end
end U

set_option Elab.async false
set_option linter.all false
set_option maxRecDepth 100000
set_option maxHeartbeats 4000000
set_option pp.deepTerms true
set_option pp.maxSteps 400000
namespace U
open PySem PySem.Spec PyProof.Rows L2 UL UX
local macro_rules | `(tactic| walk_at "rd") => `(tactic| simp only [sMatch, tJs, tFmt, tBC, tMethA, tMakeL, iEnumS, tSeq, tAsg, tOp, tCB, tCons, tNil, tVar, tC, tB, tTest, tNot, tIfS, tNext, tYes, tUn, rU, tM0, tGFrom, tGThen, tG0, tYfLst, gcxK, tSubO, tProp, tListG, tMethG, tBMF, tFld, sFld, tMeth, tMake, tSl, tNoPart, tPart, tM1, gTup, gCons, gNil, tDrop, tFor_eq, tLc_eq, tLc2_eq, iRng1_eq, StX.tStar, iList, iTup, iStr, iAny_var, iZipB, tLenSetS, wipe, tVar, tAndV, tOrV, tNotV, tOr, tAnd, tLst, tTup, tBM, tBM0, tChain, tCall, cxK, noxK, addII, addSS, mulII, eqII, neII, neSS, cIntI, cAbsI, rI, rI0, rLt, rLe, rGt_, rGe_, rSub_, rMod, rPow, rDivW, rNeg, gName, tRet, L2.start, List.length_cons, List.length_nil, List.map_cons, List.map_nil, List.replicate, List.cons_append, List.nil_append, List.getElem?_cons_zero, List.getElem?_cons_succ, List.set_cons_zero, List.set_cons_succ, Option.some.injEq, exists_eq_left', exists_eq_left, V.int.injEq, V.bl.injEq, V.str.injEq, V.ref.injEq, V.ty.injEq, List.cons.injEq, and_true, true_and, reduceCtorEq, false_and, exists_false, or_false, false_or, exists_and_left, exists_and_right, List.append_nil, forall_eq, decide_eq_true_eq, Bool.not_eq_true, Nat.reduceAdd, Nat.reduceSub, List.replicate_zero, List.replicate_succ, Nat.zero_le, ite_true, ite_false, if_true, if_false])
section
variable {P : Program} {w : World} {K : PySem.W.Frag} {mg : Str → Option Value} {base : Heap}

open UV UW NdefX ClX
variable {R Wr B Pg Sy IC UC IS UP WE : Addr}
theorem GoodS.mono : ∀ {ks : List Sk} {kn kn' : List Str}, GoodS kn ks → (∀ z ∈ kn, z ∈ kn') → GoodS kn' ks
  | [], _, _, _, _ => trivial
  | k :: r, kn, kn', ⟨h0, hr⟩, h => ⟨⟨h0.1, h0.2.1, fun x hx => (List.mem_append.mp (h0.2.2.1 x hx)).elim (fun z => List.mem_append_left _ (h x z)) fun z => List.mem_append_right _ z, h0.2.2.2⟩, GoodS.mono hr fun z hz => (List.mem_append.mp hz).elim (fun q => List.mem_append_left _ (h z q)) fun q => List.mem_append_right _ q⟩
theorem GoodS.app : ∀ {ks ks' : List Sk} {kn : List Str}, GoodS kn ks → GoodS [] ks' → GoodS kn (ks ++ ks')
  | [], _, _, _, h => h.mono fun z hz => by cases hz
  | k :: r, ks', kn, ⟨h0, hr⟩, h => ⟨h0, GoodS.app hr h⟩
theorem met_go : ∀ (xs acc : List Str), (xs.foldl (fun acc x => if acc.any (· == x) then acc else acc ++ [x]) acc).length ≤ acc.length + xs.length
  | [], acc => by simp
  | x :: r, acc => by
    rw [List.foldl_cons]
    have h := met_go r (if acc.any (· == x) then acc else acc ++ [x])
    refine Nat.le_trans h ?_
    split <;> simp only [List.length_append, List.length_cons, List.length_nil] <;> omega
theorem met_uni : ∀ (xs acc : List Str), acc.Nodup → (xs.foldl (fun acc x => if acc.any (· == x) then acc else acc ++ [x]) acc).length = acc.length + xs.length → (acc ++ xs).Nodup
  | [], acc, h, _ => by simpa using h
  | x :: r, acc, h, e => by
    rw [List.foldl_cons] at e
    by_cases c : acc.any (· == x) = true
    · rw [if_pos c] at e
      have := met_go r acc
      simp only [List.length_cons] at e
      omega
    · rw [if_neg c] at e
      have hx : x ∉ acc := fun m => c (List.any_eq_true.mpr ⟨x, m, by simp⟩)
      have ih := met_uni r (acc ++ [x]) (List.nodup_append.mpr ⟨h, by simp, fun a ha b hb => by rw [List.mem_singleton.mp hb]; exact fun q => hx (q ▸ ha)⟩) (by rw [e, List.length_append]; simp only [List.length_cons, List.length_nil]; omega)
      rwa [List.append_assoc] at ih
theorem nms_twice {xs : List Str} (h : ¬ xs.Nodup) : nmsB xs = false := by
  have e : decide ((met xs).length = xs.length) = false := decide_eq_false fun q => h (by simpa using met_uni xs [] List.nodup_nil (by simpa [met] using q))
  unfold nmsB
  rw [e, Bool.and_false]
theorem twice {xs : List Str} {x : Str} (i : Nat) (h : x ∈ xs) : ¬ (xs.take i ++ [x] ++ xs.drop i).Nodup := by
  intro q
  have e := List.take_append_drop i xs
  rw [← e] at h
  rw [List.append_assoc] at q
  rcases List.mem_append.mp h with h | h
  · exact (List.nodup_append.mp q).2.2 x h x (by simp) rfl
  · have q2 := (List.nodup_append.mp q).2.1
    exact (List.nodup_cons.mp q2).1 h
theorem due_sh (cs : List Str) : ∀ (rows : List (Str × List Sk)) (ns : List Str) (as : List (Str × Nat)), (∀ z ∈ ns, PyData.strOk z = true) → (∀ q ∈ rows, PyData.strOk q.1 = true ∧ ∀ k ∈ q.2, ∀ x ∈ k.words, PyData.strOk x = true) → Sh 2 (resD (some (dueR cs ns as rows)))
  | [], ns, as, h, _ => by
    refine Sh.tup fun d hd => ?_
    simp only [List.mem_cons, List.not_mem_nil, or_false] at hd
    rcases hd with rfl | rfl
    · exact (Sh.str (by decide +kernel)).mono (by decide)
    · exact Sh.lst (sh_strs h)
  | q :: r, ns, as, h, hr => by
    have two : ∀ {w z : Str}, PyData.strOk w = true → PyData.strOk z = true → Sh 2 (.tuple [.str w, .str z]) := fun {w z} hw hz => (Sh.tup (n := 0) fun d hd => by
      simp only [List.mem_cons, List.not_mem_nil, or_false] at hd
      rcases hd with rfl | rfl
      · exact Sh.str hw
      · exact Sh.str hz).mono (by decide)
    obtain ⟨h1, h2⟩ := hr q List.mem_cons_self
    unfold dueR
    by_cases c : ns.length = 4 ∨ q.1 ∈ ns
    · rw [if_pos c]
      exact two (w := "system") (by decide +kernel) h1
    · rw [if_neg c]
      have st : ∀ (ks : List Sk) (as : List (Str × Nat)) (er : Er), (∀ k ∈ ks, ∀ x ∈ k.words, PyData.strOk x = true) → takeSs cs as ks = .error er → Sh 2 (resD (some (.error er))) := by
        intro ks
        induction ks with
        | nil => intro as er _ e; cases e
        | cons k t ih =>
          intro as er hk e
          have e : (match takeS cs as k with | .error e => Except.error e | .ok as' => takeSs cs as' t) = .error er := e
          cases hs : takeS cs as k with
          | ok as' => rw [hs] at e; exact ih as' er (fun k' h => hk k' (List.mem_cons_of_mem _ h)) e
          | error e2 =>
            rw [hs] at e
            cases e
            unfold takeS at hs
            cases hf : (k.src ++ k.tgt).find? fun c => decide (c ∉ cs) with
            | some c0 =>
              rw [hf] at hs
              cases hs
              have hm := List.mem_of_find?_eq_some hf
              refine two (w := "cell") (by decide +kernel) (hk k List.mem_cons_self c0 ?_)
              cases k <;> simp [Sk.src, Sk.tgt, Sk.words, wrT] at hm ⊢ <;> (try exact .inl hm) <;> (try (rcases hm with h | h <;> simp [h]))
            | none =>
              rw [hf] at hs
              cases hfn : k.fn with
              | none => rw [hfn] at hs; cases hs
              | some q0 =>
                obtain ⟨f0, xs0⟩ := q0
                rw [hfn] at hs
                have hs : takeF as f0 xs0.length = .error er := hs
                have e3 : er = .sys f0 := by
                  unfold takeF at hs
                  cases hv : valA as f0 with
                  | none => rw [hv] at hs; cases hs
                  | some m =>
                    rw [hv] at hs
                    by_cases c3 : m = xs0.length
                    · simp only [if_pos c3] at hs; cases hs
                    · simp only [if_neg c3] at hs; cases hs; rfl
                rw [e3]
                refine two (w := "system") (by decide +kernel) (hk k List.mem_cons_self f0 ?_)
                cases k <;> simp [Sk.fn] at hfn <;> (obtain ⟨rfl, rfl⟩ := hfn; simp [Sk.words, wrT])
      cases hs : takeSs cs as q.2 with
      | error er => exact st q.2 as er h2 hs
      | ok as' => exact due_sh cs r (ns ++ [q.1]) as' (fun z hz => (List.mem_append.mp hz).elim (h z) fun m => by rw [List.mem_singleton.mp m]; exact h1) fun q' h => hr q' (List.mem_cons_of_mem _ h)
end
end U

set_option Elab.async false
set_option linter.all false
set_option maxRecDepth 100000
set_option maxHeartbeats 4000000
set_option pp.deepTerms true
set_option pp.maxSteps 400000
namespace U
open PySem PySem.Spec PyProof.Rows L2 UL UX
local macro_rules | `(tactic| walk_at "rd") => `(tactic| simp only [sMatch, tJs, tFmt, tBC, tMethA, tMakeL, iEnumS, tSeq, tAsg, tOp, tCB, tCons, tNil, tVar, tC, tB, tTest, tNot, tIfS, tNext, tYes, tUn, rU, tM0, tGFrom, tGThen, tG0, tYfLst, gcxK, tSubO, tProp, tListG, tMethG, tBMF, tFld, sFld, tMeth, tMake, tSl, tNoPart, tPart, tM1, gTup, gCons, gNil, tDrop, tFor_eq, tLc_eq, tLc2_eq, iRng1_eq, StX.tStar, iList, iTup, iStr, iAny_var, iZipB, tLenSetS, wipe, tVar, tAndV, tOrV, tNotV, tOr, tAnd, tLst, tTup, tBM, tBM0, tChain, tCall, cxK, noxK, addII, addSS, mulII, eqII, neII, neSS, cIntI, cAbsI, rI, rI0, rLt, rLe, rGt_, rGe_, rSub_, rMod, rPow, rDivW, rNeg, gName, tRet, L2.start, List.length_cons, List.length_nil, List.map_cons, List.map_nil, List.replicate, List.cons_append, List.nil_append, List.getElem?_cons_zero, List.getElem?_cons_succ, List.set_cons_zero, List.set_cons_succ, Option.some.injEq, exists_eq_left', exists_eq_left, V.int.injEq, V.bl.injEq, V.str.injEq, V.ref.injEq, V.ty.injEq, List.cons.injEq, and_true, true_and, reduceCtorEq, false_and, exists_false, or_false, false_or, exists_and_left, exists_and_right, List.append_nil, forall_eq, decide_eq_true_eq, Bool.not_eq_true, Nat.reduceAdd, Nat.reduceSub, List.replicate_zero, List.replicate_succ, Nat.zero_le, ite_true, ite_false, if_true, if_false])
section
variable {P : Program} {w : World} {K : PySem.W.Frag} {mg : Str → Option Value} {base : Heap}

open UV UW NdefX ClX
variable {R Wr B Pg Sy IC UC IS UP WE : Addr}
theorem But.sm {p : Addr} {S : List Addr} {H H' : Hp} (b : But p H H') (h : p ∈ S) : SmS S H H' := fun c o e n => b c o e fun z => n (z ▸ h)
abbrev s_law : Stmt := top 46
abbrev sc_law_N : List Str := ["_law_script", "_law_pool_here", "_law_known", "_law_many", "_law_functions_here", "_law_words", "_law_names_here", "_law_programs", "_law_k", "_law_reach", "_law_name", "_law_steps_here", "_law_j", "_law_own", "_law_cells", "_law_made", "_law_due_here", ".0", "_law_row"]
theorem sc_law : FnScope sc_law_N ["_law_script"] (defScope s_law) := ⟨rfl, rfl, rfl, by decide +kernel, rfl, by decide +kernel, by decide +kernel⟩
-- 0 _law_script, 1 _law_pool_here, 2 _law_known, 3 _law_many, 4 _law_functions_here, 5 _law_words, 6 _law_names_here, 7 _law_programs, 8 _law_k, 9 _law_reach, 10 _law_name, 11 _law_steps_here, 12 _law_j, 13 _law_own, 14 _law_cells, 15 _law_made, 16 _law_due_here, 17 .0, 18 _law_row
def sp_law : PySem.W.Frag → Sp := fun K vs H Q _ => ∃ (a : Addr) (ns : List Int), vs = [.ref a] ∧ SqL K H a (ns.map V.int) ∧ ns.length ≤ 63 ∧ ∀ H', Q (.bl true) H'
theorem ok_law (T : LoX K mg R Wr B Pg Sy IC IS UC UP WE) {f0 : Addr} {fd0 : FuncData} (F0 : Fun K "law" "law" s_law f0 fd0) (d__law_pool : Dn P w K mg base CX0 2 "_law_pool" (sp_pool K)) (d__law_draw : Dn P w K mg base CX0 1 "_law_draw" sp_draw) (d__law_names : Dn P w K mg base CX0 2 "_law_names" sp_names0) (d__law_functions : Dn P w K mg base CX0 3 "_law_functions" sp_funsN)
    (d__law_steps : Dn P w K mg base CX0 3 "_law_steps" (sp_lsteps K)) (d__law_text : Dn P w K mg base CX0 2 "_law_text" sp_ltext) (CM_read : CMn P w K mg base 7 Pg "Program" "read" (sp_pread K R Wr B Pg)) (d__law_due : Dn P w K mg base CX0 1 "_law_due" (sp_ldue K)) (d__law_outcome : Dn P w K mg base CX0 12 "_law_outcome" (sp_lout K R Wr B Pg)) :
    FnOk P w K mg base CX0 30 f0 fd0 ["_law_script"] (sp_law K) := by
  refine F0.ok sc_law (fun vs H Q E h => ?_) (fun cdv A outer s H vs Q E hr h => ?_)
  · obtain ⟨a, ns, rfl, _⟩ := h; rfl
  · obtain ⟨a, ns, rfl, ha, hn, q⟩ := h
    refine ⟨_, (pss_cons (ps_set (i := 1) sc_law.nd rfl (Or.inl rfl) (pe_d d__law_pool hr (by decide) pass0 (by rfl) (pa_cons (pv 0) pa_nil)))
      (pss_cons (ps_set (i := 2) sc_law.nd rfl (Or.inl rfl) (pe_d d__law_names hr (by decide) pass0 (by rfl) (pa_cons (pv 1) (pa_cons pe_int pa_nil))))
      (pss_cons (ps_set (i := 3) sc_law.nd rfl (Or.inl rfl) (pe_ix ix_seq (pe_lst (pa_cons pe_int (pa_cons pe_int (pa_cons pe_int pa_nil)))) (pe_d d__law_draw hr (by decide) pass0 (by rfl) (pa_cons (pv 1) (pa_cons pe_int pa_nil))) (fun _ _ => rfl)))
      (pss_cons (ps_set (i := 4) sc_law.nd rfl (Or.inl rfl) (pe_d d__law_functions hr (by decide) pass0 (by rfl) (pa_cons (pv 1) pa_nil)))
      (pss_cons (ps_set (i := 5) sc_law.nd rfl (Or.inl rfl) (pe_d d__law_names hr (by decide) pass0 (by rfl) (pa_cons (pv 1) (pa_cons pe_int pa_nil))))
      (pss_cons (ps_set (i := 6) sc_law.nd rfl (Or.inl rfl) (pe_d d__law_names hr (by decide) pass0 (by rfl) (pa_cons (pv 1) (pa_cons pe_int pa_nil))))
      (pss_cons (ps_set (i := 7) sc_law.nd rfl (Or.inl rfl) (pe_lst pa_nil))
      (pss_cons (ps_for PassesOwn.never rfl (pi_range1 (by rfl) T.n_range (pa_cons (pe_ix ix_seq (pe_lst (pa_cons pe_int (pa_cons pe_int (pa_cons pe_int (pa_cons pe_int (pa_cons pe_int (pa_cons pe_int (pa_cons pe_int pa_nil)))))))) (pe_d d__law_draw hr (by decide) pass0 (by rfl) (pa_cons (pv 1) (pa_cons pe_int pa_nil))) (fun _ _ => rfl)) pa_nil)) (pg_name (i := 8) sc_law.nd rfl (Or.inl rfl)) (pss_cons (ps_set (i := 9) sc_law.nd rfl (Or.inl rfl) (pe_slice sl_list (pv 2) po_none (po_some (pv 3))))
      (pss_cons (ps_if (pt_cmpR (op_eqA (hr.units)) (pe_d d__law_draw hr (by decide) pass0 (by rfl) (pa_cons (pv 1) (pa_cons pe_int pa_nil))) pe_int (nomark _)) (pss_one (ps_set (i := 9) sc_law.nd rfl (Or.inl rfl) (pe_slice sl_list (pv 2) po_none (po_some (pe_op op_addA (pv 3) pe_int))))) pss_nil)
      (pss_cons (ps_set (i := 10) sc_law.nd rfl (Or.inl rfl) (pe_ix ix_seq (pv 6) (pe_op op_modA (pv 8) pe_int) (fun _ _ => rfl)))
      (pss_cons (ps_if (pt_cmpR (op_eqA (hr.units)) (pe_d d__law_draw hr (by decide) pass0 (by rfl) (pa_cons (pv 1) (pa_cons pe_int pa_nil))) pe_int (nomark _)) (pss_one (ps_set (i := 10) sc_law.nd rfl (Or.inl rfl) (pe_ix ix_seq (pv 6) (pe_d d__law_draw hr (by decide) pass0 (by rfl) (pa_cons (pv 1) (pa_cons pe_int pa_nil))) (fun _ _ => rfl)))) pss_nil)
      (pss_cons (ps_set (i := 11) sc_law.nd rfl (Or.inl rfl) (pe_lst pa_nil))
      (pss_cons (ps_for PassesOwn.never rfl (pi_range1 (by rfl) T.n_range (pa_cons (pe_ix ix_seq (pe_lst (pa_cons pe_int (pa_cons pe_int (pa_cons pe_int pa_nil)))) (pe_d d__law_draw hr (by decide) pass0 (by rfl) (pa_cons (pv 1) (pa_cons pe_int pa_nil))) (fun _ _ => rfl)) pa_nil)) (pg_name (i := 12) sc_law.nd rfl (Or.inl rfl)) (pss_cons (ps_set (i := 13) sc_law.nd rfl (Or.inl rfl) (pe_callTy call_listA (by rfl) T.n_list (by decide +kernel) (pa_cons (pv 4) pa_nil)))
      (pss_cons (ps_if (pt_cmpR (op_eqA (hr.units)) (pe_d d__law_draw hr (by decide) pass0 (by rfl) (pa_cons (pv 1) (pa_cons pe_int pa_nil))) pe_int (nomark _)) (pss_one (ps_set (i := 13) sc_law.nd rfl (Or.inl rfl) (pe_op op_addA (pe_slice sl_list (pv 4) (po_some pe_int) po_none) (pe_slice sl_list (pv 4) po_none (po_some pe_int))))) pss_nil)
      (pss_one (ps_set (i := 11) sc_law.nd rfl (Or.inl rfl) (pe_op op_addA (pv 11) (pe_d d__law_steps hr (by decide) pass0 (by rfl) (pa_cons (pv 1) (pa_cons (pv 9) (pa_cons (pv 5) (pa_cons (pv 13) (pa_cons pe_int pa_nil))))))))))))
      (pss_one (ps_expr (pe_bm PySem.F.plainAttrs_list PySem.F.slot_list_append PySem.F.type_list_append mt_append (pv 7) (pa_cons (pe_tup (pa_cons (pv 10) (pa_cons (pv 11) pa_nil))) pa_nil)))))))))))
      (pss_cons (ps_set (i := 14) sc_law.nd rfl (Or.inl rfl) (pe_slice sl_list (pv 2) po_none (po_some (pv 3))))
      (pss_cons (ps_setLc (i := 15) (own := [(".0", 17), ("_law_row", 18)]) (g := (gName 18)) (tt := tYes) rfl sc_law.nd rfl rfl (sw_true rfl rfl rfl (by decide +kernel)) (pi_list (pv 7)) (blkOk_by (N := sc_law_N) (sc := defScope s_law) (by decide +kernel)) (fun _ _ _ _ _ => pg_name (i := 18) sc_law.nd rfl (Or.inl rfl)) (fun _ _ _ _ _ => pts_nil) (fun _ _ _ _ _ => (pe_cm CM_read hr (by decide) (by rfl) (pa_cons (pe_d d__law_text hr (by decide) pass0 (by rfl) (pa_cons (pe_ix (ix_seqK K rfl) (pv 18) pe_int (fun _ _ => rfl)) (pa_cons (pe_ix (ix_seqK K rfl) (pv 18) pe_int (fun _ _ => rfl)) pa_nil))) pa_nil))))
      (pss_cons (ps_set (i := 16) sc_law.nd rfl (Or.inl rfl) (pe_d d__law_due hr (by decide) pass0 (by rfl) (pa_cons (pv 14) (pa_cons (pv 7) pa_nil))))
      (pss_cons (ps_if (pt_cmpR (op_eqA (hr.units)) (pe_d d__law_draw hr (by decide) pass0 (by rfl) (pa_cons (pv 1) (pa_cons pe_int pa_nil))) pe_int (nomark _)) (pss_cons (ps_expr (pe_bm PySem.F.plainAttrs_list PySem.F.slot_list_insert PySem.F.type_list_insert mt_insertM (pv 14) (pa_cons (pe_d d__law_draw hr (by decide) pass0 (by rfl) (pa_cons (pv 1) (pa_cons (pe_op op_addA (pv 3) pe_int) pa_nil))) (pa_cons (pe_ix ix_seq (pv 14) (pe_d d__law_draw hr (by decide) pass0 (by rfl) (pa_cons (pv 1) (pa_cons (pv 3) pa_nil))) (fun _ _ => rfl)) pa_nil))))
      (pss_one (ps_set (i := 16) sc_law.nd rfl (Or.inl rfl) (pe_tup (pa_cons pe_str (pa_cons pe_str pa_nil)))))) pss_nil)
      (pss_cons (ps_if (pt_cmpR (op_neA (hr.units)) (pe_d d__law_outcome hr (by decide) pass0 (by rfl) (pa_cons (pe_callTy call_listA (by rfl) T.n_list (by decide +kernel) (pa_cons (pv 14) pa_nil)) (pa_cons (pe_callTy call_listA (by rfl) T.n_list (by decide +kernel) (pa_cons (pv 15) pa_nil)) pa_nil))) (pv 16) (nomark _)) (pss_one (ps_ret pe_bl)) pss_nil)
      (pss_one (ps_ret (pe_cmpR (op_eqA (hr.units)) (pe_d d__law_outcome hr (by decide) pass0 (by rfl) (pa_cons (pe_callTy call_tupA (by rfl) T.n_tuple (by decide +kernel) (pa_cons (pv 14) pa_nil)) (pa_cons (pe_callTy call_tupA (by rfl) T.n_tuple (by decide +kernel) (pa_cons (pv 15) pa_nil)) pa_nil))) (pv 16) (nomark _))))))))))))))))), ?_⟩
    walk_at "rd"
    refine ⟨a, ns, rfl, ha, hn, fun p H1 hp0 hp1 s1 => ⟨p, 5, rfl, hp1, by omega, fun kn H2 ks ksl ksn ksd hkn0 hkn hp2 b2 => ?_⟩⟩
    refine pickL (ls := [2, 3, 1]) hp2 (by decide) (by decide) rfl fun m H3 hm hp3 b3 => ?_
    have m13 : 1 ≤ m ∧ m ≤ 3 := by
      simp only [List.mem_cons, List.not_mem_nil, or_false] at hm
      omega
    refine ⟨p, rfl, hp3, fun fa H4 fs f2 f5 ifn fnd hfa0 hfa hp4 b4 => ⟨p, 2, rfl, hp4, by omega, fun wl H5 ws wsl wsn wsd hwl0 hwl hp5 b5 => ⟨p, 5, rfl, hp5, by omega, fun nl H6 xs xsl xsn xsd hnl0 hnl hp6 b6 => fun l hl => ?_⟩⟩⟩
    have npk : p ≠ kn := hp1.ne hkn0
    have npf : p ≠ fa := hp3.ne hfa0
    have npw : p ≠ wl := hp4.ne hwl0
    have npn : p ≠ nl := hp5.ne hnl0
    have npl : p ≠ l := hp6.ne hl
    have k6 := b6 _ _ (b5 _ _ (b4 _ _ (b3 _ _ hkn (Ne.symm npk)) (Ne.symm npk)) (Ne.symm npk)) (Ne.symm npk)
    have f6 := b6 _ _ (b5 _ _ hfa (Ne.symm npf)) (Ne.symm npf)
    have w6 := b6 _ _ hwl (Ne.symm npw)
    have s7 : Same H6 (upd H6 l (.lst [])) := UL.Same.new hl
    have k7 := s7 _ _ k6
    have f7 := s7 _ _ f6
    have w7 := s7 _ _ w6
    have n7 := s7 _ _ hnl
    have kl : kn ≠ l := ne_of_none k6 hl
    have fl : fa ≠ l := ne_of_none f6 hl
    have wl' : wl ≠ l := ne_of_none w6 hl
    have nl' : nl ≠ l := ne_of_none hnl hl
    have hl7 : upd H6 l (.lst []) l = some (.lst []) := upd_same
    have hp7 : Pl (upd H6 l (.lst [])) p := hp6.put npl
    generalize upd H6 l (.lst []) = H7 at k7 f7 w7 n7 hl7 hp7 ⊢
    refine pickL (ls := [2, 3, 4, 5, 6, 1, 0]) hp7 (by decide) (by decide) rfl fun c0 H8 hc0 hp8 b8 => ?_
    have c06 : c0 ≤ 6 := by
      simp only [List.mem_cons, List.not_mem_nil, or_false] at hc0
      omega
    have off : ∀ c, c ≠ p → c ≠ l → c ∉ [p, l] := fun c h1 h2 => by simp [h1, h2]
    refine ⟨_, rfl, by omega, by omega, FJ.rangeI (fun i σ' H' => ∃ (qs : List Rw) (z8 z9 z10 z11 z12 z13 : Option V), σ' = [some (.ref a), some (.ref p), some (.ref kn), some (.int (m : Nat)), some (.ref fa), some (.ref wl), some (.ref nl), some (.ref l), z8, z9, z10, z11, z12, z13, none, none, none, none, none] ∧ H' l = some (.lst (qs.map fun q => V.ref q.r)) ∧ (∀ q ∈ qs, RwH H' q ∧ RwG0 q ∧ q.sl ∉ [p, l]) ∧ qs.length = i ∧ Pl H' p ∧ SmS [p, l] H7 H') (by omega) ⟨[], _, _, _, _, _, _, rfl, b8 _ _ hl7 (Ne.symm npl), (fun q hq => absurd hq (by simp)), rfl, hp8, But.sm b8 (by simp)⟩ (fun i σ' H' hi inv => ?_) fun σ' H' inv => ?_⟩
    · obtain ⟨qs, z8, z9, z10, z11, z12, z13, rfl, h1, h2, h3, h4, h5⟩ := inv
      obtain ⟨Bd, eBd⟩ : ∃ Bd : Hp → Prop, Bd = fun H2 => H2 l = some (.lst (qs.map fun q => V.ref q.r)) ∧ (∀ q ∈ qs, RwH H2 q ∧ RwG0 q ∧ q.sl ∉ [p, l]) ∧ Pl H2 p ∧ SmS [p, l] H7 H2 := ⟨_, rfl⟩
      have bd0 : Bd H' := by rw [eBd]; exact ⟨h1, h2, h4, h5⟩
      have bdp : ∀ {H2 : Hp}, Bd H2 → Pl H2 p := fun b => by rw [eBd] at b; exact b.2.2.1
      have bds : ∀ {H2 : Hp}, Bd H2 → SmS [p, l] H7 H2 := fun b => by rw [eBd] at b; exact b.2.2.2
      have bdb : ∀ {H2 H3 : Hp}, Bd H2 → Pl H3 p → But p H2 H3 → Bd H3 := fun b hp b23 => by
        rw [eBd] at b ⊢
        obtain ⟨g1, g2, g3, g4⟩ := b
        exact ⟨b23 _ _ g1 (Ne.symm npl), fun q0 hq0 => ⟨(g2 q0 hq0).1.but g3 (fun e => (g2 q0 hq0).2.2 (by simp [e])) b23, (g2 q0 hq0).2⟩, hp, SmS.tr g4 (But.sm b23 (by simp))⟩
      have bdn : ∀ {H2 H3 : Hp}, Bd H2 → Same H2 H3 → Bd H3 := fun b s23 => by
        rw [eBd] at b ⊢
        obtain ⟨g1, g2, g3, g4⟩ := b
        exact ⟨s23 _ _ g1, fun q0 hq0 => ⟨(g2 q0 hq0).1.same s23, (g2 q0 hq0).2⟩, g3.same s23, SmS.tr g4 (SmS.same s23)⟩
      have new : ∀ {H2 : Hp} {r : Addr}, Bd H2 → H2 r = none → r ≠ p ∧ r ≠ l := fun {H2 r} b hr => by
        rw [eBd] at b
        exact ⟨Ne.symm (b.2.2.1.ne hr), fun e => by rw [e, b.1] at hr; cases hr⟩
      refine seq_cut2 (fun σ2 H2 => ∃ (rc : Addr) (n' : Nat), σ2 = [some (.ref a), some (.ref p), some (.ref kn), some (.int (m : Nat)), some (.ref fa), some (.ref wl), some (.ref nl), some (.ref l), some (.int (i : Nat)), some (.ref rc), z10, z11, z12, z13, none, none, none, none, none] ∧ 1 ≤ n' ∧ n' ≤ 5 ∧ H2 rc = some (.lst ((ks.take n').map V.str)) ∧ rc ≠ p ∧ rc ≠ l ∧ Bd H2) (fun tl htl => ?_) fun σ2 H2 hm => ?_
      · walk_at "rd"
        refine ⟨kn, _, rfl, .inl (.inl (bds bd0 _ _ k7 (off _ (Ne.symm npk) kl))), fun rc hrc => ?_⟩
        rw [cut_to, ← List.map_take]
        obtain ⟨rp, rl⟩ := new bd0 hrc
        have bd1 := bdn bd0 (UL.Same.new (o := .lst ((ks.take m).map V.str)) hrc)
        have hrc1 : upd H' rc (.lst ((ks.take m).map V.str)) rc = some _ := upd_same
        generalize upd H' rc (.lst ((ks.take m).map V.str)) = H2 at bd1 hrc1 ⊢
        refine drawI (by decide) (bdp bd1) fun r H3 r0 r3 hp3' b3' => eqII.mpr ⟨_, rfl, ?_⟩
        have bd2 := bdb bd1 hp3' b3'
        have hrc2 := b3' _ _ hrc1 rp
        by_cases c3 : r = 3
        · rw [if_pos (by simp [c3])]
          refine ⟨kn, _, rfl, .inl (.inl (bds bd2 _ _ k7 (off _ (Ne.symm npk) kl))), fun rc2 hr2 => ?_⟩
          have em : ((m : Int) + 2) = ((m + 2 : Nat) : Int) := rfl
          rw [em, cut_to, ← List.map_take]
          obtain ⟨rp2, rl2⟩ := new bd2 hr2
          exact htl _ _ ⟨rc2, m + 2, rfl, by omega, by omega, upd_same, rp2, rl2, bdn bd2 (UL.Same.new hr2)⟩
        · rw [if_neg (by simp [c3])]
          exact htl _ _ ⟨rc, m, rfl, m13.1, by omega, hrc2, rp, rl, bd2⟩
      obtain ⟨rc, n', rfl, n1, n5, hrc, rp, rl, bd2⟩ := hm
      refine seq_cut2 (fun σ2 H2 => ∃ (nm : Str), σ2 = [some (.ref a), some (.ref p), some (.ref kn), some (.int (m : Nat)), some (.ref fa), some (.ref wl), some (.ref nl), some (.ref l), some (.int (i : Nat)), some (.ref rc), some (.str nm), z11, z12, z13, none, none, none, none, none] ∧ isNm nm ∧ H2 rc = some (.lst ((ks.take n').map V.str)) ∧ Bd H2) (fun tl htl => ?_) fun σ3 H3 hm => ?_
      · walk_at "rd"
        have e5 : ((i : Int) % 5) = ((i % 5 : Nat) : Int) := by omega
        have i5 : i % 5 < xs.length := by omega
        rw [e5]
        refine ⟨by decide, ixL (.inl (.inl (bds bd2 _ _ n7 (off _ (Ne.symm npn) nl')))) (atN (v := .str xs[i % 5]) (by rw [List.getElem?_map, List.getElem?_eq_getElem i5]; rfl)) (drawI (by decide) (bdp bd2) fun r H4 r0 r3 hp4' b4' => eqII.mpr ⟨_, rfl, ?_⟩)⟩
        have bd3 := bdb bd2 hp4' b4'
        have hrc3 := b4' _ _ hrc rp
        by_cases c3 : r = 5
        · rw [if_pos (by simp [c3])]
          refine drawI (by decide) (bdp bd3) fun r' H5 r0' r5' hp5' b5' => ?_
          have bd4 := bdb bd3 hp5' b5'
          obtain ⟨n, rfl⟩ := Int.eq_ofNat_of_zero_le r0'
          have i6 : n < xs.length := by omega
          exact ixL (.inl (.inl (bds bd4 _ _ n7 (off _ (Ne.symm npn) nl')))) (atN (v := .str xs[n]) (by rw [List.getElem?_map, List.getElem?_eq_getElem i6]; rfl)) (htl _ _ ⟨_, rfl, xsn _ (List.getElem_mem i6), b5' _ _ hrc3 rp, bd4⟩)
        · rw [if_neg (by simp [c3])]
          exact htl _ _ ⟨_, rfl, xsn _ (List.getElem_mem i5), hrc3, bd3⟩
      obtain ⟨nm, rfl, hnm, hrc3, bd3⟩ := hm
      have ctl : (ks.take n').length = n' := by rw [List.length_take]; omega
      have ctn : ∀ z ∈ ks.take n', isNm z := fun z hz => ksn z (List.mem_of_mem_take hz)
      refine seq_cut2 (fun σ2 H2 => ∃ (sl : Addr) (rs : List Addr) (sk : List Sk) (z12 z13 : Option V), σ2 = [some (.ref a), some (.ref p), some (.ref kn), some (.int (m : Nat)), some (.ref fa), some (.ref wl), some (.ref nl), some (.ref l), some (.int (i : Nat)), some (.ref rc), some (.str nm), some (.ref sl), z12, z13, none, none, none, none, none] ∧ H2 sl = some (.lst (rs.map V.ref)) ∧ sl ≠ p ∧ sl ≠ l ∧ Paired (fun t k => RowA H2 t k) rs sk ∧ GoodS [] sk ∧ sk.length ≤ 2 ∧ Bd H2) (fun tl htl => ?_) fun σ4 H4 hm => ?_
      · walk_at "rd"
        intro s0 hs0
        obtain ⟨s0p, s0l⟩ := new bd3 hs0
        have ss0 : Same H3 (upd H3 s0 (.lst [])) := UL.Same.new hs0
        have bd4 := bdn bd3 ss0
        have rcs : rc ≠ s0 := ne_of_none hrc3 hs0
        have hrc4 := ss0 _ _ hrc3
        have hs4 : upd H3 s0 (.lst []) s0 = some _ := upd_same
        generalize upd H3 s0 (.lst []) = H4 at bd4 hrc4 hs4 ⊢
        refine pickL (ls := [1, 0, 2]) (bdp bd4) (by decide) (by decide) rfl fun c1 H5 hc1 hp5' b5' => ?_
        have c12 : c1 ≤ 2 := by
          simp only [List.mem_cons, List.not_mem_nil, or_false] at hc1
          omega
        have bd5 := bdb bd4 hp5' b5'
        refine ⟨_, rfl, by omega, by omega, FJ.rangeI (fun j σ' H' => ∃ (sl : Addr) (rs : List Addr) (sk : List Sk) (z12 z13 : Option V), σ' = [some (.ref a), some (.ref p), some (.ref kn), some (.int (m : Nat)), some (.ref fa), some (.ref wl), some (.ref nl), some (.ref l), some (.int (i : Nat)), some (.ref rc), some (.str nm), some (.ref sl), z12, z13, none, none, none, none, none] ∧ H' sl = some (.lst (rs.map V.ref)) ∧ sl ≠ p ∧ sl ≠ l ∧ Paired (fun t k => RowA H' t k) rs sk ∧ GoodS [] sk ∧ sk.length = j ∧ H' rc = some (.lst ((ks.take n').map V.str)) ∧ Bd H') (by omega) ⟨s0, [], [], _, _, rfl, b5' _ _ hs4 s0p, s0p, s0l, .nil, trivial, rfl, b5' _ _ hrc4 rp, bd5⟩ (fun j σ' H' hj inv => ?_) fun σ' H' inv => ?_⟩
        · obtain ⟨sl, rs, sk, z12, z13, rfl, g1, g2, g3, g4, g5, g6, g7, g8⟩ := inv
          refine seq_cut2 (fun σ2 H2 => ∃ (ow : Addr) (os : List Str) (z12 : Option V), σ2 = [some (.ref a), some (.ref p), some (.ref kn), some (.int (m : Nat)), some (.ref fa), some (.ref wl), some (.ref nl), some (.ref l), some (.int (i : Nat)), some (.ref rc), some (.str nm), some (.ref sl), z12, some (.ref ow), none, none, none, none, none] ∧ H2 ow = some (.lst (os.map V.str)) ∧ ow ≠ p ∧ 2 ≤ os.length ∧ os.length ≤ 5 ∧ (∀ z ∈ os, isNm z) ∧ H2 sl = some (.lst (rs.map V.ref)) ∧ Paired (fun t k => RowA H2 t k) rs sk ∧ H2 rc = some (.lst ((ks.take n').map V.str)) ∧ Bd H2) (fun tl htl => ?_) fun σ2 H2 hm => ?_
          · walk_at "rd"
            refine ⟨fa, _, rfl, .inl (.inl (.inl (bds g8 _ _ f7 (off _ (Ne.symm npf) fl)))), fun ow how => ?_⟩
            obtain ⟨owp, owl⟩ := new g8 how
            have so : Same H' (upd H' ow (.lst (fs.map V.str))) := UL.Same.new how
            have hb0 := bdn g8 so
            have hsl0 := so _ _ g1
            have hrc0 := so _ _ g7
            have hrs0 : Paired (fun t k => RowA (upd H' ow (.lst (fs.map V.str))) t k) rs sk := L2.Paired.mapP g4 fun _ _ g => RowA.same so g
            have how0 : upd H' ow (.lst (fs.map V.str)) ow = some _ := upd_same
            generalize upd H' ow (.lst (fs.map V.str)) = H6 at hb0 hsl0 hrc0 hrs0 how0 ⊢
            refine drawI (by decide) (bdp hb0) fun r H7' r0 r4 hp7' b7' => eqII.mpr ⟨_, rfl, ?_⟩
            have hb1 := bdb hb0 hp7' b7'
            have hrs1 : Paired (fun t k => RowA H7' t k) rs sk := L2.Paired.mapP hrs0 fun _ _ g => RowA.but (bdp hb0) b7' g
            by_cases c3 : r = 3
            · rw [if_pos (by simp [c3])]
              have hf := bds hb1 _ _ f7 (off _ (Ne.symm npf) fl)
              refine ⟨fa, _, rfl, .inl (.inl hf), fun x1 hx1 => ?_⟩
              have s1' : Same H7' (upd H7' x1 (.lst (cutV (fs.map V.str) (some 1) none))) := UL.Same.new hx1
              refine ⟨fa, _, rfl, .inl (.inl (s1' _ _ hf)), fun x2 hx2 => ?_⟩
              have s2' := Same.tr s1' (UL.Same.new (o := .lst (cutV (fs.map V.str) none (some 1))) hx2)
              have e1 : cutV (fs.map V.str) (some 1) none = (fs.drop 1).map V.str := by rw [show (1 : Int) = ((1 : Nat) : Int) from rfl, cut_from, List.map_drop]
              have e2 : cutV (fs.map V.str) none (some 1) = (fs.take 1).map V.str := by rw [show (1 : Int) = ((1 : Nat) : Int) from rfl, cut_to, List.map_take]
              rw [e1, e2] at s2' ⊢
              rw [e1] at hx2
              refine catL (xs := (fs.drop 1).map V.str) (ys := (fs.take 1).map V.str) ?_ upd_same (by simp only [List.length_map, List.length_drop, List.length_take, sizeLine_eq]; omega) fun x3 hx3 => ?_
              · rw [upd_ne (ne_of_none upd_same hx2)]; exact upd_same
              · have s3' := Same.tr s2' (UL.Same.new (o := .lst ((fs.drop 1).map V.str ++ (fs.take 1).map V.str)) hx3)
                have hx3' : H7' x3 = none := Same.free s2' hx3
                rw [← List.map_append] at s3' ⊢
                refine htl _ _ ⟨x3, _, _, rfl, upd_same, (new hb1 hx3').1, ?_, ?_, ?_, s3' _ _ (b7' _ _ hsl0 g2), L2.Paired.mapP hrs1 fun _ _ g => RowA.same s3' g, s3' _ _ (b7' _ _ hrc0 rp), bdn hb1 s3'⟩
                · simp only [List.length_append, List.length_drop, List.length_take]; omega
                · simp only [List.length_append, List.length_drop, List.length_take]; omega
                · intro z hz
                  exact (List.mem_append.mp hz).elim (fun h => ifn z (List.mem_of_mem_drop h)) fun h => ifn z (List.mem_of_mem_take h)
            · rw [if_neg (by simp [c3])]
              exact htl _ _ ⟨ow, fs, _, rfl, b7' _ _ how0 owp, owp, f2, f5, ifn, b7' _ _ hsl0 g2, hrs1, b7' _ _ hrc0 rp, hb1⟩
          obtain ⟨ow, os, z12', rfl, how, owp, o2, o5, osn, hsl0, hrs0, hrc0, hb0⟩ := hm
          walk_at "rd"
          refine ⟨p, rc, wl, ow, 1, ks.take n', ws, os, rfl, by decide, bdp hb0, hrc0, bds hb0 _ _ w7 (off _ (Ne.symm npw) wl'), how, Ne.symm rp, npw, Ne.symm owp, by omega, by omega, by omega, by omega, o2, o5, ctn, wsn, osn, fun r2 k2 rs2 H6 hr0 hr2 hrs2 hg2 _ hk2 hp6' b6' => ?_⟩
          have hb1 := bdb hb0 hp6' b6'
          have hsl1 := b6' _ _ hsl0 g2
          have hrs1 : Paired (fun t k => RowA H6 t k) rs sk := L2.Paired.mapP hrs0 fun _ _ g => RowA.but (bdp hb0) b6' g
          have lr1 : rs.length = sk.length := paired_len hrs1
          have lr2 : rs2.length = k2.length := paired_len hrs2
          refine catL (xs := rs.map V.ref) (ys := rs2.map V.ref) hsl1 hr2 (by simp only [List.length_map, sizeLine_eq]; omega) fun r3 hr3 => ?_
          have s3' : Same H6 (upd H6 r3 (.lst (rs.map V.ref ++ rs2.map V.ref))) := UL.Same.new hr3
          have pr : ∀ {l1 l2 : List Addr} {m1 m2 : List Sk} {F : Addr → Sk → Prop}, Paired F l1 m1 → Paired F l2 m2 → Paired F (l1 ++ l2) (m1 ++ m2) := fun {l1 l2 m1 m2 F} h1 h2 => by
            induction h1 with
            | nil => exact h2
            | cons h t ih => exact .cons h ih
          obtain ⟨r3p, r3l⟩ := new hb1 hr3
          rw [← List.map_append] at s3' ⊢
          exact ⟨r3, ⟨rfl, _, rfl⟩, _, upd_same, r3p, r3l, _, pr (L2.Paired.mapP hrs1 fun _ _ g => RowA.same s3' g) (L2.Paired.mapP hrs2 fun _ _ g => RowA.same s3' g), g5.app hg2, by rw [List.length_append]; omega, s3' _ _ (b6' _ _ hrc0 rp), bdn hb1 s3'⟩
        · obtain ⟨sl, rs, sk, z12, z13, rfl, g1, g2, g3, g4, g5, g6, g7, g8⟩ := inv
          exact htl _ _ ⟨sl, rs, sk, _, _, rfl, g1, g2, g3, g4, g5, by omega, g8⟩
      obtain ⟨sl, rs, sk, z12, z13, rfl, hsl, slp, sll, hrs, hg, hsk, bd4⟩ := hm
      walk_at "rd"
      rw [eBd] at bd4
      obtain ⟨g1, g2, g3, g4⟩ := bd4
      refine ⟨.inl ⟨rfl, _, .inl (.inl g1)⟩, by rw [sizeLine_eq]; decide, fun t ht => ?_⟩
      have s67 : Same H4 (upd H4 t (.tup [.str nm, .ref sl])) := UL.Same.new ht
      have gl7 := s67 _ _ g1
      refine ⟨l, _, _, rfl, rfl, gl7, by rw [List.length_map, sizeLine_eq]; omega, ⟨_, rfl⟩, qs ++ [⟨t, sl, nm, rs, sk⟩], by rw [upd_same, List.map_append]; rfl, fun q1 hq1 => ?_, by rw [List.length_append, h3]; rfl, (g3.same s67).put npl, SmS.tr (SmS.tr g4 (SmS.same s67)) (SmS.at_ (by simp))⟩
      rcases List.mem_append.mp hq1 with h | h
      · exact ⟨((g2 q1 h).1.same s67).put gl7 (fun e => (g2 q1 h).2.2 (by simp [e])), (g2 q1 h).2⟩
      · rw [List.mem_singleton.mp h]
        have g1' : RwH (upd H4 t (.tup [.str nm, .ref sl])) ⟨t, sl, nm, rs, sk⟩ := ⟨upd_same, s67 _ _ hsl, L2.Paired.mapP hrs fun _ _ g => RowA.same s67 g⟩
        exact ⟨g1'.put gl7 sll, ⟨hnm, hg, by show sk.length ≤ 4; omega⟩, by simp [slp, sll]⟩
    · obtain ⟨qs, z8, z9, z10, z11, z12, z13, rfl, h1, h2, h3, h4, h5⟩ := inv
      walk_at "rd"
      have qs6 : qs.length ≤ 6 := by omega
      refine ⟨kn, _, rfl, .inl (.inl (h5 _ _ k7 (off _ (Ne.symm npk) kl))), fun ca hca => ?_⟩
      rw [cut_to, ← List.map_take]
      have cap : ca ≠ p := Ne.symm (h4.ne hca)
      have cal : ca ≠ l := fun e => by rw [e, h1] at hca; cases hca
      have s8 : Same H' (upd H' ca (.lst ((ks.take m).map V.str))) := UL.Same.new hca
      have hca8 : upd H' ca (.lst ((ks.take m).map V.str)) ca = some _ := upd_same
      have h18 := s8 _ _ h1
      have h28 : ∀ q0 ∈ qs, RwH (upd H' ca (.lst ((ks.take m).map V.str))) q0 ∧ RwG0 q0 ∧ q0.sl ∉ [p, l] := fun q0 h => ⟨(h2 q0 h).1.same s8, (h2 q0 h).2⟩
      have h48 := h4.same s8
      generalize upd H' ca (.lst ((ks.take m).map V.str)) = H9 at hca8 h18 h28 h48 ⊢
      have atq : ∀ {i : Nat} {y : V}, (qs.map fun q => V.ref q.r)[i]? = some y → ∃ q0, qs[i]? = some q0 ∧ y = V.ref q0.r ∧ q0 ∈ qs ∧ i < qs.length := fun {i y} h => by
        rw [List.getElem?_map] at h
        cases e : qs[i]? with
        | none => rw [e] at h; cases h
        | some q0 => rw [e] at h; exact ⟨q0, rfl, (Option.some.inj h).symm, List.mem_of_getElem? e, (List.getElem?_eq_some_iff.mp e).1⟩
      refine ⟨⟨_, .inl (.inl h18)⟩, fun D1 hD1 => LJ.it (walk_list (xs := qs.map fun q => V.ref q.r)) (fun i H' => ∃ ms : List (Addr × Rw), ms.map (·.2) = qs.take i ∧ H' D1 = some (.lst (ms.map fun m => V.ref m.1)) ∧ (∀ m ∈ ms, PgA H' R Wr B Pg m.1 m.2.n m.2.ks) ∧ Same H9 H') ⟨[], rfl, upd_same, (fun m h => absurd h (by simp)), UL.Same.new hD1⟩ (fun i H' _ inv => ?_) (fun i y H' H'' hi inv yy => ?_) fun H10 inv => ?_⟩
      · obtain ⟨ms, m1, m2, m3, s5⟩ := inv
        exact .inl (.inl (s5 _ _ h18))
      · obtain ⟨rfl, hx⟩ := yy
        obtain ⟨ms, m1, m2, m3, s5⟩ := inv
        obtain ⟨q0, hq0, rfl, qm, il⟩ := atq hx
        refine ⟨rfl, ?_⟩
        walk_at "rd"
        have g1 := (h28 q0 qm).1.same s5
        refine ixT (.inl (.inl g1.1)) (atN (n := 0) rfl) (ixT (.inl (.inl g1.1)) (atN (n := 1) rfl) (row_text0 (h28 q0 qm).2.1 g1 fun H3 s3 => row_read0 (h28 q0 qm).2.1 fun x H4 hpg s4 => ⟨_, s4 _ _ (s3 _ _ m2), ?_, ms ++ [(x, q0)], ?_, ?_, fun m' hm' => ?_, ?_⟩))
        · have := congrArg List.length m1
          rw [List.length_map, List.length_take] at this
          rw [List.length_map, sizeLine_eq]; omega
        · rw [List.map_append, m1, List.take_add_one, hq0]; rfl
        · rw [upd_same, List.map_append]; rfl
        · have sall : Same H'' (upd H4 D1 (.lst (ms.map (fun m => V.ref m.1) ++ [V.ref x]))) → True := fun _ => trivial
          have keep : ∀ {n0 : Str} {k0 : List Sk} {z : Addr}, PgA H4 R Wr B Pg z n0 k0 → PgA (upd H4 D1 (.lst (ms.map (fun m => V.ref m.1) ++ [V.ref x]))) R Wr B Pg z n0 k0 := fun h => h.keep3 fun c o e nl0 => by
            rw [upd_ne fun e2 => nl0 (ms.map fun m => V.ref m.1) ?_]
            · exact e
            · rw [e2, s4 _ _ (s3 _ _ m2)] at e
              exact (Option.some.inj e).symm
          rcases List.mem_append.mp hm' with h | h
          · exact keep (((m3 m' h).same s3).same s4)
          · rw [List.mem_singleton.mp h]; exact keep hpg
        · exact UL.Same.put (Same.tr s5 (Same.tr s3 s4)) hD1
      obtain ⟨ms, m1, m2, m3, s910⟩ := inv
      rw [List.length_map, List.take_length] at m1
      have hrows : ms.map (fun m => (m.2.n, m.2.ks)) = qs.map fun q => (q.n, q.ks) := by rw [← m1, List.map_map]; rfl
      have hca10 := s910 _ _ hca8
      have h110 := s910 _ _ h18
      have ctl : (ks.take m).length = m := by rw [List.length_take]; omega
      have ctn : ∀ z ∈ ks.take m, isNm z := fun z hz => ksn z (List.mem_of_mem_take hz)
      have msl : ms.length = qs.length := by rw [← m1, List.length_map]
      have okr : ∀ q0 ∈ qs.map (fun q => (q.n, q.ks)), PyData.strOk q0.1 = true ∧ ∀ k ∈ q0.2, ∀ x ∈ k.words, PyData.strOk x = true := fun q0 h => by
        obtain ⟨q1, hq1, rfl⟩ := List.mem_map.mp h
        have g := (h28 q1 hq1).2.1
        exact ⟨nm_ok g.1, fun k hk x hx => nm_ok ((GoodS.each g.2.1 (fun z hz => by cases hz) k hk).1 x hx)⟩
      refine ⟨ca, l, ks.take m, qs, rfl, hca10, h110, fun q0 h => ⟨(h28 q0 h).1.same s910, (h28 q0 h).2.1.2.2, nm_ok (h28 q0 h).2.1.1⟩, by omega, by omega, fun r0 H11 hdue s11 => ?_⟩
      have tw : nmsB (ks.take m) = true := nms_right (by omega) (by omega) ctn (List.Nodup.sublist (List.take_sublist _ _) ksd)
      -- the two outcomes are as due
      have fin : ∀ (cs2 : List Str) (r : Addr) (H' : Hp) (o : Option (Except Er (List Str))), H' ca = some (.lst (cs2.map V.str)) → H' D1 = some (.lst (ms.map fun m => V.ref m.1)) → (∀ m ∈ ms, PgA H' R Wr B Pg m.1 m.2.n m.2.ks) → cs2.length ≤ 4 → (∀ z ∈ cs2, isNm z) → Dp K H' (.ref r) (resD o) → Sh 2 (resD o) → o = (if nmsB cs2 = true then some (dueR cs2 [] [] (qs.map fun q => (q.n, q.ks))) else none) →
          cList K [V.ref ca] H' fun x_3 H1 => cList K [V.ref D1] H1 fun x_4 H1 => sp_lout K R Wr B Pg [x_3, x_4] H1 (fun x_5 H1 => rNeA K x_5 (V.ref r) H1 fun x_6 H' => ∃ k, x_6 = V.bl k ∧ if k = true then Q (V.bl false) H' else cTup K [V.ref ca] H' fun x_7 H1 => cTup K [V.ref D1] H1 fun x_8 H1 => sp_lout K R Wr B Pg [x_7, x_8] H1 (fun x_9 H1 => rEqA K x_9 (V.ref r) H1 Q) E0) E0 := fun cs2 r H' o e1 e2 e3 e4 e5 e6 e7 e8 => by
        have mq : (ms.map fun m => V.ref m.1) = (ms.map fun m => ((m.1, m.2.n, m.2.ks) : Addr × Str × List Sk)).map fun q => V.ref q.1 := by rw [List.map_map]; rfl
        have mr : (ms.map fun m => ((m.1, m.2.n, m.2.ks) : Addr × Str × List Sk)).map (·.2) = qs.map fun q => (q.n, q.ks) := by rw [← hrows, List.map_map]; rfl
        have call : ∀ {a1 a2 : Addr} {H2 : Hp} {R0 : VK} {E0' : XK}, SqW H2 a1 (cs2.map V.str) → SqW H2 a2 (ms.map fun m => V.ref m.1) → Same H' H2 → (∀ r2 H3, Dp K H3 (.ref r2) (resD o) → Same H2 H3 → R0 (.ref r2) H3) → sp_lout K R Wr B Pg [.ref a1, .ref a2] H2 R0 E0' := fun {a1 a2 H2 R0 E0'} i1 i2 i3 i4 =>
          ⟨a1, a2, cs2, ms.map fun m => (m.1, m.2.n, m.2.ks), rfl, i1, by rw [← mq]; exact i2, by omega, fun z hz => Nat.le_trans (nm_len (e5 z hz)) (by decide), by rw [List.length_map]; omega, fun q0 h => by
            obtain ⟨m', hm', rfl⟩ := List.mem_map.mp h
            have g : RwG0 m'.2 := (h28 m'.2 (by rw [← m1]; exact List.mem_map_of_mem hm')).2.1
            exact ⟨(e3 m' hm').same i3, fun k hk => (g.each k hk).1, by have := g.2.2; show m'.2.ks.length ≤ 8; omega, Nat.le_trans (nm_len g.1) (by decide)⟩, by rw [mr, ← e8]; exact i4⟩
        refine ⟨ca, _, rfl, .inl (.inl (.inl e1)), fun l1 hl1 => ?_⟩
        have t1 : Same H' (upd H' l1 (.lst (cs2.map V.str))) := UL.Same.new hl1
        refine ⟨D1, _, rfl, .inl (.inl (.inl (t1 _ _ e2))), fun l2 hl2 => ?_⟩
        have t2 : Same _ (upd (upd H' l1 (.lst (cs2.map V.str))) l2 (.lst (ms.map fun m => V.ref m.1))) := UL.Same.new hl2
        refine call (.inl (.inl (t2 _ _ upd_same))) (.inl (.inl upd_same)) (Same.tr t1 t2) fun r2 H3 d3 t3 => neDD d3 (dp_same (Same.tr (Same.tr t1 t2) t3) e6) e7 e7 (q := ⟨_, rfl, ?_⟩)
        rw [eqv_same e7, if_neg (by decide)]
        have t13 := Same.tr (Same.tr t1 t2) t3
        refine ⟨ca, _, rfl, .inl ⟨.inl (.inl (t13 _ _ e1)), fun l3 hl3 => ?_⟩⟩
        have t4 : Same H3 (upd H3 l3 (.tup (cs2.map V.str))) := UL.Same.new hl3
        refine ⟨D1, _, rfl, .inl ⟨.inl (.inl (t4 _ _ (t13 _ _ e2))), fun l4 hl4 => ?_⟩⟩
        have t5 : Same _ (upd (upd H3 l3 (.tup (cs2.map V.str))) l4 (.tup (ms.map fun m => V.ref m.1))) := UL.Same.new hl4
        refine call (.inr (.inl (t5 _ _ upd_same))) (.inr (.inl upd_same)) (Same.tr t13 (Same.tr t4 t5)) fun r2 H6 d6 t6 => eqDD d6 (dp_same (Same.tr (Same.tr t13 (Same.tr t4 t5)) t6) e6) e7 e7 (q := ?_)
        rw [eqv_same e7]
        exact q _
      have s9b := Same.tr s910 s11
      refine drawI (by decide) (h48.same s9b) fun r H12 r0' r6 hp12 b12 => eqII.mpr ⟨_, rfl, ?_⟩
      have D1p : D1 ≠ p := fun e => by obtain ⟨zs, e2⟩ := h48; rw [e, e2] at hD1; cases hD1
      have d12 := b12 _ _ (s11 _ _ m2) D1p
      have ca12 := b12 _ _ (s11 _ _ hca10) cap
      have pg12 : ∀ m ∈ ms, PgA H12 R Wr B Pg m.1 m.2.n m.2.ks := fun m hm => ((m3 m hm).same s11).keep3 fun c o e nl0 => b12 _ _ e fun e2 => by
        obtain ⟨zs, e3⟩ := h48.same s9b
        rw [e2, e3] at e
        exact nl0 _ (Option.some.inj e).symm
      by_cases c5 : r = 5
      · rw [if_pos (by simp [c5])]
        refine ⟨.inl ⟨rfl, _, .inl (.inl ca12)⟩, drawI (by omega) hp12 fun u H13 u0 u1 hp13 b13 => drawI (by omega) hp13 fun v H14 v0 v1 hp14 b14 => ?_⟩
        have ca14 := b14 _ _ (b13 _ _ ca12 cap) cap
        obtain ⟨n, rfl⟩ := Int.eq_ofNat_of_zero_le v0
        have nl2 : n < (ks.take m).length := by omega
        refine ixL (.inl (.inl ca14)) (atN (v := .str (ks.take m)[n]) (by rw [List.getElem?_map, List.getElem?_eq_getElem nl2]; rfl)) ⟨ca, _, u, _, rfl, rfl, ca14, by rw [List.length_map, sizeLine_eq]; omega, u0, by omega, by rw [sizeLine_eq]; decide, fun t ht => ?_⟩
        have em : ((ks.take m).map V.str).take u.toNat ++ [V.str (ks.take m)[n]] ++ ((ks.take m).map V.str).drop u.toNat = ((ks.take m).take u.toNat ++ [(ks.take m)[n]] ++ (ks.take m).drop u.toNat).map V.str := by simp only [List.map_append, List.map_take, List.map_drop, List.map_cons, List.map_nil]
        rw [em] at ht ⊢
        have nd := twice u.toNat (List.getElem_mem nl2)
        have nsf := nms_twice nd
        have tca : t ≠ ca := fun e => by rw [e, upd_same] at ht; cases ht
        have off2 : ∀ c o, H14 c = some o → c ≠ ca → upd (upd H14 ca (.lst (((ks.take m).take u.toNat ++ [(ks.take m)[n]] ++ (ks.take m).drop u.toNat).map V.str))) t (.tup [V.str (Str.ofString "cells"), V.str (Str.ofString "")]) c = some o := fun c o e nc => by
          rw [upd_ne (fun e2 => by rw [e2] at e nc; rw [upd_ne nc, e] at ht; cases ht), upd_ne nc]
          exact e
        have D1c : D1 ≠ ca := fun e => by rw [e, hca8] at hD1; cases hD1
        refine fin _ t _ none (by rw [upd_ne (Ne.symm tca), upd_same]) (off2 _ _ (b14 _ _ (b13 _ _ d12 D1p) D1p) D1c) (fun m' hm' => (pg12 m' hm').keep3 fun c o e nl0 => ?_) ?_ ?_ (.tup (.inl (.inl upd_same)) (.cons (.str _) (.cons (.str _) .nil))) ?_ ?_
        · refine off2 _ _ (b14 _ _ (b13 _ _ e fun e2 => ?_) fun e2 => ?_) fun e2 => ?_
          · obtain ⟨zs, e3⟩ := hp12
            rw [e2, e3] at e
            exact nl0 _ (Option.some.inj e).symm
          · obtain ⟨zs, e3⟩ := hp12
            rw [e2, e3] at e
            exact nl0 _ (Option.some.inj e).symm
          · rw [e2, ca12] at e
            exact nl0 _ (Option.some.inj e).symm
        · simp only [List.length_append, List.length_take, List.length_drop, List.length_cons, List.length_nil]; omega
        · intro z hz
          rcases List.mem_append.mp hz with h | h
          · rcases List.mem_append.mp h with h | h
            · exact ctn z (List.mem_of_mem_take h)
            · rw [List.mem_singleton.mp h]; exact ctn _ (List.getElem_mem nl2)
          · exact ctn z (List.mem_of_mem_drop h)
        · refine (Sh.tup (n := 0) fun d hd => ?_).mono (by decide)
          simp only [List.mem_cons, List.not_mem_nil, or_false] at hd
          rcases hd with rfl | rfl <;> exact Sh.str (by decide +kernel)
        · rw [nsf]; rfl
      · rw [if_neg (by simp [c5])]
        refine fin (ks.take m) r0 H12 (some (dueR (ks.take m) [] [] (qs.map fun q => (q.n, q.ks)))) ca12 d12 pg12 (by omega) ctn ?_ (due_sh _ _ _ _ (fun z hz => by cases hz) okr) (by rw [tw]; rfl)
        exact hdue _ fun c o e1 e2 => b12 _ _ e2 fun e3 => by
          obtain ⟨zs, e4⟩ := h48.same s910
          rw [e3, e4] at e1
          cases e1
end
end U

set_option Elab.async false
set_option linter.all false
set_option maxRecDepth 100000
set_option maxHeartbeats 4000000
set_option pp.deepTerms true
set_option pp.maxSteps 400000
namespace U
open PySem PySem.Spec PyProof.Rows L2 UL UX
local macro_rules | `(tactic| walk_at "rd") => `(tactic| simp only [sMatch, tJs, tFmt, tBC, tMethA, tMakeL, iEnumS, tSeq, tAsg, tOp, tCB, tCons, tNil, tVar, tC, tB, tTest, tNot, tIfS, tNext, tYes, tUn, rU, tM0, tGFrom, tGThen, tG0, tYfLst, gcxK, tSubO, tProp, tListG, tMethG, tBMF, tFld, sFld, tMeth, tMake, tSl, tNoPart, tPart, tM1, gTup, gCons, gNil, tDrop, tFor_eq, tLc_eq, tLc2_eq, iRng1_eq, StX.tStar, iList, iTup, iStr, iAny_var, iZipB, tLenSetS, wipe, tVar, tAndV, tOrV, tNotV, tOr, tAnd, tLst, tTup, tBM, tBM0, tChain, tCall, cxK, noxK, addII, addSS, mulII, eqII, neII, neSS, cIntI, cAbsI, rI, rI0, rLt, rLe, rGt_, rGe_, rSub_, rMod, rPow, rDivW, rNeg, gName, tRet, L2.start, List.length_cons, List.length_nil, List.map_cons, List.map_nil, List.replicate, List.cons_append, List.nil_append, List.getElem?_cons_zero, List.getElem?_cons_succ, List.set_cons_zero, List.set_cons_succ, Option.some.injEq, exists_eq_left', exists_eq_left, V.int.injEq, V.bl.injEq, V.str.injEq, V.ref.injEq, V.ty.injEq, List.cons.injEq, and_true, true_and, reduceCtorEq, false_and, exists_false, or_false, false_or, exists_and_left, exists_and_right, List.append_nil, forall_eq, decide_eq_true_eq, Bool.not_eq_true, Nat.reduceAdd, Nat.reduceSub, List.replicate_zero, List.replicate_succ, Nat.zero_le, ite_true, ite_false, if_true, if_false])
section
variable {P : Program} {w : World} {K : PySem.W.Frag} {mg : Str → Option Value} {base : Heap}
open UV UW ClX
theorem td_mk {h : Heap} {x : Str} {st : Stmt} {f : Addr} {oc kV dc pm cd ct : Value} {od an : Option Addr} {sl : Array (Option Value)} (X : K.In h) (G : h.Ns mainGlobals mg) (a : PySem.W.nsIn K mainGlobals x = some (some (.ref f)))
    (l : K.lookup f = some ⟨oc, od, .func (PySem.W.fnOf x x (defArgs st) (defBody st) (defScope st) .none kV dc pm an cd ct), sl⟩) (c : PySem.W.codeIn K cd x = true) (k : PySem.W.keepIn K (.ref f) = true) : TD K mg x st := ⟨f, _, fun_mk l c k, PySem.W.mg_of X G a⟩
theorem md_mk {C : Addr} {m qual : Str} {st : Stmt} {f : Addr} {oc kV dc pm cd ct : Value} {od an : Option Addr} {sl : Array (Option Value)} (a : PySem.W.findIn K (.ref C) m = some (some (.ref f)))
    (l : K.lookup f = some ⟨oc, od, .func (PySem.W.fnOf m qual (defArgs st) (defBody st) (defScope st) .none kV dc pm an cd ct), sl⟩) (c : PySem.W.codeIn K cd qual = true) (i : PySem.W.isFn K (.ref f) = true) (k : PySem.W.keepIn K (.ref f) = true) : MD K C m qual st := ⟨f, _, fun_mk l c k, a, i, k⟩
theorem no_mk {h : Heap} {x : Str} (X : K.In h) (G : h.Ns mainGlobals mg) (a : PySem.W.nsIn K mainGlobals x = some none) : mg x = none := PySem.W.mg_none_of X G a
theorem gs_mk {h : Heap} {x z : Str} {t : Tok} (X : K.In h) (G : h.Ns mainGlobals mg) (a : PySem.W.nsIn K mainGlobals x = some (some (.str z t))) : ∃ u, mg x = some u ∧ RelV (.str z) u := ⟨_, PySem.W.mg_of X G a, _, rfl⟩
theorem gi_mk {h : Heap} {x : Str} {i : Int} {t : Tok} (X : K.In h) (G : h.Ns mainGlobals mg) (a : PySem.W.nsIn K mainGlobals x = some (some (.int i t))) : ∃ u, mg x = some u ∧ RelV (.int i) u := ⟨_, PySem.W.mg_of X G a, _, rfl⟩
theorem gr_mk {h : Heap} {x : Str} {a : Addr} (X : K.In h) (G : h.Ns mainGlobals mg) (e : PySem.W.nsIn K mainGlobals x = some (some (.ref a))) : ∃ u, mg x = some u ∧ RelV (.ref a) u := ⟨_, PySem.W.mg_of X G e, rfl⟩
theorem ga_mk {h : Heap} {x : Str} {a : Addr} (X : K.In h) (G : h.Ns mainGlobals mg) (e : PySem.W.nsIn K mainGlobals x = some (some (.ref a))) : mg x = some (.ref a) := PySem.W.mg_of X G e
theorem na_mk {C : Addr} {x : Str} (a : PySem.W.findIn K (.ref C) x = some none) : NoAttr K C x := a
theorem cfn_mk {C : Addr} {m : Str} {f : Addr} (a : PySem.W.findIn K (.ref C) m = some (some (.ref f))) (b : PySem.W.findCls K (.ref C) (.type "type") m = some (.val (.ref f))) (r : PySem.W.readsIn K C (.type "type") = true)
    (g : PySem.W.specialIn K (.ref C) "__getattribute__" = some (some (.builtin "type.__getattribute__"))) (k : PySem.W.keepIn K (.ref f) = true) : ∃ f, PySem.W.findIn K (.ref C) m = some (some (.ref f)) ∧ UX.CFn K C m f := ⟨f, a, b, ⟨r, g⟩, k⟩
theorem cm_mk {C : Addr} {m qual : Str} {st : Stmt} {q g : Addr} {rest : List Value} {oc kV dc pm cd ct : Value} {od an : Option Addr} {sl : Array (Option Value)} (b : PySem.W.findCls K (.ref C) (.type "type") m = some (.get (.builtin "classmethod.__get__") (.ref q) .none (.ref C))) (rc : PySem.W.recIn K q "classmethod" = some (.ref g :: rest))
    (r : PySem.W.readsIn K C (.type "type") = true) (ga : PySem.W.specialIn K (.ref C) "__getattribute__" = some (some (.builtin "type.__getattribute__"))) (fi : PySem.W.fnIn K g = true)
    (l : K.lookup g = some ⟨oc, od, .func (PySem.W.fnOf m qual (defArgs st) (defBody st) (defScope st) .none kV dc pm an cd ct), sl⟩) (c : PySem.W.codeIn K cd qual = true) (k : PySem.W.keepIn K (.ref g) = true) :
    ∃ q g fd, ClX.CRead K C (.type "type") ∧ ClX.CMet K C (.type "type") m q g ∧ Fun K m qual st g fd := ⟨q, g, _, ⟨r, ga⟩, ⟨b, ⟨rest, rc⟩, fi⟩, fun_mk l c k⟩
/-- C(..) from its __init__ -/
theorem kn_of {C : Addr} {x : Str} {k : Nat} {sp : Sp} (d : Mn P w K mg base CX0 k C "__init__" sp) (mk : PySem.W.makesIn K C = true) (kc : PySem.W.keepIn K (.ref C) = true) (gc : mg x = some (.ref C)) : Kn P w K mg base CX0 k C x sp := by
  obtain ⟨f, fd, ps, FO, M, B⟩ := d.ex
  exact ⟨f, fd, ps, FO, ⟨mk, M.at_, M.fn, kc⟩, B, gc⟩
/-- C.m(self, ..) from its def -/
theorem bn_of {C : Addr} {x m : Str} {k : Nat} {sp : Sp} (d : Mn P w K mg base CX0 k C m sp) (h : ∃ f, PySem.W.findIn K (.ref C) m = some (some (.ref f)) ∧ UX.CFn K C m f) (gc : mg x = some (.ref C)) : UX.Bn P w K mg base k C x m sp := by
  obtain ⟨f, fd, ps, FO, M, B⟩ := d.ex
  obtain ⟨f2, e, c⟩ := h
  have z := M.at_.symm.trans e
  cases z
  exact ⟨f, fd, ps, FO, c, B, gc⟩
theorem ox_mk {C : Addr} {nm q : Str} {N : Addr} {bs bm : List Value} {sn : List Str} {sub : List Value} {ab : Bool} {col : Option Bool} {dd : Option Addr} {k0 k1 k2 k3 k5 : Option Value} (l : K.lookup C = some (excClassObj nm q C N bs bm true sn sub ab col dd k0 k1 k2 k3 k5 "ValueError.__new__")) (hb : PySem.HandSPX.refsVE bm = true)
    (sa : PySem.W.findIn K (.ref C) "__setattr__" = some (some (.builtin "object.__setattr__"))) (e : PySem.W.subIn K (.ref C) (.type "BaseException") = some true) (t : PySem.W.typeIn K (.ref C) = some (.type "type")) (k : PySem.W.keepIn K (.ref C) = true) : OexC K C := ⟨⟨nm, q, N, bs, bm, sn, sub, ab, col, dd, k0, k1, k2, k3, k5, l, hb⟩, sa, e, t, k⟩
theorem xd_mk {h : Heap} {C : Addr} {x qual : Str} {st : Stmt} {f c cc : Addr} {oc kV doc pm ct : Value} {od an : Option Addr} {osl : Array (Option Value)} {ccl : Value} {cdd : Option Addr} {vs : Array Value} {ccs : Array (Option Value)} {file : Str} {tf : Tok} {cl : Value} {cld : Option Addr} {csl : Array (Option Value)} (X : K.In h) (G : h.Ns mainGlobals mg) (ox : OexC K C)
    (gc : PySem.W.nsIn K mainGlobals x = some (some (.ref C))) (fi : PySem.W.findIn K (.ref C) "__init__" = some (some (.ref f))) (lk : K.lookup f = some ⟨oc, od, .func (PySem.W.fnX "__init__" qual (defArgs st) (defBody st) (defScope st) [("__class__", cc)] .none kV doc pm an (.ref c) ct), osl⟩) (hcd : PySem.W.codeIn K (.ref c) qual = true)
    (ty : PySem.W.typeIn K (.ref f) = some (.type "function")) (par : ∃ ar, ((defArgs st).posonlyargs ++ (defArgs st).args).head? = some ar ∧ ar.arg = "self") (lc : K.lookup c = some ⟨ccl, cdd, .fields vs, ccs⟩) (v2 : vs[2]? = some (.str file tf)) (fl : ((P.main.file : Str) == file) = true) (top : (P.main.scope.names.lookup ("super" : Str)).isSome = false)
    (lcc : K.lookup cc = some ⟨cl, cld, .cell (some (.ref C)), csl⟩) (nos : PySem.W.nsIn K mainGlobals "super" = some none) (sub : PySem.W.mroIn K C (.ref C) = some true) (op : PySem.W.nsIn K cStatics "thirdparty.any" = some none) (al : PySem.W.ks_superIn K C C "__init__" = some (some wr)) : XD P K mg C x qual st :=
  ⟨⟨f, c, cc, oc, kV, doc, pm, ct, od, an, osl, lk, hcd, ⟨⟨oc, od, osl, lk⟩, par, ⟨ccl, cdd, vs, ccs, file, tf, lc, v2, fl⟩, top, ⟨cl, cld, csl, lcc⟩, PySem.W.mg_none_of X G nos, sub, op, al⟩, fi, ty⟩, ox, PySem.W.mg_of X G gc⟩
theorem kx_of {C : Addr} {x : Str} {k : Nat} {sp : Sp} (d : Mn P w K mg base (L2.CX P w) k C "__init__" sp) (mk : PySem.W.makesIn K C = true) (kc : PySem.W.keepIn K (.ref C) = true) (gc : mg x = some (.ref C)) : Kn P w K mg base (L2.CX P w) k C x sp := by
  obtain ⟨f, fd, ps, FO, M, B⟩ := d.ex
  exact ⟨f, fd, ps, FO, ⟨mk, M.at_, M.fn, kc⟩, B, gc⟩
/-- everything that the law wants of the module -/
structure All (P : Program) (K : PySem.W.Frag) (mg : Str → Option Value) (R Wr B Pg Sy IC IS UC UP WE : Addr) : Prop where
  xdIC : XD P K mg IC "InvalidCells" "InvalidCells.__init__" s_IC
  xdIS : XD P K mg IS "InvalidSystem" "InvalidSystem.__init__" s_IS
  xdUC : XD P K mg UC "UnknownCell" "UnknownCell.__init__" s_UC
  xdUP : XD P K mg UP "UnknownProgram" "UnknownProgram.__init__" s_UP
  xl : LoX K mg R Wr B Pg Sy IC IS UC UP WE
  gR : mg "Read" = some (.ref R)
  mkR : PySem.W.makesIn K R = true
  kcR : PySem.W.keepIn K (.ref R) = true
  gWr : mg "Write" = some (.ref Wr)
  mkWr : PySem.W.makesIn K Wr = true
  kcWr : PySem.W.keepIn K (.ref Wr) = true
  gB : mg "ReadWrite" = some (.ref B)
  mkB : PySem.W.makesIn K B = true
  kcB : PySem.W.keepIn K (.ref B) = true
  gPg : mg "Program" = some (.ref Pg)
  mkPg : PySem.W.makesIn K Pg = true
  kcPg : PySem.W.keepIn K (.ref Pg) = true
  gSy : mg "System" = some (.ref Sy)
  mkSy : PySem.W.makesIn K Sy = true
  kcSy : PySem.W.keepIn K (.ref Sy) = true
  d_is_name : TD K mg "is_name" s_is_name
  d_parse_header : TD K mg "parse_header" s_parse_header
  d_parse_steps : TD K mg "parse_steps" s_parse_steps
  d_parse_step : TD K mg "parse_step" s_parse_step
  d_make_read : TD K mg "make_read" s_make_read
  d_make_write : TD K mg "make_write" s_make_write
  d_make_both : TD K mg "make_both" s_make_both
  d_is_argument_part : TD K mg "is_argument_part" s_is_argument_part
  d_check_names : TD K mg "check_names" s_check_names
  d_law_mixed : TD K mg "_law_mixed" s__law_mixed
  d_law_pool : TD K mg "_law_pool" s__law_pool
  d_law_draw : TD K mg "_law_draw" s__law_draw
  d_law_names : TD K mg "_law_names" s__law_names
  d_law_functions : TD K mg "_law_functions" s__law_functions
  d_law_step : TD K mg "_law_step" s__law_step
  d_law_steps : TD K mg "_law_steps" s__law_steps
  d_law_line : TD K mg "_law_line" s__law_line
  d_law_text : TD K mg "_law_text" s__law_text
  d_law_due : TD K mg "_law_due" s__law_due
  d_law_outcome : TD K mg "_law_outcome" s__law_outcome
  m_R_init : MD K R "__init__" "Read.__init__" s_Read___init__
  m_R_reads : MD K R "reads" "Read.reads" s_Read_reads
  m_R_writes : MD K R "writes" "Read.writes" s_Read_writes
  m_Wr_init : MD K Wr "__init__" "Write.__init__" s_Write___init__
  m_Wr_reads : MD K Wr "reads" "Write.reads" s_Write_reads
  m_Wr_writes : MD K Wr "writes" "Write.writes" s_Write_writes
  m_B_init : MD K B "__init__" "ReadWrite.__init__" s_ReadWrite___init__
  m_B_reads : MD K B "reads" "ReadWrite.reads" s_ReadWrite_reads
  m_B_writes : MD K B "writes" "ReadWrite.writes" s_ReadWrite_writes
  m_Pg_init : MD K Pg "__init__" "Program.__init__" s_Program___init__
  m_Sy_init : MD K Sy "__init__" "System.__init__" s_System___init__
  m_Sy_take_program : MD K Sy "_take_program" "System._take_program" s_System__take_program
  m_Sy_take_step : MD K Sy "_take_step" "System._take_step" s_System__take_step
  m_Sy_take_function : MD K Sy "_take_function" "System._take_function" s_System__take_function
  b_R : ∃ f, PySem.W.findIn K (.ref R) "__init__" = some (some (.ref f)) ∧ UX.CFn K R "__init__" f
  b_Wr : ∃ f, PySem.W.findIn K (.ref Wr) "__init__" = some (some (.ref f)) ∧ UX.CFn K Wr "__init__" f
  cm : ∃ q g fd, ClX.CRead K Pg (.type "type") ∧ ClX.CMet K Pg (.type "type") "read" q g ∧ Fun K "read" "Program.read" s_Program_read g fd
theorem law_of {R Wr B Pg Sy IC IS UC UP WE : Addr} (a : All P K mg R Wr B Pg Sy IC IS UC UP WE) {f0 : Addr} {fd0 : FuncData} (F0 : Fun K "law" "law" s_law f0 fd0) : FnOk P w K mg base CX0 30 f0 fd0 ["_law_script"] (sp_law K) := by
  have X := a.xl
  have Y := X.toSyX
  have T := Y.toPT
  have N := T.toNm
  have ap : Ap R Wr B := ⟨fun e => (by have h := T.kWR; rw [← e, T.kRR] at h; cases h), fun e => (by have h := T.kRB; rw [← e, T.kRR] at h; cases h), fun e => (by have h := T.kWB; rw [← e, T.kWW] at h; cases h)⟩
  have hisn : Dn P w K mg base CX0 1 "is_name" sp_isnm := d_isnm N a.d_is_name
  have iR : Mn P w K mg base CX0 1 R "__init__" (sp_initR R B) := m_initR T a.m_R_init
  have iW : Mn P w K mg base CX0 1 Wr "__init__" (sp_initW K Wr B) := m_initW T a.m_Wr_init
  have iB : Mn P w K mg base CX0 2 B "__init__" (sp_initB K R Wr B) := m_initB T a.m_B_init (bn_of iR a.b_R a.gR) (bn_of iW a.b_Wr a.gWr)
  have iP : Mn P w K mg base CX0 1 Pg "__init__" (sp_initP K Pg) := m_initP T a.m_Pg_init
  have hia : Dn P w K mg base CX0 1 "is_argument_part" (sp_isarg K) := d_isarg T a.d_is_argument_part
  have hmr : Dn P w K mg base CX0 3 "make_read" (sp_mkR R Wr B) := d_mkR T a.d_make_read hisn (kn_of iR a.mkR a.kcR a.gR)
  have hmw : Dn P w K mg base CX0 3 "make_write" (sp_mkW K R Wr B) := d_mkW T a.d_make_write hisn hia (kn_of iW a.mkWr a.kcWr a.gWr)
  have hmb : Dn P w K mg base CX0 4 "make_both" (sp_mkB R Wr B) := d_mkB T a.d_make_both (kn_of iB a.mkB a.kcB a.gB)
  have hps : Dn P w K mg base CX0 5 "parse_step" (sp_pstep K R Wr B) := d_pstep T a.d_parse_step hmr hmw hmb
  have hpp : Dn P w K mg base CX0 6 "parse_steps" (sp_psteps K R Wr B) := d_psteps T a.d_parse_steps hps
  have hph : Dn P w K mg base CX0 2 "parse_header" sp_phead := d_phead T a.d_parse_header hisn
  have cm : CMn P w K mg base 7 Pg "Program" "read" (sp_pread K R Wr B Pg) := by
    obtain ⟨q, g, fd, cr, cm, F⟩ := a.cm
    have ok := d_pread T F (kn_of iP a.mkPg a.kcPg a.gPg) hph hpp
    have hb := F.binds (ps := ["cls", "text"]) (fun _ _ _ _ _ _ us hl => match us, hl with | [_, _], _ => rfl)
    exact ⟨q, g, _, cr, cm, (ok.raw hb .nil).imp fun vs H Q E h => by rw [List.append_nil]; exact h, a.gPg⟩
  have rR : Mn P w K mg base CX0 1 R "reads" (sp_reads R Wr B R) := m_readsR ap T a.m_R_reads
  have rW : Mn P w K mg base CX0 1 Wr "reads" (sp_reads R Wr B Wr) := m_readsW ap T a.m_Wr_reads
  have rB : Mn P w K mg base CX0 1 B "reads" (sp_reads R Wr B B) := m_readsB ap T a.m_B_reads
  have wR : Mn P w K mg base CX0 1 R "writes" (sp_writes R Wr B R) := m_writesR ap T a.m_R_writes
  have wW : Mn P w K mg base CX0 1 Wr "writes" (sp_writes R Wr B Wr) := m_writesW ap T a.m_Wr_writes
  have wB : Mn P w K mg base CX0 1 B "writes" (sp_writes R Wr B B) := m_writesB ap T a.m_B_writes
  have Ar : ∀ C s, Fam R Wr B (sp_reads R Wr B) C s → Mn P w K mg base CX0 1 C "reads" s ∧ Cls K C := fun C s h => by
    obtain ⟨rfl | rfl | rfl, rfl⟩ := h
    · exact ⟨rR, T.cR⟩
    · exact ⟨rW, T.cW⟩
    · exact ⟨rB, T.cB⟩
  have Aw : ∀ C s, Fam R Wr B (sp_writes R Wr B) C s → Mn P w K mg base CX0 1 C "writes" s ∧ Cls K C := fun C s h => by
    obtain ⟨rfl | rfl | rfl, rfl⟩ := h
    · exact ⟨wR, T.cR⟩
    · exact ⟨wW, T.cW⟩
    · exact ⟨wB, T.cB⟩
  have xIC : Xn P w K mg base 1 IC "InvalidCells" (sp_IC IC) := x_IC a.xdIC
  have xIS : Xn P w K mg base 1 IS "InvalidSystem" (sp_IS (K := K) IS) := x_IS a.xdIS
  have xUC : Xn P w K mg base 1 UC "UnknownCell" (sp_UC (K := K) UC) := x_UC a.xdUC
  have xUP : Xn P w K mg base 1 UP "UnknownProgram" (sp_UP (K := K) UP) := x_UP a.xdUP
  have hcn : Dn P w K mg base (L2.CX P w) 3 "check_names" (sp_chknX K IC) := d_chknX N a.d_check_names hisn xIC
  have mF : Mn P w K mg base (L2.CX P w) 3 Sy "_take_function" (sp_takeF Sy IS UC) := m_takeF Y a.m_Sy_take_function xIS
  have mS : Mn P w K mg base (L2.CX P w) 5 Sy "_take_step" (sp_takeS R Wr B Sy IS UC) := m_takeS ap Y a.m_Sy_take_step xUC Ar Aw mF
  have mP : Mn P w K mg base (L2.CX P w) 7 Sy "_take_program" (sp_takeP R Wr B Pg Sy IS UC) := m_takeP Y a.m_Sy_take_program xIS mS
  have mI : Mn P w K mg base (L2.CX P w) 9 Sy "__init__" (sp_sinit K R Wr B Pg Sy IC IS UC) := m_sinit Y a.m_Sy_init hcn mP
  have kS : Kn P w K mg base (L2.CX P w) 9 Sy "System" (sp_sinit K R Wr B Pg Sy IC IS UC) := kx_of mI a.mkSy a.kcSy a.gSy
  have hmix : Dn P w K mg base CX0 1 "_law_mixed" sp_mixed := d_mixed N a.d_law_mixed
  have hpool : Dn P w K mg base CX0 2 "_law_pool" (sp_pool K) := d_pool N a.d_law_pool hmix
  have hdraw : Dn P w K mg base CX0 1 "_law_draw" sp_draw := d_draw N a.d_law_draw
  have hn0 : Dn P w K mg base CX0 2 "_law_names" sp_names0 := d_names0 N a.d_law_names hdraw
  have hnN : Dn P w K mg base CX0 2 "_law_names" sp_namesN := d_namesN N a.d_law_names hdraw
  have hfuns : Dn P w K mg base CX0 3 "_law_functions" sp_funsN := d_funsN N a.d_law_functions hdraw hnN
  have hstep : Dn P w K mg base CX0 2 "_law_step" (sp_lstep K) := d_lstep N a.d_law_step hdraw
  have hsteps : Dn P w K mg base CX0 3 "_law_steps" (sp_lsteps K) := d_lsteps N a.d_law_steps hstep
  have hline : Dn P w K mg base CX0 1 "_law_line" sp_line := d_line N a.d_law_line
  have htext : Dn P w K mg base CX0 2 "_law_text" sp_ltext := d_ltext N a.d_law_text hline
  exact ok_law X F0 hpool hdraw hn0 hfuns hsteps htext cm (d_ldue X a.d_law_due) (d_lout X Y.s_names a.d_law_outcome kS)
theorem fin_of {l : PySem.W.OpenLaw} {w : World} {h : Heap} {fa R Wr B Pg Sy IC IS UC UP WE : Addr} (X : K.In h) (G : h.Ns mainGlobals mg) (hfa : mg "law" = some (.ref fa)) (a : All l.prog K mg R Wr B Pg Sy IC IS UC UP WE)
    {f1 : Addr} {od1 an1 : Option Addr} {sl1 : Array (Option Value)} {oc1 kV1 dc1 pm1 cd1 ct1 : Value}
    (a1 : PySem.W.nsIn K mainGlobals "law" = some (some (.ref f1))) (l1 : K.lookup f1 = some ⟨oc1, od1, .func (PySem.W.fnOf "law" "law" (defArgs s_law) (defBody s_law) (defScope s_law) .none kV1 dc1 pm1 an1 cd1 ct1), sl1⟩) (c1 : PySem.W.codeIn K cd1 "law" = true) (k1 : PySem.W.keepIn K (.ref f1) = true) :
    ∃ fd : FuncData, (∀ (s : Shared) (v : Value), BindsTo s fd ⟨[v], []⟩ [("_law_script", v)]) ∧ ∀ base : Heap, K.In base → base.Ns mainGlobals mg → FnOk l.prog w K mg base CX0 30 fa fd ["_law_script"] (sp_law K) := by
  have e := hfa.symm.trans (PySem.W.mg_of X G a1)
  cases e
  have F1 := fun_mk (st := s_law) l1 c1 k1
  exact ⟨PySem.W.fnOf "law" "law" (defArgs s_law) (defBody s_law) (defScope s_law) .none kV1 dc1 pm1 an1 cd1 ct1, fun s v => .of_eq rfl, fun base _ _ => law_of a F1⟩
theorem walk {l : PySem.W.OpenLaw} {q : Program} {loose : List Str} {XP : (Str → Option Value) → Heap → Prop} {YP : World → Heap → Prop} {d : DefRec} {K : Params → PySem.W.Frag} (hn : l.most = some 63) (hdf : d.params.defaults = [])
    (hY : ∀ (w : World) (h : Heap), YP w h → (K w.params).In h)
    (F : ∀ (w : World) (mg : Str → Option Value) (fa : Addr) (h : Heap), (K w.params).In h → h.Ns mainGlobals mg → mg d.name = some (.ref fa) →
      ∃ fd : FuncData, (∀ (s : Shared) (u : Value), BindsTo s fd ⟨[u], []⟩ [("_law_script", u)]) ∧ ∀ base : Heap, (K w.params).In base → base.Ns mainGlobals mg → FnOk l.prog w (K w.params) mg base CX0 30 fa fd ["_law_script"] (sp_law (K w.params))) :
    PySem.W.WalkO q loose XP YP l.row.toRowW d [] (fun f vs => PySem.call f vs) :=
  L2.walk_of (n := 63) (k := 30) (x := "_law_script") (CX := fun _ => CX0) (sp := fun w => sp_law (K w.params)) hn (by decide) hdf ⟨rfl, by decide, by decide⟩ hY F (fun _ _ a ns hl _ hS => ⟨a, ns, rfl, hS, hl, fun _ => rfl⟩) fun _ _ _ _ _ z => z
end
end U

set_option Elab.async false
open PySem PySem.W PyProof.Rows
set_option maxRecDepth 100000 in
set_option maxHeartbeats 0 in
theorem PySem.Challenge.cw_untoldrule_k09_systems_are_refused_holds : PySem.Challenge.rw_untoldrule_k09_systems_are_refused.Holds := by
  w_on; o_law; k_head; (case hw => w_witness2)
  k_fill
  refine U.walk (l := PySem.Challenge.rw_untoldrule_k09_systems_are_refused) rfl rfl (fun w h Y => by first | exact PySem.W.kIn_of Y | exact PySem.W.km_in_of Y) ?F
  case F =>
    intro w mg fa h KX G hmg
    refine' U.fin_of KX G hmg (R := ?adr_R) (Wr := ?adr_Wr) (B := ?adr_B) (Pg := ?adr_Pg) (Sy := ?adr_Sy) (IC := ?adr_IC) (IS := ?adr_IS) (UC := ?adr_UC) (UP := ?adr_UP) (WE := ?adr_WE) { xdIC := ?xdIC_1, xdIS := ?xdIS_24, xdUC := ?xdUC_47, xdUP := ?xdUP_70, xl := { toSyX := { toPT := { toNm := { n_int := ?n_int_93, n_bool := ?n_bool_95, n_str := ?n_str_97, n_list := ?n_list_99, n_tuple := ?n_tuple_101, n_set := ?n_set_103, n_len := ?n_len_105, n_abs := ?n_abs_107, n_all := ?n_all_109, n_iter := ?n_iter_111, n_range := ?n_range_113, n_zip := ?n_zip_115, n_isinstance := ?n_isinstance_117, c_LETTERS := ?c_LETTERS_119, c_MOST_LETTERS := ?c_MOST_LETTERS_121, c_MOST_CELLS := ?c_MOST_CELLS_123 }, n_enumerate := ?n_enumerate_125, c_MOST_STEPS := ?c_MOST_STEPS_127, c_MOST_ARGUMENTS := ?c_MOST_ARGUMENTS_129, c_Read := ?c_Read_131, c_Write := ?c_Write_133, c_ReadWrite := ?c_ReadWrite_135, cR := ⟨?cR_137, ?cR_138, ?cR_139, ?cR_140⟩, cW := ⟨?cW_141, ?cW_142, ?cW_143, ?cW_144⟩, cB := ⟨?cB_145, ?cB_146, ?cB_147, ?cB_148⟩, cP := ⟨?cP_149, ?cP_150, ?cP_151, ?cP_152⟩, aR_source := ?aR_source_153, aR_local := ?aR_local_155, aW_target := ?aW_target_157, aW_function := ?aW_function_159, aW_arguments := ?aW_arguments_161, aB_source := ?aB_source_163, aB_local := ?aB_local_165, aB_target := ?aB_target_167, aB_function := ?aB_function_169, aB_arguments := ?aB_arguments_171, aP_name := ?aP_name_173, aP_steps := ?aP_steps_175, iR := ⟨?iR_177, ?iR_178, ?iR_179, ?iR_180⟩, iW := ⟨?iW_181, ?iW_182, ?iW_183, ?iW_184⟩, iB := ⟨?iB_185, ?iB_186, ?iB_187, ?iB_188⟩, kRR := ?kRR_189, kWR := ?kWR_190, kBR := ?kBR_191, kRW := ?kRW_192, kRB := ?kRB_193, kWW := ?kWW_194, kWB := ?kWB_195, kBW := ?kBW_196, kBB := ?kBB_197 }, cls := ⟨?cls_198, ?cls_199, ?cls_200, ?cls_201⟩, s_cells := ?s_cells_202, s_programs := ?s_programs_204, s_arities := ?s_arities_206, s_names := ?s_names_208, c_MOST_PROGRAMS := ?c_MOST_PROGRAMS_210, naIS := ?naIS_212, naUC := ?naUC_213, naUP := ?naUP_214 }, c_WeaveError := ?c_WeaveError_215, c_InvalidSystem := ?c_InvalidSystem_217, c_UnknownCell := ?c_UnknownCell_219, g_IC := ?g_IC_221, g_IS := ?g_IS_223, g_UC := ?g_UC_225, xfS := ⟨?xfS_227, ?xfS_228, ?xfS_229, ?xfS_230⟩, xfC := ⟨?xfC_231, ?xfC_232, ?xfC_233, ?xfC_234⟩, ecI := ⟨?ecI_235, ?ecI_236, ?ecI_237, ?ecI_238, ?ecI_239, ?ecI_240, ?ecI_241, ?ecI_242⟩, ecS := ⟨?ecS_243, ?ecS_244, ?ecS_245, ?ecS_246, ?ecS_247, ?ecS_248, ?ecS_249, ?ecS_250⟩, ecC := ⟨?ecC_251, ?ecC_252, ?ecC_253, ?ecC_254, ?ecC_255, ?ecC_256, ?ecC_257, ?ecC_258⟩, ii := ?ii_259, si := ?si_260, ss := ?ss_261, ci := ?ci_262, cs := ?cs_263, cc := ?cc_264, iw := ?iw_265, iS := ?iS_266, sw := ?sw_267, sC := ?sC_268, cw := ?cw_269 }, gR := ?gR_270, mkR := ?mkR_272, kcR := ?kcR_273, gWr := ?gWr_274, mkWr := ?mkWr_276, kcWr := ?kcWr_277, gB := ?gB_278, mkB := ?mkB_280, kcB := ?kcB_281, gPg := ?gPg_282, mkPg := ?mkPg_284, kcPg := ?kcPg_285, gSy := ?gSy_286, mkSy := ?mkSy_288, kcSy := ?kcSy_289, d_is_name := ?d_is_name_290, d_parse_header := ?d_parse_header_295, d_parse_steps := ?d_parse_steps_300, d_parse_step := ?d_parse_step_305, d_make_read := ?d_make_read_310, d_make_write := ?d_make_write_315, d_make_both := ?d_make_both_320, d_is_argument_part := ?d_is_argument_part_325, d_check_names := ?d_check_names_330, d_law_mixed := ?d_law_mixed_335, d_law_pool := ?d_law_pool_340, d_law_draw := ?d_law_draw_345, d_law_names := ?d_law_names_350, d_law_functions := ?d_law_functions_355, d_law_step := ?d_law_step_360, d_law_steps := ?d_law_steps_365, d_law_line := ?d_law_line_370, d_law_text := ?d_law_text_375, d_law_due := ?d_law_due_380, d_law_outcome := ?d_law_outcome_385, m_R_init := ?m_R_init_390, m_R_reads := ?m_R_reads_396, m_R_writes := ?m_R_writes_402, m_Wr_init := ?m_Wr_init_408, m_Wr_reads := ?m_Wr_reads_414, m_Wr_writes := ?m_Wr_writes_420, m_B_init := ?m_B_init_426, m_B_reads := ?m_B_reads_432, m_B_writes := ?m_B_writes_438, m_Pg_init := ?m_Pg_init_444, m_Sy_init := ?m_Sy_init_450, m_Sy_take_program := ?m_Sy_take_program_456, m_Sy_take_step := ?m_Sy_take_step_462, m_Sy_take_function := ?m_Sy_take_function_468, b_R := ?b_R_474, b_Wr := ?b_Wr_480, cm := ?cm_486 } ?a1 ?l1 ?k1 ?k2
    (case n_int_93 => refine' U.no_mk KX G ?zz_94; (case zz_94 => k_is))
    (case n_bool_95 => refine' U.no_mk KX G ?zz_96; (case zz_96 => k_is))
    (case n_str_97 => refine' U.no_mk KX G ?zz_98; (case zz_98 => k_is))
    (case n_list_99 => refine' U.no_mk KX G ?zz_100; (case zz_100 => k_is))
    (case n_tuple_101 => refine' U.no_mk KX G ?zz_102; (case zz_102 => k_is))
    (case n_set_103 => refine' U.no_mk KX G ?zz_104; (case zz_104 => k_is))
    (case n_len_105 => refine' U.no_mk KX G ?zz_106; (case zz_106 => k_is))
    (case n_abs_107 => refine' U.no_mk KX G ?zz_108; (case zz_108 => k_is))
    (case n_all_109 => refine' U.no_mk KX G ?zz_110; (case zz_110 => k_is))
    (case n_iter_111 => refine' U.no_mk KX G ?zz_112; (case zz_112 => k_is))
    (case n_range_113 => refine' U.no_mk KX G ?zz_114; (case zz_114 => k_is))
    (case n_zip_115 => refine' U.no_mk KX G ?zz_116; (case zz_116 => k_is))
    (case n_isinstance_117 => refine' U.no_mk KX G ?zz_118; (case zz_118 => k_is))
    (case c_LETTERS_119 => refine' U.gs_mk KX G ?zz_120; (case zz_120 => k_is))
    (case c_MOST_LETTERS_121 => refine' U.gi_mk KX G ?zz_122; (case zz_122 => k_is))
    (case c_MOST_CELLS_123 => refine' U.gi_mk KX G ?zz_124; (case zz_124 => k_is))
    (case n_enumerate_125 => refine' U.no_mk KX G ?zz_126; (case zz_126 => k_is))
    (case c_MOST_STEPS_127 => refine' U.gi_mk KX G ?zz_128; (case zz_128 => k_is))
    (case c_MOST_ARGUMENTS_129 => refine' U.gi_mk KX G ?zz_130; (case zz_130 => k_is))
    (case c_Read_131 => refine' U.gr_mk KX G ?zz_132; (case zz_132 => k_is))
    (case c_Write_133 => refine' U.gr_mk KX G ?zz_134; (case zz_134 => k_is))
    (case c_ReadWrite_135 => refine' U.gr_mk KX G ?zz_136; (case zz_136 => k_is))
    (case c_MOST_PROGRAMS_210 => refine' U.gi_mk KX G ?zz_211; (case zz_211 => k_is))
    (case c_WeaveError_215 => refine' U.gr_mk KX G ?zz_216; (case zz_216 => k_is))
    (case c_InvalidSystem_217 => refine' U.gr_mk KX G ?zz_218; (case zz_218 => k_is))
    (case c_UnknownCell_219 => refine' U.gr_mk KX G ?zz_220; (case zz_220 => k_is))
    (case g_IC_221 => refine' U.ga_mk KX G ?zz_222; (case zz_222 => k_is))
    (case g_IS_223 => refine' U.ga_mk KX G ?zz_224; (case zz_224 => k_is))
    (case g_UC_225 => refine' U.ga_mk KX G ?zz_226; (case zz_226 => k_is))
    (case gR_270 => refine' U.ga_mk KX G ?zz_271; (case zz_271 => k_is))
    (case gWr_274 => refine' U.ga_mk KX G ?zz_275; (case zz_275 => k_is))
    (case gB_278 => refine' U.ga_mk KX G ?zz_279; (case zz_279 => k_is))
    (case gPg_282 => refine' U.ga_mk KX G ?zz_283; (case zz_283 => k_is))
    (case gSy_286 => refine' U.ga_mk KX G ?zz_287; (case zz_287 => k_is))
    (case xdIC_1 => refine' U.xd_mk KX G ?zx_ox_2 ?zx_gc_3 ?zx_fi_4 ?zx_lk_5 ?zx_hcd_6 ?zx_ty_7 ?zx_par_8 ?zx_lc_9 ?zx_v2_10 ?zx_fl_11 ?zx_top_12 ?zx_lcc_13 ?zx_nos_14 ?zx_sub_15 ?zx_op_16 ?zx_al_17; (case zx_gc_3 => k_is); (case zx_ox_2 => refine' U.ox_mk ?zo_18 ?zo_19 ?zo_20 ?zo_21 ?zo_22 ?zo_23; (case zo_18 => k_is); (case zo_19 => rfl); (case zo_20 => k_is); (case zo_21 => k_is); (case zo_22 => k_is); (case zo_23 => k_is)); (case zx_fi_4 => k_is); (case zx_lk_5 => k_is); (case zx_hcd_6 => k_is); (case zx_ty_7 => k_is); (case zx_par_8 => exact ⟨_, rfl, rfl⟩); (case zx_lc_9 => k_is); (case zx_v2_10 => rfl); (case zx_fl_11 => first | rfl | decide +kernel); (case zx_top_12 => first | rfl | decide +kernel); (case zx_lcc_13 => k_is); (case zx_nos_14 => k_is); (case zx_sub_15 => k_is); (case zx_op_16 => k_is); (case zx_al_17 => ks_is))
    (case xdIS_24 => refine' U.xd_mk KX G ?zx_ox_25 ?zx_gc_26 ?zx_fi_27 ?zx_lk_28 ?zx_hcd_29 ?zx_ty_30 ?zx_par_31 ?zx_lc_32 ?zx_v2_33 ?zx_fl_34 ?zx_top_35 ?zx_lcc_36 ?zx_nos_37 ?zx_sub_38 ?zx_op_39 ?zx_al_40; (case zx_gc_26 => k_is); (case zx_ox_25 => refine' U.ox_mk ?zo_41 ?zo_42 ?zo_43 ?zo_44 ?zo_45 ?zo_46; (case zo_41 => k_is); (case zo_42 => rfl); (case zo_43 => k_is); (case zo_44 => k_is); (case zo_45 => k_is); (case zo_46 => k_is)); (case zx_fi_27 => k_is); (case zx_lk_28 => k_is); (case zx_hcd_29 => k_is); (case zx_ty_30 => k_is); (case zx_par_31 => exact ⟨_, rfl, rfl⟩); (case zx_lc_32 => k_is); (case zx_v2_33 => rfl); (case zx_fl_34 => first | rfl | decide +kernel); (case zx_top_35 => first | rfl | decide +kernel); (case zx_lcc_36 => k_is); (case zx_nos_37 => k_is); (case zx_sub_38 => k_is); (case zx_op_39 => k_is); (case zx_al_40 => ks_is))
    (case xdUC_47 => refine' U.xd_mk KX G ?zx_ox_48 ?zx_gc_49 ?zx_fi_50 ?zx_lk_51 ?zx_hcd_52 ?zx_ty_53 ?zx_par_54 ?zx_lc_55 ?zx_v2_56 ?zx_fl_57 ?zx_top_58 ?zx_lcc_59 ?zx_nos_60 ?zx_sub_61 ?zx_op_62 ?zx_al_63; (case zx_gc_49 => k_is); (case zx_ox_48 => refine' U.ox_mk ?zo_64 ?zo_65 ?zo_66 ?zo_67 ?zo_68 ?zo_69; (case zo_64 => k_is); (case zo_65 => rfl); (case zo_66 => k_is); (case zo_67 => k_is); (case zo_68 => k_is); (case zo_69 => k_is)); (case zx_fi_50 => k_is); (case zx_lk_51 => k_is); (case zx_hcd_52 => k_is); (case zx_ty_53 => k_is); (case zx_par_54 => exact ⟨_, rfl, rfl⟩); (case zx_lc_55 => k_is); (case zx_v2_56 => rfl); (case zx_fl_57 => first | rfl | decide +kernel); (case zx_top_58 => first | rfl | decide +kernel); (case zx_lcc_59 => k_is); (case zx_nos_60 => k_is); (case zx_sub_61 => k_is); (case zx_op_62 => k_is); (case zx_al_63 => ks_is))
    (case xdUP_70 => refine' U.xd_mk KX G ?zx_ox_71 ?zx_gc_72 ?zx_fi_73 ?zx_lk_74 ?zx_hcd_75 ?zx_ty_76 ?zx_par_77 ?zx_lc_78 ?zx_v2_79 ?zx_fl_80 ?zx_top_81 ?zx_lcc_82 ?zx_nos_83 ?zx_sub_84 ?zx_op_85 ?zx_al_86; (case zx_gc_72 => k_is); (case zx_ox_71 => refine' U.ox_mk ?zo_87 ?zo_88 ?zo_89 ?zo_90 ?zo_91 ?zo_92; (case zo_87 => k_is); (case zo_88 => rfl); (case zo_89 => k_is); (case zo_90 => k_is); (case zo_91 => k_is); (case zo_92 => k_is)); (case zx_fi_73 => k_is); (case zx_lk_74 => k_is); (case zx_hcd_75 => k_is); (case zx_ty_76 => k_is); (case zx_par_77 => exact ⟨_, rfl, rfl⟩); (case zx_lc_78 => k_is); (case zx_v2_79 => rfl); (case zx_fl_80 => first | rfl | decide +kernel); (case zx_top_81 => first | rfl | decide +kernel); (case zx_lcc_82 => k_is); (case zx_nos_83 => k_is); (case zx_sub_84 => k_is); (case zx_op_85 => k_is); (case zx_al_86 => ks_is))
    (case cR_137 => k_is)
    (case cR_138 => k_is)
    (case cR_139 => k_is)
    (case cR_140 => k_is)
    (case cW_141 => k_is)
    (case cW_142 => k_is)
    (case cW_143 => k_is)
    (case cW_144 => k_is)
    (case cB_145 => k_is)
    (case cB_146 => k_is)
    (case cB_147 => k_is)
    (case cB_148 => k_is)
    (case cP_149 => k_is)
    (case cP_150 => k_is)
    (case cP_151 => k_is)
    (case cP_152 => k_is)
    (case aR_source_153 => refine' U.na_mk  ?zz_154; (case zz_154 => k_is))
    (case aR_local_155 => refine' U.na_mk  ?zz_156; (case zz_156 => k_is))
    (case aW_target_157 => refine' U.na_mk  ?zz_158; (case zz_158 => k_is))
    (case aW_function_159 => refine' U.na_mk  ?zz_160; (case zz_160 => k_is))
    (case aW_arguments_161 => refine' U.na_mk  ?zz_162; (case zz_162 => k_is))
    (case aB_source_163 => refine' U.na_mk  ?zz_164; (case zz_164 => k_is))
    (case aB_local_165 => refine' U.na_mk  ?zz_166; (case zz_166 => k_is))
    (case aB_target_167 => refine' U.na_mk  ?zz_168; (case zz_168 => k_is))
    (case aB_function_169 => refine' U.na_mk  ?zz_170; (case zz_170 => k_is))
    (case aB_arguments_171 => refine' U.na_mk  ?zz_172; (case zz_172 => k_is))
    (case aP_name_173 => refine' U.na_mk  ?zz_174; (case zz_174 => k_is))
    (case aP_steps_175 => refine' U.na_mk  ?zz_176; (case zz_176 => k_is))
    (case iR_177 => k_is)
    (case iR_178 => k_is)
    (case iR_179 => k_is)
    (case iR_180 => k_is)
    (case iW_181 => k_is)
    (case iW_182 => k_is)
    (case iW_183 => k_is)
    (case iW_184 => k_is)
    (case iB_185 => k_is)
    (case iB_186 => k_is)
    (case iB_187 => k_is)
    (case iB_188 => k_is)
    (case kRR_189 => kernel_rfl)
    (case kWR_190 => kernel_rfl)
    (case kBR_191 => kernel_rfl)
    (case kRW_192 => kernel_rfl)
    (case kRB_193 => kernel_rfl)
    (case kWW_194 => kernel_rfl)
    (case kWB_195 => kernel_rfl)
    (case kBW_196 => kernel_rfl)
    (case kBB_197 => kernel_rfl)
    (case cls_198 => k_is)
    (case cls_199 => k_is)
    (case cls_200 => k_is)
    (case cls_201 => k_is)
    (case s_cells_202 => refine' U.na_mk  ?zz_203; (case zz_203 => k_is))
    (case s_programs_204 => refine' U.na_mk  ?zz_205; (case zz_205 => k_is))
    (case s_arities_206 => refine' U.na_mk  ?zz_207; (case zz_207 => k_is))
    (case s_names_208 => refine' U.na_mk  ?zz_209; (case zz_209 => k_is))
    (case naIS_212 => k_is)
    (case naUC_213 => k_is)
    (case naUP_214 => k_is)
    (case xfS_227 => k_is)
    (case xfS_228 => k_is)
    (case xfS_229 => k_is)
    (case xfS_230 => k_is)
    (case xfC_231 => k_is)
    (case xfC_232 => k_is)
    (case xfC_233 => k_is)
    (case xfC_234 => k_is)
    (case ecI_235 => k_is)
    (case ecI_236 => k_is)
    (case ecI_237 => k_is)
    (case ecI_238 => k_is)
    (case ecI_239 => k_is)
    (case ecI_240 => k_is)
    (case ecI_241 => k_is)
    (case ecI_242 => k_is)
    (case ecS_243 => k_is)
    (case ecS_244 => k_is)
    (case ecS_245 => k_is)
    (case ecS_246 => k_is)
    (case ecS_247 => k_is)
    (case ecS_248 => k_is)
    (case ecS_249 => k_is)
    (case ecS_250 => k_is)
    (case ecC_251 => k_is)
    (case ecC_252 => k_is)
    (case ecC_253 => k_is)
    (case ecC_254 => k_is)
    (case ecC_255 => k_is)
    (case ecC_256 => k_is)
    (case ecC_257 => k_is)
    (case ecC_258 => k_is)
    (case ii_259 => kernel_rfl)
    (case si_260 => kernel_rfl)
    (case ss_261 => kernel_rfl)
    (case ci_262 => kernel_rfl)
    (case cs_263 => kernel_rfl)
    (case cc_264 => kernel_rfl)
    (case iw_265 => kernel_rfl)
    (case iS_266 => kernel_rfl)
    (case sw_267 => kernel_rfl)
    (case sC_268 => kernel_rfl)
    (case cw_269 => kernel_rfl)
    (case mkR_272 => k_is)
    (case kcR_273 => k_is)
    (case mkWr_276 => k_is)
    (case kcWr_277 => k_is)
    (case mkB_280 => k_is)
    (case kcB_281 => k_is)
    (case mkPg_284 => k_is)
    (case kcPg_285 => k_is)
    (case mkSy_288 => k_is)
    (case kcSy_289 => k_is)
    (case d_is_name_290 => refine' U.td_mk KX G ?zz_291 ?zz_292 ?zz_293 ?zz_294; (case zz_291 => k_is); (case zz_292 => k_is); (case zz_293 => k_is); (case zz_294 => k_is))
    (case d_parse_header_295 => refine' U.td_mk KX G ?zz_296 ?zz_297 ?zz_298 ?zz_299; (case zz_296 => k_is); (case zz_297 => k_is); (case zz_298 => k_is); (case zz_299 => k_is))
    (case d_parse_steps_300 => refine' U.td_mk KX G ?zz_301 ?zz_302 ?zz_303 ?zz_304; (case zz_301 => k_is); (case zz_302 => k_is); (case zz_303 => k_is); (case zz_304 => k_is))
    (case d_parse_step_305 => refine' U.td_mk KX G ?zz_306 ?zz_307 ?zz_308 ?zz_309; (case zz_306 => k_is); (case zz_307 => k_is); (case zz_308 => k_is); (case zz_309 => k_is))
    (case d_make_read_310 => refine' U.td_mk KX G ?zz_311 ?zz_312 ?zz_313 ?zz_314; (case zz_311 => k_is); (case zz_312 => k_is); (case zz_313 => k_is); (case zz_314 => k_is))
    (case d_make_write_315 => refine' U.td_mk KX G ?zz_316 ?zz_317 ?zz_318 ?zz_319; (case zz_316 => k_is); (case zz_317 => k_is); (case zz_318 => k_is); (case zz_319 => k_is))
    (case d_make_both_320 => refine' U.td_mk KX G ?zz_321 ?zz_322 ?zz_323 ?zz_324; (case zz_321 => k_is); (case zz_322 => k_is); (case zz_323 => k_is); (case zz_324 => k_is))
    (case d_is_argument_part_325 => refine' U.td_mk KX G ?zz_326 ?zz_327 ?zz_328 ?zz_329; (case zz_326 => k_is); (case zz_327 => k_is); (case zz_328 => k_is); (case zz_329 => k_is))
    (case d_check_names_330 => refine' U.td_mk KX G ?zz_331 ?zz_332 ?zz_333 ?zz_334; (case zz_331 => k_is); (case zz_332 => k_is); (case zz_333 => k_is); (case zz_334 => k_is))
    (case d_law_mixed_335 => refine' U.td_mk KX G ?zz_336 ?zz_337 ?zz_338 ?zz_339; (case zz_336 => k_is); (case zz_337 => k_is); (case zz_338 => k_is); (case zz_339 => k_is))
    (case d_law_pool_340 => refine' U.td_mk KX G ?zz_341 ?zz_342 ?zz_343 ?zz_344; (case zz_341 => k_is); (case zz_342 => k_is); (case zz_343 => k_is); (case zz_344 => k_is))
    (case d_law_draw_345 => refine' U.td_mk KX G ?zz_346 ?zz_347 ?zz_348 ?zz_349; (case zz_346 => k_is); (case zz_347 => k_is); (case zz_348 => k_is); (case zz_349 => k_is))
    (case d_law_names_350 => refine' U.td_mk KX G ?zz_351 ?zz_352 ?zz_353 ?zz_354; (case zz_351 => k_is); (case zz_352 => k_is); (case zz_353 => k_is); (case zz_354 => k_is))
    (case d_law_functions_355 => refine' U.td_mk KX G ?zz_356 ?zz_357 ?zz_358 ?zz_359; (case zz_356 => k_is); (case zz_357 => k_is); (case zz_358 => k_is); (case zz_359 => k_is))
    (case d_law_step_360 => refine' U.td_mk KX G ?zz_361 ?zz_362 ?zz_363 ?zz_364; (case zz_361 => k_is); (case zz_362 => k_is); (case zz_363 => k_is); (case zz_364 => k_is))
    (case d_law_steps_365 => refine' U.td_mk KX G ?zz_366 ?zz_367 ?zz_368 ?zz_369; (case zz_366 => k_is); (case zz_367 => k_is); (case zz_368 => k_is); (case zz_369 => k_is))
    (case d_law_line_370 => refine' U.td_mk KX G ?zz_371 ?zz_372 ?zz_373 ?zz_374; (case zz_371 => k_is); (case zz_372 => k_is); (case zz_373 => k_is); (case zz_374 => k_is))
    (case d_law_text_375 => refine' U.td_mk KX G ?zz_376 ?zz_377 ?zz_378 ?zz_379; (case zz_376 => k_is); (case zz_377 => k_is); (case zz_378 => k_is); (case zz_379 => k_is))
    (case d_law_due_380 => refine' U.td_mk KX G ?zz_381 ?zz_382 ?zz_383 ?zz_384; (case zz_381 => k_is); (case zz_382 => k_is); (case zz_383 => k_is); (case zz_384 => k_is))
    (case d_law_outcome_385 => refine' U.td_mk KX G ?zz_386 ?zz_387 ?zz_388 ?zz_389; (case zz_386 => k_is); (case zz_387 => k_is); (case zz_388 => k_is); (case zz_389 => k_is))
    (case m_R_init_390 => refine' U.md_mk  ?zz_391 ?zz_392 ?zz_393 ?zz_394 ?zz_395; (case zz_391 => k_is); (case zz_392 => k_is); (case zz_393 => k_is); (case zz_394 => k_is); (case zz_395 => k_is))
    (case m_R_reads_396 => refine' U.md_mk  ?zz_397 ?zz_398 ?zz_399 ?zz_400 ?zz_401; (case zz_397 => k_is); (case zz_398 => k_is); (case zz_399 => k_is); (case zz_400 => k_is); (case zz_401 => k_is))
    (case m_R_writes_402 => refine' U.md_mk  ?zz_403 ?zz_404 ?zz_405 ?zz_406 ?zz_407; (case zz_403 => k_is); (case zz_404 => k_is); (case zz_405 => k_is); (case zz_406 => k_is); (case zz_407 => k_is))
    (case m_Wr_init_408 => refine' U.md_mk  ?zz_409 ?zz_410 ?zz_411 ?zz_412 ?zz_413; (case zz_409 => k_is); (case zz_410 => k_is); (case zz_411 => k_is); (case zz_412 => k_is); (case zz_413 => k_is))
    (case m_Wr_reads_414 => refine' U.md_mk  ?zz_415 ?zz_416 ?zz_417 ?zz_418 ?zz_419; (case zz_415 => k_is); (case zz_416 => k_is); (case zz_417 => k_is); (case zz_418 => k_is); (case zz_419 => k_is))
    (case m_Wr_writes_420 => refine' U.md_mk  ?zz_421 ?zz_422 ?zz_423 ?zz_424 ?zz_425; (case zz_421 => k_is); (case zz_422 => k_is); (case zz_423 => k_is); (case zz_424 => k_is); (case zz_425 => k_is))
    (case m_B_init_426 => refine' U.md_mk  ?zz_427 ?zz_428 ?zz_429 ?zz_430 ?zz_431; (case zz_427 => k_is); (case zz_428 => k_is); (case zz_429 => k_is); (case zz_430 => k_is); (case zz_431 => k_is))
    (case m_B_reads_432 => refine' U.md_mk  ?zz_433 ?zz_434 ?zz_435 ?zz_436 ?zz_437; (case zz_433 => k_is); (case zz_434 => k_is); (case zz_435 => k_is); (case zz_436 => k_is); (case zz_437 => k_is))
    (case m_B_writes_438 => refine' U.md_mk  ?zz_439 ?zz_440 ?zz_441 ?zz_442 ?zz_443; (case zz_439 => k_is); (case zz_440 => k_is); (case zz_441 => k_is); (case zz_442 => k_is); (case zz_443 => k_is))
    (case m_Pg_init_444 => refine' U.md_mk  ?zz_445 ?zz_446 ?zz_447 ?zz_448 ?zz_449; (case zz_445 => k_is); (case zz_446 => k_is); (case zz_447 => k_is); (case zz_448 => k_is); (case zz_449 => k_is))
    (case m_Sy_init_450 => refine' U.md_mk  ?zz_451 ?zz_452 ?zz_453 ?zz_454 ?zz_455; (case zz_451 => k_is); (case zz_452 => k_is); (case zz_453 => k_is); (case zz_454 => k_is); (case zz_455 => k_is))
    (case m_Sy_take_program_456 => refine' U.md_mk  ?zz_457 ?zz_458 ?zz_459 ?zz_460 ?zz_461; (case zz_457 => k_is); (case zz_458 => k_is); (case zz_459 => k_is); (case zz_460 => k_is); (case zz_461 => k_is))
    (case m_Sy_take_step_462 => refine' U.md_mk  ?zz_463 ?zz_464 ?zz_465 ?zz_466 ?zz_467; (case zz_463 => k_is); (case zz_464 => k_is); (case zz_465 => k_is); (case zz_466 => k_is); (case zz_467 => k_is))
    (case m_Sy_take_function_468 => refine' U.md_mk  ?zz_469 ?zz_470 ?zz_471 ?zz_472 ?zz_473; (case zz_469 => k_is); (case zz_470 => k_is); (case zz_471 => k_is); (case zz_472 => k_is); (case zz_473 => k_is))
    (case b_R_474 => refine' U.cfn_mk  ?zz_475 ?zz_476 ?zz_477 ?zz_478 ?zz_479; (case zz_475 => k_is); (case zz_476 => k_is); (case zz_477 => k_is); (case zz_478 => k_is); (case zz_479 => k_is))
    (case b_Wr_480 => refine' U.cfn_mk  ?zz_481 ?zz_482 ?zz_483 ?zz_484 ?zz_485; (case zz_481 => k_is); (case zz_482 => k_is); (case zz_483 => k_is); (case zz_484 => k_is); (case zz_485 => k_is))
    (case cm_486 => refine' U.cm_mk  ?zz_487 ?zz_488 ?zz_489 ?zz_490 ?zz_491 ?zz_492 ?zz_493 ?zz_494; (case zz_487 => k_is); (case zz_488 => k_is); (case zz_489 => k_is); (case zz_490 => k_is); (case zz_491 => k_is); (case zz_492 => k_is); (case zz_493 => k_is); (case zz_494 => k_is))
    (case a1 => k_is); (case l1 => k_is); (case k1 => k_is); (case k2 => k_is)


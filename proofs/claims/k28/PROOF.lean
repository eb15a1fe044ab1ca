import PyProof.Rows.All
import Wide.All
import OpenK.AllK
import Wide.FinOn
import HandS.ForMost
import HandS.ForExc
import HandS.Wide
import HandS.IsInst
import HandS.Property
import HandS.GenList
import HandS.GenYield
import HandS.Star
import HandS.StrMore
import HandS.Conv
import HandS.Flow
import HandS.TupAny
import HandS.TupMul
import HandS.Deep
import HandS.Evl
import HandS.RaiseMore
import HandS.Zip
import HandS.Walk
import HandS.TryMany
import HandS.ExcInit
import HandS.ExcSuper
import HandS.Strs
import HandS.OwnIter
import HandS.IterNext
import KE.GoesMore
import KE.GoesZip
import HandS.Codes
import HandS.WordsExc
import KE.KSuper
import HandS.Nested
import HandS.ExcIs
import HandS.ExcOwn
import HandS.RaiseFrom
import HandS.HotCalls
import HandS.FStr
import PyProof.FString2
import KE.KWithOwn
import HandS.Finally
import KE.KUnpackStar
import HandS.ClsMeth
import HandS.CallLocal
import KE.GoesEnumKw
import PySem.Challenge.RW_untoldrule_k28_formulas_have_numbers
import HandS.ExcField
import HandS.DictComp
import HandS.ListItems
import HandS.SlotsOwn
import HandS.BoundDict
import HandS.TupLe
import HandS.IterVal
import KE.KCallOwn
import KE.KDictKeyed

set_option Elab.async false
set_option linter.all false
set_option maxRecDepth 100000
set_option maxHeartbeats 2000000
/-! rules of our own: text * int, tuple * int, len(set(texts)) -/
namespace UL
open PySem PySem.Spec PyProof.Rows L2

/-! ### text * 0, text * 1 -/
def rMulS : R2 := fun x y H Q => ∃ z n, x = .str z ∧ y = .int n ∧ ((n = 0 ∧ Q (.str Str.empty) H) ∨ (n = 1 ∧ Q (.str z) H))
theorem op_mulS {X : Cx} : OpR X (binaryOp .Mult) rMulS := by
  intro pins s σ H x y v u Q I rx ry h
  obtain ⟨z, n, rfl, rfl, h⟩ := h
  obtain ⟨t, rfl⟩ := rx
  obtain ⟨t', rfl⟩ := ry
  rcases h with ⟨rfl, q⟩ | ⟨rfl, q⟩
  · exact P.mul_str_none (by decide) (by decide) ⟨.str Str.empty, H, I.tok _, ⟨_, rfl⟩, q⟩
  · refine P.mul_str (by decide) (fun _ e => ?_) (fun _ e => ?_) ?_
    · simp at e
    · simp at e
    · rw [if_neg (by decide), if_pos (by simp)]
      exact ⟨.str z, H, I, ⟨_, rfl⟩, q⟩

/-! ### tuple * int -/
theorem tuple_mul1 (l : Addr) (items : Array Value) (n : Nat) (dd : Option Addr) (sl : Array (Option Value)) (x : Int) (u : Tok) (c0 : (decide (x < -(2 ^ 63)) || decide (x ≥ 2 ^ 63)) = false) (c1 : (items.isEmpty || x == 1) = true) :
    Meets (Builtin.«tuple.__mul__» ⟨[.ref l, .int x u], []⟩) (fun _ R s => s.heap.get? l = some { cls := .type "tuple", dict := dd, data := .seq items n, slots := sl } ∧
      R (.ok (.ret (Value.ref l))) s) :=
  .of_wp fun prog w A R s h => by
    obtain ⟨hp, g, d, tk, os⟩ := s
    obtain ⟨hl, h⟩ := h
    have f1 := AutoSeq1.idx_int
    wp_walk using wpAny_loadPart' hl
    repeat (first
      | (refine wpAny_ite_false (decide_eq_false (by rw [c0]; exact Bool.false_ne_true)) ?_; wp_walk using wpAny_loadPart' hl)
      | (refine wpAny_ite_true (decide_eq_true c1) ?_; wp_walk using wpAny_loadPart' hl))
    exact ⟨_, rfl, h⟩
/-- the answer is a tuple of the items so often: a new one, or the same -/
def rRepU (K : PySem.W.Frag) : R2 := fun x y H Q => ∃ l k xs, x = .ref l ∧ y = .int k ∧ SqT K H l xs ∧ xs ≠ [] ∧ 1 ≤ k ∧ k ≤ 1000 ∧ xs.length ≤ 1000 ∧ (k = 1 → Q (.ref l) H) ∧ (2 ≤ k → ∀ p, H p = none → Q (.ref p) (upd H p (.tup (List.replicate k.toNat xs).flatten)))
theorem op_repU {X : Cx} : OpR X (binaryOp .Mult) (rRepU X.K) := by
  intro pins s σ H x y v u Q I rx ry h
  obtain ⟨l, k, xs, rfl, rfl, hT, hne, h1, h2, hz, q1, q2⟩ := h
  by_cases hk : k = 1
  · subst hk
    cases rx
    obtain ⟨t, rfl⟩ := ry
    obtain ⟨its, r, ⟨⟨cls, dd, data, sl⟩, ho, hc, n, hd⟩, hs⟩ := I.tuple hT
    simp only at hc hd
    subst hc hd
    have c0 : (decide ((1 : Int) < -(2 ^ 63)) || decide ((1 : Int) ≥ 2 ^ 63)) = false := by decide
    have c1 : (its.toArray.isEmpty || (1 : Int) == 1) = true := by simp
    refine wpAny_binaryOp_repeat_ref (T := "tuple") (U := "int") (by decide) ⟨_, ho, rfl⟩ (fun s' => typeIs_int s' 1 t) noFill_tuple_mul F.fills_int_mul F.slot_int_rmul repeat_tuple F.slot_int_index.lookup
      (call_meets F.slot_int_rmul (typeIs_int s 1 t) F.entry_int_rmul (F.args_int_rmul_2 _ _) (int_rmul_tuple 1 t l its.toArray n dd sl)
        ⟨ho, rfl, ⟨_, ho, rfl⟩, call_meets F.slot_tuple_mul ⟨_, ho, rfl⟩ F.entry_tuple_mul (F.args_tuple_mul_2 _ _) (tuple_mul1 l its.toArray n dd sl 1 t c0 c1) ⟨ho, ?_⟩⟩)
    exact ⟨.ref l, H, I, rfl, q1 rfl⟩
  · exact op_repT pins s σ H _ _ v u Q I rx ry ⟨l, k, xs, rfl, rfl, hT, hne, by omega, h2, hz, fun p hp => q2 (by omega) p hp⟩
end UL

/-! ### len(set(texts)) -/
namespace UL
open PySem PySem.Spec PyProof.Rows
/-- the texts met so far, each once -/
def met (xs : List Str) : List Str := xs.foldl (fun acc x => if acc.any (· == x) then acc else acc ++ [x]) []
theorem met_snoc (xs : List Str) (x : Str) : met (xs ++ [x]) = if (met xs).any (· == x) then met xs else met xs ++ [x] := by
  unfold met
  rw [List.foldl_append]
  rfl
theorem met_len (xs : List Str) : (met xs).length ≤ xs.length := by
  have h : ∀ (ys acc : List Str), (ys.foldl (fun acc x => if acc.any (· == x) then acc else acc ++ [x]) acc).length ≤ acc.length + ys.length := by
    intro ys
    induction ys with
    | nil => intro acc; simp
    | cons y r ih =>
      intro acc
      rw [List.foldl_cons]
      refine Nat.le_trans (ih _) ?_
      split <;> simp only [List.length_append, List.length_cons, List.length_nil] <;> omega
  simpa [met] using h xs []
theorem met_take (xs : List Str) {i : Nat} (h : i < xs.length) (k : Str) :
    (((met (xs.take i)).any (· == k) || decide (k = xs.getD i Str.empty)) = (met (xs.take (i + 1))).any (· == k)) ∧
      (if (met (xs.take i)).any (· == xs.getD i Str.empty) = true then (met (xs.take i)).length else (met (xs.take i)).length + 1) = (met (xs.take (i + 1))).length := by
  have hx : xs[i]? = some (xs.getD i Str.empty) := by
    rw [List.getD_eq_getElem?_getD]; simp [h]
  have ht : xs.take (i + 1) = xs.take i ++ [xs.getD i Str.empty] := by
    rw [List.take_add_one, hx]; rfl
  rw [ht, met_snoc]; generalize xs.getD i Str.empty = x
  by_cases e : (met (xs.take i)).any (· == x) = true
  · rw [if_pos e, if_pos e]
    refine ⟨?_, rfl⟩
    by_cases e2 : k = x
    · subst e2; simp [e]
    · simp [e2]
  · rw [if_neg e, if_neg e, List.any_append]
    refine ⟨?_, by simp⟩
    by_cases e2 : k = x
    · subst e2; simp
    · have hb : (x == k) = false := beq_eq_false_iff_ne.mpr fun z => e2 z.symm
      simp [e2, hb]
section
variable {prog : Program} {w : World} {A : Around} {E : Value → Shared → Prop} {s : Shared} {I : Addr} {fp wr : List Addr} {G : Array GenState → Array GenState → Prop} {n : Nat} {P : Nat → Value → Prop} {St : Nat → Shared → Prop}
/-- the set at S holds the first i texts -/
def Holds (prog : Program) (w : World) (S : Addr) (xs : List Str) (i : Nat) (h : Heap) : Prop := h.SetOf (PySem.strKind prog w) S (fun k => (met (xs.take i)).any (· == k)) (met (xs.take i)).length
theorem Holds.at {S : Addr} {xs : List Str} {i : Nat} {h h' : Heap} (x : Holds prog w S xs i h) (k : ∀ o, h.get? S = some o → h'.get? S = some o) : Holds prog w S xs i h' := by
  obtain ⟨o, es, ep, t, ho, r⟩ := x; exact ⟨o, es, ep, t, k o ho, r⟩
/-- the walk that fills a set with texts, from turn i on -/
theorem fills (W : WalksS prog w A.in1 I fp wr G n P St) {S : Addr} (hS : S ∉ fp) {xs : List Str} (hl : xs.length = n) (hb : n + 1 < scanBound) (hv : ∀ i v, P i v → ∃ t, v = .str (xs.getD i Str.empty) t) {R : Result → Shared → Prop} :
    ∀ (d i : Nat) (s : Shared), i + d = n → St i s → Holds prog w S xs i s.heap → (∀ s', Moved (S :: wr) G s s' → Holds prog w S xs n s'.heap → R (.ok (.ret .none)) s') →
      codeAny (model prog w) A (.builtin "set.update.loop" ⟨[.ref S, .ref I], []⟩) R s := by
  have nw : S ∉ wr := fun z => hS (W.sub _ z)
  have up : ∀ b ∈ wr, b ∈ S :: wr := fun b z => List.mem_cons_of_mem _ z
  intro d
  induction d with
  | zero =>
    intro i s e st hd hR
    cases (show i = n from e)
    refine codeAny_builtin PyProof.Rows.F.entry_set_update_loop ?_; rw [Around.under_plainId PyProof.Rows.F.plain_set_update_loop _]
    refine wpAny_bind (m := pyNext (.ref I)) (W.done s _ _ st fun s' m => wpAny_pure (hR s' (m.mono up) (hd.at fun o q => m.heap S o nw q)))
  | succ d ih =>
    intro i s e st hd hR
    have lt : i < n := by omega
    refine codeAny_builtin PyProof.Rows.F.entry_set_update_loop ?_; rw [Around.under_plainId PyProof.Rows.F.plain_set_update_loop _]
    refine wpAny_bind (m := pyNext (.ref I)) (W.item i s _ _ lt st fun v s' p st' m => ?_)
    obtain ⟨t, rfl⟩ := hv i v p
    have ml : (met (xs.take i)).length ≤ i := Nat.le_trans (met_len _) (by rw [List.length_take]; omega)
    refine wpAny_bind (m := holding [Value.str (xs.getD i Str.empty) t] (setAdd S (.str (xs.getD i Str.empty) t))) (wpAny_holding ?_)
    unfold setAdd
    refine wpAny_holding (wpAny_bind ((PySem.strKind prog w).pyHash (k := xs.getD i Str.empty) (strKind_is _ _ _ _) ?_))
    have hd' : Holds prog w S xs i s'.heap := hd.at fun o q => m.heap S o nw q
    refine wpAny_setAddHashed_of (knd := PySem.strKind prog w) (s := { s' with toks := s'.toks + 1 }) (strKind_is _ _ _ _) rfl hd' (by omega) fun h' sb new => ?_
    have hd2 : Holds prog w S xs (i + 1) h' := by
      obtain ⟨o, es, ep, tb, ho, r⟩ := new
      have e1 := fun k => (met_take xs (show i < xs.length by omega) k).1
      have e2 := (met_take xs (show i < xs.length by omega) Str.empty).2
      exact SetOf_congr ⟨o, es, ep, tb, ho, r⟩ e1 e2
    have off : ∀ b, b ∈ fp → b ≠ S := fun b z q => hS (q ▸ z)
    refine wpAny_pure ⟨plainId_quiet PyProof.Rows.F.plain_set_update_loop _, ih (i + 1) _ (by omega) (W.frame _ s' _ _ st' (Nat.le_succ _) fun b z o q => (sb.2 b (off b z)).trans q) hd2 fun s2 m2 q2 => hR s2 ?_ q2⟩
    exact Moved.trans W.gtrans ((m.mono up).then_heap (Nat.le_succ _) fun b o z q => (sb.2 b fun y => z (y ▸ List.mem_cons_self)).trans q) m2
/-- set(x): a new set, then its __init__ -/
theorem call_set1 {x : Value} {Q : Value → Shared → Prop} (h : ∀ led : Bool, wpAny (model prog w) A.in1.in1 (Builtin.«set.__init__» ⟨[.ref s.heap.objs.size, x], []⟩)
      (fun fin s' => match fin with | .done f => wants (fun r s₂ => r = .none ∧ Q (.ref s.heap.objs.size) s₂) E (.ok f) s' | .again c' => c'.quiet = true ∧ codeAny (model prog w) A.in1 c' (wants (fun r s₂ => r = .none ∧ Q (.ref s.heap.objs.size) s₂) E) s')
      (fun e s' => wants (fun r s₂ => r = .none ∧ Q (.ref s.heap.objs.size) s₂) E (.error e) s') { s with heap := s.heap.push { cls := .type "set", dict := none, data := .set #[] 0 (.fresh 0 0 led) } }) :
    wpAny (model prog w) A (call (.type "set") [x]) Q E s := by
  have ⟨c, tl, hmro⟩ := PySem.F.called_set.mro; have hmade := PySem.F.called_set.made; have hsub := PySem.F.called_set.sub
  refine wpAny_call (codeAny_of_tree (wpAny_pure ⟨Code.quiet_builtin _ (by decide +kernel), codeAny_builtin PySem.F.entry_type_call ?_⟩))
  rw [Around.under_plain (weight_type_call_type "set" [x] []) rfl]
  have h1 := PySem.F.called_set.notType; have h2 := PySem.F.called_set.canCreate; have hct := PySem.F.typeCall_set_1 x
  repeat (any_goals (first | assumption | wp_step))
  refine codeAny_mono (code_set_new_1 x (E := E) (Q₁ := fun obj s₁ => ∃ led : Bool, obj = .ref s.heap.objs.size ∧ s₁ = { s with heap := s.heap.push { cls := .type "set", dict := none, data := .set #[] 0 (.fresh 0 0 led) } }) fun led => ⟨led, rfl, rfl⟩) fun r s₁ hr => ?_
  match r, hr with
  | .error e, hr => exact hr
  | .ok .next, hr | .ok .brk, hr | .ok .cont, hr => exact hr.elim
  | .ok (.ret obj), ⟨led, e1, e2⟩ =>
    subst e1 e2
    have hT : Shared.TypeIs { s with heap := s.heap.push { cls := .type "set", dict := none, data := .set #[] 0 (.fresh 0 0 led) } } (.ref s.heap.objs.size) "set" := ⟨_, Heap.get?_push_size _ rfl, rfl⟩
    have hli := PySem.F.called_set.init.lookup; have hbi := PySem.F.called_set.init.bind (.ref s.heap.objs.size)
    repeat (any_goals (first | assumption | wp_step))
    refine codeAny_mono (codeAny_call_builtin PySem.F.called_set.init.plain PySem.F.entry_set_init (check_set_init_1 hT (h led))) fun r₂ s₂ hr₂ => ?_
    match r₂, hr₂ with
    | .error e, hr₂ => exact hr₂
    | .ok .next, hr₂ | .ok .brk, hr₂ | .ok .cont, hr₂ => exact hr₂.elim
    | .ok (.ret r), ⟨e1, hq⟩ =>
      subst e1
      repeat (any_goals (first | assumption | wp_step))

abbrev freshSet (led : Bool) : Obj := { cls := .type "set", dict := none, data := .set #[] 0 (.fresh 0 0 led) }
/-- the same of a list, of a tuple -/
theorem call_set_strs {l : Addr} {items : Array Value} {xs : List Str} {Q : Value → Shared → Prop} (hh : A.handled = none) (hl : s.heap.IsList l items ∨ s.heap.IsTuple l items) (hi : StrsAre items.toList xs) (hb : items.size + 1 < scanBound)
    (h : ∀ (h' : Heap) (tk : Nat), Holds prog w s.heap.objs.size xs items.size h' → (∀ b o, b < s.heap.objs.size → s.heap.get? b = some o → h'.get? b = some o) → Q (.ref s.heap.objs.size) { s with heap := h', toks := tk }) :
    wpAny (model prog w) A (call (.type "set") [.ref l]) Q E s := by
  have hsz : xs.length = items.size := by rw [← StrsAre.len_eq hi, Array.length_toList]
  have hval : ∀ (i : Nat) (v : Value), items[i]? = some v → ∃ t, v = .str (xs.getD i Str.empty) t := fun i v hv => SS.strs_at hi i v (by rw [Array.getElem?_toList]; exact hv)
  have h3 : A.in1.in1.in1.handled = none := by simp [hh]
  refine call_set1 fun led => ?_
  have gS : (s.heap.push (freshSet led)).get? s.heap.objs.size = some (freshSet led) := Heap.get?_push_size _ rfl
  -- once an iterator stands behind the set
  have fin : ∀ (cl : String) (vs : Array Value) (l0 : Addr) (P : Nat → Value → Prop) (St : Nat → Heap → Prop), (∀ i v, P i v → ∃ t, v = .str (xs.getD i Str.empty) t) →
      Walks prog w A.in1.in1.in1 (s.heap.objs.size + 1) [s.heap.objs.size + 1, l0] [s.heap.objs.size + 1] items.size P St → l0 < s.heap.objs.size → St 0 ((s.heap.push (freshSet led)).push { cls := .type cl, data := .fields vs }) →
      codeAny (model prog w) A.in1.in1 (.builtin "set.update.loop" ⟨[.ref s.heap.objs.size, .ref (s.heap.objs.size + 1)], []⟩) (fun r s' => r = .ok (.ret .none) ∧ ∃ h' tk, s' = { s with heap := h', toks := tk } ∧ Holds prog w s.heap.objs.size xs items.size h' ∧
        (∀ b o, b < s.heap.objs.size → s.heap.get? b = some o → h'.get? b = some o)) { s with heap := (s.heap.push (freshSet led)).push { cls := .type cl, data := .fields vs } } := by
    intro cl vs l0 P St hP W hl0 st
    refine fills W.toS (by simp only [List.mem_cons, List.not_mem_nil, or_false, not_or]; exact ⟨Nat.ne_of_lt (Nat.lt_succ_self _), Nat.ne_of_gt hl0⟩) hsz hb hP items.size 0 _ (by omega) st ?_ fun s' m q => ?_
    · exact SetOf_congr ((setObjOf_fresh (knd := PySem.strKind prog w) led).setOf (Heap.get?_push_of_some _ gS) (by unfold scanBound; omega)) (fun _ => rfl) rfl
    · obtain ⟨h', g', d', tk', os'⟩ := s'
      cases (show g' = s.gens from m.gens); cases (show d' = s.drawn from m.drawn); cases (show os' = s.os from m.os)
      refine ⟨rfl, h', tk', rfl, q, fun b o lt e => m.heap b o ?_ (Heap.get?_push_of_some _ (Heap.get?_push_of_some _ e))⟩
      simp only [List.mem_cons, List.not_mem_nil, or_false, not_or]; exact ⟨Nat.ne_of_lt lt, Nat.ne_of_lt (Nat.lt_succ_of_lt lt)⟩
  have push1 : (s.heap.push (freshSet led)).objs.size = s.heap.objs.size + 1 := Heap.size_push _ _
  have gI : ∀ (cl : String) (vs : Array Value), ((s.heap.push (freshSet led)).push { cls := .type cl, data := .fields vs }).get? (s.heap.objs.size + 1) = some { cls := .type cl, data := .fields vs } := fun cl vs => by
    have g := Heap.get?_push_size (s.heap.push (freshSet led)) (o := { cls := .type cl, data := .fields vs }) rfl
    rwa [push1] at g
  rcases hl with ⟨⟨ocls, odict, odata, oslots⟩, ho, hc, nl, hd⟩ | ⟨⟨ocls, odict, odata, oslots⟩, ho, hc, nl, hd⟩
  all_goals (simp only at hc hd; subst hc hd)
  · have ho' := Heap.get?_push_of_some (freshSet led) ho
    have hl1 : (s.heap.push (freshSet led)).IsList l items := ⟨_, ho', rfl, nl, rfl⟩
    have f1 := PySem.F.sub_list_set; have f2 := PySem.F.sub_list_frozenset; have f3 : (Value.type "list" == Value.type "dict") = false := by decide
    unfold Builtin.«set.__init__» noKeywords Builtin.Frozenset.updateFrom; generalize hPI : pyIter = PI; wp_walk; subst hPI
    refine wpAny_pyIter_list hl1 (wpAny_bind (wpAny_runValue ?_))
    rw [push1]
    have lt := Heap.lt_size ho
    refine codeAny_mono (fin _ _ l _ _ hval (Walks.list h3 _ l (Nat.ne_of_lt (Nat.lt_succ_of_lt lt)) items) lt ⟨⟨_, gI _ _, rfl, rfl⟩, hl1.push _⟩) fun r s' q => ?_
    obtain ⟨e1, h', tk, e2, q1, q2⟩ := q
    subst e1 e2
    exact wpAny_pure (wpAny_pure ⟨rfl, h h' tk q1 q2⟩)
  · have ho' := Heap.get?_push_of_some (freshSet led) ho
    have hl1 : (s.heap.push (freshSet led)).IsTuple l items := ⟨_, ho', rfl, nl, rfl⟩
    have f1 : isSubtype (.type "tuple") (.type "set") = pure false := by rw [isSubtype_type]; kernel_rfl
    have f2 : isSubtype (.type "tuple") (.type "frozenset") = pure false := by rw [isSubtype_type]; kernel_rfl
    have f3 : (Value.type "tuple" == Value.type "dict") = false := by decide
    unfold Builtin.«set.__init__» noKeywords Builtin.Frozenset.updateFrom; generalize hPI : pyIter = PI; wp_walk; subst hPI
    refine wpAny_pyIter_tuple hl1 (wpAny_bind (wpAny_runValue ?_))
    rw [push1]
    have lt := Heap.lt_size ho
    refine codeAny_mono (fin _ _ l _ _ hval (Walks.tuple h3 _ l (Nat.ne_of_lt (Nat.lt_succ_of_lt lt)) items) lt ⟨⟨_, gI _ _, rfl, rfl⟩, hl1.push _⟩) fun r s' q => ?_
    obtain ⟨e1, h', tk, e2, q1, q2⟩ := q
    subst e1 e2
    exact wpAny_pure (wpAny_pure ⟨rfl, h h' tk q1 q2⟩)
end
section
open L2
variable {X : Cx}
theorem strs_of_vals : ∀ {zs : List Str} {us : List Value}, Vals (zs.map V.str) us → StrsAre us zs
  | [], _, .nil => .nil
  | z :: zs, _, .cons r t => by obtain ⟨tk, rfl⟩ := r; exact .cons _ _ (strs_of_vals t)
def tLenSetS (K : PySem.W.Frag) (ta : TE) : TE := fun σ H Q => ta σ H fun x H1 => ∃ (l : Addr) (zs : List Str), x = V.ref l ∧ (SqL K H1 l (zs.map V.str) ∨ SqT K H1 l (zs.map V.str)) ∧ zs.length < 64 ∧ Q (.int (met zs).length) H1
theorem pe_lenSetS {a : Expr} {ta : TE} {p p2 q pos : Pos} (hc : X.calm = true) (hg : Gl X "len") (hm : X.mg "len" = none) (hg2 : Gl X "set") (hm2 : X.mg "set" = none) (ha : PE X a ta)
    (na : starEach [a] X.env = (false, eval a X.env) :: starEach [] X.env := by rfl) : PE X (.Call (.Name "len" p) [.Call (.Name "set" p2) [a] [] q] [] pos) (tLenSetS X.K ta) := by
  refine ⟨fun pins s σ H Q I h => Call_ (ld_blt I hg hm PySem.boot_len (callWith_builtin1 (args_cons (Call_ (ld_blt I hg2 hm2 boot_set ?_)) rfl) rfl rfl))⟩
  refine callWith_type1 (args_cons (thn (ha.run pins s σ H _ I h) fun v s1 ⟨x, H1, I1, r1, q1⟩ => args_nil ?_) na) na rfl
  obtain ⟨l, zs, rfl, hq, hn, q1⟩ := q1
  cases r1
  have go : ∀ its : List Value, Vals (zs.map V.str) its → (s1.heap.IsList l its.toArray ∨ s1.heap.IsTuple l its.toArray) → its.length = zs.length := fun its r _ => by rw [← r.length, List.length_map]
  obtain ⟨its, r, pl⟩ : ∃ its : List Value, Vals (zs.map V.str) its ∧ (s1.heap.IsList l its.toArray ∨ s1.heap.IsTuple l its.toArray) := by
    rcases hq with hq | hq
    · obtain ⟨its, r, pl, _⟩ := I1.list hq; exact ⟨its, r, .inl pl.isList⟩
    · obtain ⟨its, r, pl, _⟩ := I1.tuple hq; exact ⟨its, r, .inr pl⟩
  have hl : its.toArray.size = zs.length := by rw [List.size_toArray, ← r.length, List.length_map]
  refine call_set_strs (I1.ok.hd hc) pl (xs := zs) (by simpa using strs_of_vals r) (by unfold scanBound; omega) fun h' tk hS hk => args_nil ?_
  rw [hl] at hS
  unfold Holds at hS
  rw [List.take_length] at hS
  obtain ⟨o, es, ep, t, ho, hex, hd, _, _, _, hf, hn2⟩ := hS
  have I2 : Inv X pins σ H1 { s1 with heap := h', toks := tk } := I1.kept fun b o e => hk b o (Heap.lt_size e) e
  have := met_len zs
  exact call_len_set ho hex hd hf (by rw [hn2] <;> omega) ⟨.int (met zs).length, H1, I2.tok _, ⟨_, by rw [hn2]⟩, q1⟩
end
end UL

set_option Elab.async false
set_option linter.all false
set_option maxRecDepth 100000
set_option maxHeartbeats 2000000
/-! own __getitem__, __setitem__, __iter__ -/
namespace UL
open PySem PySem.Spec PyProof.Rows L2
section
variable {X : Cx} {CX : CXT} {k : Nat} {C f a dx : Addr} {fs : List (Str × V)} {fd : FuncData} {ps : List Str} {sp : Sp} {E : XK} {pins : List (Addr × Obj)} {σ : L2.St} {H : Hp} {s : Shared}

/-- a def called one level down (in1), on values -/
theorem run_in1 {Q : VK} {us : List Value} {vs : List V} (F : FnOk X.prog X.w X.K X.mg X.base CX k f fd ps sp) (hr : Room (k + 1) X.A) (hb : Binds X.K fd ps []) (hx : Passes CX X E)
    (I : Inv X pins σ H s) (r : Vals vs us) (h : sp vs H Q E) : wpAny (model X.prog X.w) X.A.in1 (call (.ref f) us) (EP X pins σ Q) X.xe s := by
  have hl : (us ++ []).length = ps.length := by rw [List.append_nil, ← r.length]; exact F.len _ _ _ _ h
  have hb' := hb s us I.kIn hl
  rw [List.append_nil] at hb'
  refine wpAny_call (codeAny_mono (F.run X.A.in1 X.stack s H ⟨us, []⟩ us vs Q E hr.in1 I.env0.in1 hb' r h) fun r s' hq => ?_)
  match r, hq with
  | .error e, hq => exact hx pins σ H s e s' I hq
  | .ok (.ret u), hq => exact I.after hq
  | .ok .next, hq | .ok .brk, hq | .ok .cont, hq => exact hq.elim
theorem inst_of (I : Inv X pins σ H s) (e : H a = some (.ins C dx fs)) : ∃ od, PySem.W.InstAt s.heap a (PySem.W.instObj C dx) C (some od) := by
  obtain ⟨mA, O, _⟩ := ins_get I.hok e
  obtain ⟨od, J, _⟩ := O.look
  exact ⟨od, J⟩

/-! ### o[i] by an own __getitem__ -/
structure GetO (K : PySem.W.Frag) (C f : Addr) : Prop where
  at_ : PySem.W.findIn K (.ref C) "__getitem__" = some (some (.ref f))
  fn : PySem.W.fnIn K f = true
  is : PySem.W.isFn K (.ref f) = true
def tSubO (C : Addr) (sp : Sp) (E : XK) (ta tb : TE) : TE := fun σ H Q => ta σ H fun x H1 => tb σ H1 fun y H2 => ∃ a dx fs, x = .ref a ∧ H2 a = some (.ins C dx fs) ∧ sp [.ref a, y] H2 Q E
theorem pe_subO {ea eb : Expr} {ta tb : TE} {pos : Pos} (ha : PE X ea ta) (hb : PE X eb tb) (c : GetO X.K C f) (F : FnOk X.prog X.w X.K X.mg X.base CX k f fd ps sp) (hr : Room (k + 1) X.A) (bn : Binds X.K fd ps []) (hx : Passes CX X E)
    (hs : ∀ o i, subscripted eb true o i = runValue (.builtin "lifetime.subscript" ⟨[o, i], []⟩)) : PE X (.Subscript ea eb pos) (tSubO C sp E ta tb) := by
  refine ⟨fun pins s σ H Q I h => Subscript_ (binT ha hb I h fun v u s2 x y H2 I2 rx ry q => ?_)⟩
  obtain ⟨a, dx, fs, e, ho, q⟩ := q
  subst e
  cases rx
  obtain ⟨od, J⟩ := inst_of I2 ho
  obtain ⟨m, hF⟩ := I2.fr
  exact PySem.W.sub_K hF I2.ok.mod.kin J c.at_ c.fn c.is (run_in1 (us := [.ref a, u]) (vs := [.ref a, y]) F hr bn hx I2 (.cons rfl (.cons ry .nil)) q) (hs _ _)

/-! ### o[i] = v by an own __setitem__ -/
structure SetO_ (K : PySem.W.Frag) (C f : Addr) : Prop where
  sq : PySem.W.noSeq K C = true
  at_ : PySem.W.findIn K (.ref C) "__setitem__" = some (some (.ref f))
  is : PySem.W.isFn K (.ref f) = true
def rSetO (C : Addr) (sp : Sp) (E : XK) : TSet := fun o i v H Q => ∃ a dx fs, o = .ref a ∧ H a = some (.ins C dx fs) ∧ sp [.ref a, i, v] H (fun _ H' => Q H') E
theorem set_own (c : SetO_ X.K C f) (F : FnOk X.prog X.w X.K X.mg X.base CX k f fd ps sp) (hr : Room k X.A) (bn : Binds X.K fd ps []) (hx : Passes CX X E) : PSet X (rSetO C sp E) := by
  intro pins s σ H o i v ov iv u Q I ro ri rv h
  obtain ⟨a, dx, fs, e, ho, q⟩ := h
  subst e
  cases ro
  obtain ⟨od, J⟩ := inst_of I ho
  obtain ⟨m, hF⟩ := I.fr
  refine PySem.W.ksp_setItem hF I.ok.mod.kin J c.sq c.at_ c.is (thn (run_fn (us := [.ref a, iv, u]) (vs := [.ref a, i, v]) F hr bn .nil hx I (.cons rfl (.cons ri (.cons rv .nil))) q) fun z s' hz => ?_)
  obtain ⟨_, H', I', _, q'⟩ := hz
  exact ⟨H', I', q'⟩

/-! ### iter(a tuple) -/
def ItT (t it : Addr) (i : Nat) : HO := .ext fun h => h.IsTupleIter it t i
/-- something that nobody asks for any more -/
def Gone : HO := .ext fun _ => True
theorem itT_ok {P : Program} {w : World} {H : Hp} {h : Heap} {t it : Addr} {i : Nat} (e : h.IsTupleIter it t i) : ObjOk P w H h it (ItT t it i) := ⟨e, let ⟨o, z, _⟩ := e; ⟨o, z⟩, fun _ _ q k => q.at k⟩
def rIterT (K : PySem.W.Frag) : List V → Hp → VK → Prop := fun xs H Q => ∃ (t : Addr) (zs : List V), xs = [.ref t] ∧ SqT K H t zs ∧ ∀ it, H it = none → Q (.ref it) (upd H it (ItT t it 0))
theorem call_iterT : CallR X (.builtin "iter") (rIterT X.K) := by
  intro pins s σ H xs us Q I r h
  obtain ⟨t, zs, e, hq, q⟩ := h
  subst e
  obtain rfl := Vals.ref1 r
  obtain ⟨its, rv, pl, hz⟩ := I.tuple hq
  refine Calls.call_function_entry (by decide +kernel) (by decide +kernel) PySem.W.kdk_entry_iter (PySem.W.kdk_args_iter _) ?_
  unfold Builtin.«iter»
  refine wpAny_bind (m := someArgs "iter" 1 2 _) (wpAny_of_eq (a := [Value.ref t]) (by first | rfl | kernel_rfl!) (wpAny_bind (m := pyIter (.ref t)) (wpAny_pyIter_tuple (show s.heap.IsTuple t its.toArray from pl) (wpAny_pure ⟨_, rfl, ?_⟩))))
  exact ⟨.ref s.heap.objs.size, _, I.laid (t' := s.toks) (fun b u e => Heap.get?_push_of_some _ e) (Nat.le_refl _) (itT_ok ⟨_, Heap.get?_push_size _ rfl, rfl, rfl⟩), rfl, q _ (I.hok.fresh (Nat.le_refl _))⟩

/-! ### list(o), where o's own __iter__ hands back an iterator over a tuple -/
structure IterO (K : PySem.W.Frag) (C f : Addr) : Prop where
  it : PySem.W.findIn K (.ref C) "__iter__" = some (some (.ref f))
  is : PySem.W.isFn K (.ref f) = true
  nolen : PySem.W.findIn K (.ref C) "__len__" = some none
  nohint : PySem.W.findIn K (.ref C) "__length_hint__" = some none
def rListO (K : PySem.W.Frag) (C : Addr) (sp : Sp) (E : XK) : List V → Hp → VK → Prop := fun xs H Q => ∃ a dx fs, xs = [.ref a] ∧ H a = some (.ins C dx fs) ∧ ∀ q, H q = none →
  sp [.ref a] (upd H q (.lst [])) (fun v H1 => ∃ it t zs, v = .ref it ∧ H1 a = some (.ins C dx fs) ∧ H1 q = some (.lst []) ∧ H1 it = some (ItT t it 0) ∧ SqT K H1 t zs ∧ it ≠ t ∧ zs.length ≤ sizeLine ∧ Q (.ref q) (upd (upd H1 it Gone) q (.lst zs))) E
theorem next_tup : typeLookup (.type "tuple_iterator") "__next__" = pure (some (.builtin "tuple_iterator.__next__")) := by rw [typeLookup_type, builtinLookup_eq_fast]; kernel_rfl
theorem upd_self {H : Hp} {a : Addr} {o : HO} (h : H a = some o) : upd H a o = H := by
  funext b
  by_cases e : b = a
  · rw [e, upd_same, h]
  · rw [upd_ne e]
/-- a tuple's iterator at its end: it stays an object -/
theorem tup_end {A : Around} {E' : Value → Shared → Prop} {it t : Addr} {i : Nat} {items : Array Value} {Q : Option Value → Shared → Prop} (hh : A.handled = none) (hit : s.heap.IsTupleIter it t i) (ht : s.heap.IsTuple t items) (hx : items[i]? = none)
    (hQ : ∀ h', Heap.ExtBut it s.heap h' → (∃ o, h'.get? it = some o) → Q none { s with heap := h' }) : wpAny (model X.prog X.w) A (pyNext (.ref it)) Q E' s := by
  have ⟨o, ho, hc, hd⟩ := hit; have ⟨ol, hol, _, nl, hdl⟩ := ht
  have e0 : ¬ ((Value.ref t == Value.none) = true) := Bool.false_ne_true
  unfold pyNext
  refine wpAny_bind (wpAny_attempt (wpAny_callSpecial?_slot (name := Str.ofString "__next__") hit.typeIs PySem.F.slot_tuple_iterator_next (wpAny_call_entry PySem.F.slot_tuple_iterator_next hit.typeIs PySem.F.entry_tuple_iterator_next ?_ (PySem.F.args_tuple_iterator_next_1 _))))
  refine wpAny_bind (m := field (.ref it) 0) (wpAny_field ho hd (x := .ref t) rfl ?_)
  show wpAny _ _ (if (Value.ref t == Value.none) = true then _ else _) _ _ s; rw [if_neg e0]
  refine wpAny_bind (m := field (.ref it) 1) (wpAny_field ho hd (x := .int i 0) rfl (wpAny_bind (m := seqItems? (.ref t)) (wpAny_seqItems hol hdl ?_)))
  simp only [Int.toNat_natCast, hx]
  refine wpAny_bind (wpAny_rule (wpAny_bind (wpAny_setField ho hd (by simp) (wpAny_bind (m := newExc (.type "StopIteration") []) ?_))))
  simp only [newExc, newTuple]
  refine wpAny_bind (wpAny_newObj_type (wpAny_bind (m := firstArgMember _ _) (wpAny_of_eq (a := Value.none) (by first | rfl | (simp only [firstArgMember]; rfl)) (wpAny_newObj_type ?_ (by size_fits)))) (by size_fits))
  simp only [raiseNew]; refine wpAny_bind (wpAny_handled ?_); rw [show A.in1.handled = none from hh]
  refine wpAny_bind (wpAny_pure (wpAny_throw ?_)); refine wpAny_bind (wpAny_isInstance (T := "StopIteration") (b := true) ⟨_, Heap.get?_push_size _ rfl, rfl⟩ isSubtype_stop (wpAny_pure (hQ _ (((Heap.SameBut.update ..).extBut.push _).push _) ?_)))
  exact ⟨_, Heap.get?_push_of_some _ (Heap.get?_push_of_some _ (Heap.get?_update_self _ ho (by obtain ⟨c, d, dt, sl⟩ := o; simp only at hd; subst hd; rfl)))⟩
section
variable {A1 : Around} {q it t : Addr} {zs : List V} {Rs : Result → Shared → Prop} {Q : VK}
/-- the tracked iterator has turned -/
theorem Inv.turnT {h' : Heap} {o : HO} {t' : Nat} (I : Inv X pins σ H s) (hi : ∃ j, H it = some (ItT t it j)) (k : ∀ b u, b ≠ it → s.heap.get? b = some u → h'.get? b = some u) (hs : ∃ u, h'.get? it = some u) (new : ObjOk X.prog X.w (upd H it o) h' it o) :
    Inv X pins σ (upd H it o) { s with heap := h', toks := t' } := by
  obtain ⟨j, hi⟩ := hi
  exact I.write (by rw [hi]; exact trivial) (.inl rfl) k hs new
/-- the rest of the tuple's items is pushed onto the list at q -/
theorem push_tup (hA : A1.in1.handled = none) (hq0 : q ≠ it) (hne : t ≠ it) (hz : zs.length ≤ sizeLine) (h : ∀ s' H', Inv X pins σ (upd (upd H' it Gone) q (.lst zs)) s' → (∀ b, b ≠ it → b ≠ q → H' b = H b) → Rs (.ok (.ret .none)) s') (ht : ∀ H', (∀ b, b ≠ it → b ≠ q → H' b = H b) → SqT X.K H' t zs) :
    ∀ (d i : Nat) (s : Shared) (H' : Hp), i + d = zs.length → (∀ b, b ≠ it → b ≠ q → H' b = H b) → Inv X pins σ H' s → H' q = some (.lst (zs.take i)) → H' it = some (ItT t it i) → codeAny (model X.prog X.w) A1 (.builtin "list.extend.loop" ⟨[.ref q, .ref it, .none], []⟩) Rs s := by
  intro d
  induction d with
  | zero =>
    intro i s H' e same I hq hi
    obtain ⟨its, rv, pl, _⟩ := I.tuple (ht H' same)
    have hlen := rv.length
    refine codeAny_builtin PySem.F.entry_extend_loop ?_; rw [Around.under_plainId PySem.F.plain_extend_loop _]
    refine wpAny_bind (m := pyNext (.ref it)) (tup_end hA ((I.hok it _ hi).1) (show s.heap.IsTuple t its.toArray from pl) (by simp; omega) fun h' eb ex => wpAny_pure ?_)
    have I2 := Inv.turnT (h' := h') (o := Gone) (t' := s.toks) I ⟨i, hi⟩ (fun b u n z => eb b u n z) ex ⟨trivial, ex, fun _ _ _ _ => trivial⟩
    have hq2 : upd H' it Gone q = some (.lst zs) := by rw [upd_ne hq0, hq, show i = zs.length by omega, List.take_length]
    exact h _ H' (by rw [upd_self hq2]; exact I2) same
  | succ d ih =>
    intro i s H' e same I hq hi
    obtain ⟨its, rv, pl, _⟩ := I.tuple (ht H' same)
    have hlen := rv.length
    have lt : i < zs.length := by omega
    obtain ⟨u, hu, ru⟩ := rv.get (i := i) (x := zs[i]) (by simp [lt])
    refine codeAny_builtin PySem.F.entry_extend_loop ?_; rw [Around.under_plainId PySem.F.plain_extend_loop _]
    refine wpAny_bind (m := pyNext (.ref it)) (wpAny_pyNext_tuple_item ((I.hok it _ hi).1) (show s.heap.IsTuple t its.toArray from pl) (x := u) (by simpa using hu) fun h' st' sb => ?_)
    have I2 := Inv.turnT (h' := h') (o := ItT t it (i + 1)) (t' := s.toks) I ⟨i, hi⟩ (fun b u n z => (sb.2 b n).trans z) (let ⟨o, z, _⟩ := st'; ⟨o, z⟩) (itT_ok st')
    have hq2 : upd H' it (ItT t it (i + 1)) q = some (.lst (zs.take i)) := by rw [upd_ne hq0, hq]
    obtain ⟨z, its2, k2, r2, hl2, e2⟩ := I2.lstM hq2
    have hl3 : its2.length = i := by rw [← hl2, List.length_take]; omega
    have ht2 : zs.take (i + 1) = zs.take i ++ [zs[i]] := by simp
    refine wpAny_bind (m := updateSeq q (·.push u)) (wpAny_updateSeq e2 rfl (wpAny_pure ⟨plainId_quiet PySem.F.plain_extend_loop _, ?_⟩) (by rw [List.size_toArray]; omega) (by show (its2.toArray.push u).size ≤ sizeLine + 1; rw [Array.size_push, List.size_toArray]; omega))
    have I3 := I2.lset (f := (·.push u)) (its' := its2 ++ [u]) (ys := zs.take i ++ [zs[i]]) (t' := s.toks) hq2 e2 (by simp) (r2.append (.cons ru .nil)) (by rw [← ht2, List.length_take]; omega)
    refine ih (i + 1) _ _ (by omega) (fun b n1 n2 => by rw [upd_ne n2, upd_ne n1]; exact same b n1 n2) I3 (by rw [upd_same, ht2]) (by rw [upd_ne (Ne.symm hq0), upd_same])
end
/-- nothing is said of the length -/
theorem no_hint {M : Model} {A : Around} {E' : Value → Shared → Prop} {Q : Bool → Shared → Prop} {g : Addr} {ox : Obj} {od : Option Obj} (c : IterO X.K C g) (hK : X.K.In s.heap) (J : PySem.W.InstAt s.heap a ox C od) (h : Q true s) :
    wpAny M A (Builtin.List.listLengthHint (.ref a)) Q E' s := by
  unfold Builtin.List.listLengthHint
  refine wpAny_bind (wpAny_bind (J.type.here ((PySem.W.looks_findIn hK c.nolen).here (PySem.W.KFB.if_not rfl (PySem.W.KFB.if_not rfl ?_)))))
  exact wpAny_bind (wpAny_bind (J.type.here ((PySem.W.looks_findIn hK c.nohint).here (wpAny_pure h))))
theorem call_listO (c : IterO X.K C f) (F : FnOk X.prog X.w X.K X.mg X.base CX k f fd ps sp) (bn : Binds X.K fd ps []) (hx : Passes CX X E) (hr : Room (k + 2) X.A) : CallR X (.type "list") (rListO X.K C sp E) := by
  intro pins s σ H xs us Q I rv h
  obtain ⟨a, dx, fs, e, ha, hq⟩ := h
  subst e
  obtain ⟨u, rfl, ru⟩ := rv.one
  cases ru
  refine callType_codes (Q₁ := fun obj s₁ => obj = .ref s.heap.objs.size ∧ s₁ = { s with heap := s.heap.push { cls := .type "list", data := .seq #[] } }) PySem.F.called_list (PySem.F.typeCall_list_1 _) PySem.F.entry_list_init (code_list_new _ ⟨rfl, rfl⟩) fun obj s₁ h₁ => ?_
  obtain ⟨e1, e2⟩ := h₁
  subst e1 e2
  have fr : H s.heap.objs.size = none := I.fresh
  have hS : (s.heap.push { cls := .type "list", data := .seq #[] }).get? s.heap.objs.size = some { cls := .type "list", data := .seq #[] } := Heap.get?_push_size _ rfl
  refine ⟨⟨_, hS, rfl⟩, PySem.F.args_list_init_2 _ _, ?_⟩
  have I1 := Inv.lnew (its := []) (ys := []) (t' := s.toks) I .nil (Nat.zero_le _)
  show wpAny _ _ (Builtin.List.listItems (.ref s.heap.objs.size) >>= fun old => Builtin.List.listUpdate (.ref s.heap.objs.size) (fun _ => #[]) >>= fun _ => letGo old.toList.reverse >>= fun _ => Builtin.List.listExtendWith (.ref s.heap.objs.size) (.ref a) .none) _ _ _
  refine wpAny_bind (m := Builtin.List.listItems _) ?_; unfold Builtin.List.listItems; refine wpAny_bind (wpAny_seqItems hS rfl (wpAny_pure ?_))
  refine wpAny_bind (m := updateSeq s.heap.objs.size (fun _ => #[])) (wpAny_updateSeq hS rfl (wpAny_bind (wpAny_letGo ?_)))
  have I2 := I1.lset (f := fun _ => #[]) (its := []) (its' := []) (ys := []) (t' := s.toks) upd_same hS rfl .nil (Nat.zero_le _)
  rw [upd_upd] at I2
  have nq : a ≠ s.heap.objs.size := ne_of_none ha fr
  have ha2 : upd H s.heap.objs.size (.lst []) a = some (.ins C dx fs) := by rw [upd_ne nq]; exact ha
  obtain ⟨od, J⟩ := inst_of I2 ha2
  obtain ⟨m0, hF⟩ := I2.fr
  unfold Builtin.List.listExtendWith
  refine wpAny_bind (J.type.here ?_)
  have h1 : Builtin.List.listSameRef (.ref s.heap.objs.size) (.ref a) = false := by simp [Builtin.List.listSameRef, Ne.symm nq]
  have h2 : (Value.ref C == Value.type "list") = false := rfl
  have h3 : (Value.ref C == Value.type "tuple") = false := rfl
  simp only [h1, h2, h3, Bool.or_false, Bool.false_eq_true, if_false]
  have hsp := hq _ fr
  have hl : ([Value.ref a] ++ []).length = ps.length := by rw [← F.len _ _ _ _ hsp]; rfl
  have hr2 : Room k X.A.in1.in1 := (Room.in1 (k := k) (Room.in1 (k := k + 1) hr))
  refine wpAny_bind (PySem.W.owit_iter hF I2.ok.mod.kin J c.it c.is (wpAny_call (codeAny_mono (F.run X.A.in1.in1 X.stack _ _ ⟨[.ref a], []⟩ [.ref a] [.ref a] _ E hr2 I2.env0.in1.in1 (by have z := bn _ [.ref a] I2.kIn hl; simpa using z) (.cons rfl .nil) hsp) fun r s' hr' => ?_)))
  match r, hr' with
  | .error e, hr' => exact hx pins σ _ _ e s' I2 hr'
  | .ok .next, hr' | .ok .brk, hr' | .ok .cont, hr' => exact hr'.elim
  | .ok (.ret u), hr' =>
    obtain ⟨v, H', I', rv2, it, t, zs, ev, ha', hq', hi', ht', hne, hz, q⟩ := I2.after hr'
    subst ev
    cases rv2
    have hit : s'.heap.IsTupleIter it t 0 := (I'.hok it _ hi').1
    have nqi : s.heap.objs.size ≠ it := ne_of hq' hi' (fun z => nomatch z)
    unfold PySem.W.OwitIt
    refine wpAny_specialOf hit.typeIs next_tup ?_
    obtain ⟨od', J'⟩ := inst_of I' ha'
    refine wpAny_bind (wpAny_holding (no_hint c I'.kIn J' ?_))
    have nqt : s.heap.objs.size ≠ t := by
      rintro e
      obtain ⟨its, _, ⟨o, z, cl, _⟩, _⟩ := I'.tuple ht'
      obtain ⟨_, _, _, _, _, e0⟩ := I'.lstM hq'
      rw [← e, e0] at z
      cases z
      exact absurd cl (by show Value.type "list" ≠ .type "tuple"; decide +kernel)
    have go : ∀ s2, Inv X pins σ H' s2 → codeAny (model X.prog X.w) X.A.in1 (.builtin "list.extend.loop" ⟨[.ref s.heap.objs.size, .ref it, .none], []⟩) (wants (fun r s₂ => r = .none ∧ EP X pins σ Q (.ref s.heap.objs.size) s₂) X.xe) s2 := fun s2 J2 => by
      refine push_tup (A1 := X.A.in1) (zs := zs) (t := t) (H := H') hr.hd nqi (Ne.symm hne) hz (fun s3 H3 I3 sm => ⟨rfl, .ref s.heap.objs.size, _, I3, rfl, ?_⟩) (fun H3 sm => ?_) zs.length 0 s2 H' (by omega) (fun _ _ _ => rfl) J2 hq' hi'
      · rcases ht' with (z | ⟨o, z⟩) | z
        · exact .inl (.inl ((sm t (Ne.symm hne) (Ne.symm nqt)).trans z))
        · exact .inl (.inr ⟨o, (sm t (Ne.symm hne) (Ne.symm nqt)).trans z⟩)
        · exact .inr z
      · have e : upd (upd H3 it Gone) s.heap.objs.size (.lst zs) = upd (upd H' it Gone) s.heap.objs.size (.lst zs) := by
          funext b
          by_cases e1 : b = s.heap.objs.size
          · rw [e1, upd_same, upd_same]
          · rw [upd_ne e1, upd_ne e1]
            by_cases e2 : b = it
            · rw [e2, upd_same, upd_same]
            · rw [upd_ne e2, upd_ne e2, sm b e2 e1]
        rw [e]
        exact q
    refine wpAny_ite_split (fun _ => ?_) (fun _ => wpAny_pure ⟨plainId_quiet PySem.F.plain_extend_loop _, go _ I'⟩)
    -- a place is made and given back
    obtain ⟨z, its, k3, r3, hl3, e3⟩ := I'.lstM hq'
    cases r3
    refine wpAny_bind (wpAny_rule (wpAny_bind (m := updateSeq _ (·.push .none) >>= fun _ => updateSeq _ (·.pop)) (wpAny_bind (wpAny_updateSeq e3 rfl ?_))))
    have I3 := I'.lset (f := (·.push Value.none)) (its' := [Value.none]) (ys := [.non]) (t' := s'.toks) hq' e3 (by simp) (.cons rfl .nil) (by rw [List.length_singleton, sizeLine_eq]; decide)
    obtain ⟨z4, its4, k4, r4, hl4, e4⟩ := I3.lstM upd_same
    obtain ⟨u4, rfl, ru4⟩ := r4.one
    refine wpAny_updateSeq e4 rfl ?_ (by show 1 ≤ sizeLine; rw [sizeLine_eq]; decide) (by show 0 ≤ sizeLine + 1; exact Nat.zero_le _)
    have I4 := I3.lset (f := (·.pop)) (its := [u4]) (its' := []) (ys := []) (t' := s'.toks) upd_same e4 (by rfl) .nil (Nat.zero_le _)
    rw [upd_upd, upd_self hq'] at I4
    exact wpAny_pure ⟨plainId_quiet PySem.F.plain_extend_loop _, go _ I4⟩
end
end UL

set_option Elab.async false
set_option linter.all false
set_option maxRecDepth 100000
set_option maxHeartbeats 2000000
/-! zip of two sequences of any two kinds; yield from a list -/
namespace UL
open PySem PySem.Spec PyProof.Rows L2
inductive Kd where | l | t
def Kd.Iter : Kd → Heap → Addr → Addr → Nat → Prop
  | .l, h, it, a, i => h.IsListIter it a i
  | .t, h, it, a, i => h.IsTupleIter it a i
def Kd.Is : Kd → Heap → Addr → Array Value → Prop
  | .l, h, a, xs => h.IsList a xs
  | .t, h, a, xs => h.IsTuple a xs
def Kd.Sq : Kd → PySem.W.Frag → Hp → Addr → List V → Prop
  | .l, K, H, a, xs => SqL K H a xs
  | .t, K, H, a, xs => SqT K H a xs
def Kd.obj : Kd → Addr → Obj
  | .l, a => { cls := .type "list_iterator", data := .fields #[.ref a, .int 0 0] }
  | .t, a => { cls := .type "tuple_iterator", data := .fields #[.ref a, .int 0 0] }
theorem Kd.begins (k : Kd) (a : Addr) (xs : Array Value) : Begins (.ref a) (k.obj a) fun h => k.Is h a xs := match k with
  | .l => begins_list a xs
  | .t => begins_tuple a xs
theorem Kd.start (k : Kd) {h : Heap} {it a : Addr} (e : h.get? it = some (k.obj a)) : k.Iter h it a 0 := match k, e with
  | .l, e => ⟨_, e, rfl, rfl⟩
  | .t, e => ⟨_, e, rfl, rfl⟩
theorem Kd.iterAt (k : Kd) {h h' : Heap} {it a : Addr} {i : Nat} (x : k.Iter h it a i) (f : ∀ o, h.get? it = some o → h'.get? it = some o) : k.Iter h' it a i := match k, x with
  | .l, x => Heap.IsListIter.at x f
  | .t, x => Heap.IsTupleIter.at x f
theorem Kd.isAt (k : Kd) {h h' : Heap} {a : Addr} {xs : Array Value} (x : k.Is h a xs) (f : ∀ o, h.get? a = some o → h'.get? a = some o) : k.Is h' a xs := match k, x with
  | .l, x => Heap.IsList.at x f
  | .t, x => Heap.IsTuple.at x f
theorem Kd.iterObj (k : Kd) {h : Heap} {it a : Addr} {i : Nat} (x : k.Iter h it a i) : ∃ o, h.get? it = some o ∧ ∀ v, o.data ≠ .cell v := match k, x with
  | .l, ⟨o, e, _, d⟩ => ⟨o, e, fun v q => by rw [d] at q; cases q⟩
  | .t, ⟨o, e, _, d⟩ => ⟨o, e, fun v q => by rw [d] at q; cases q⟩
theorem Kd.draws (k : Kd) {prog : Program} {w : World} {A : Around} (hh : A.handled = none) (it a : Addr) (ne : a ≠ it) (xs : Array Value) : Draws prog w A it [it, a] xs.size (fun i v => xs[i]? = some v) (fun i h => k.Iter h it a i ∧ k.Is h a xs) := match k with
  | .l => Draws.list hh it a ne xs
  | .t => Draws.tuple hh it a ne xs
section
variable {X : Cx} {pins : List (Addr × Obj)} {σ : L2.St} {H : Hp} {s : Shared} {a : Addr} {xs ys : List V}
theorem Kd.read (k : Kd) (I : Inv X pins σ H s) (h : k.Sq X.K H a xs) : ∃ its : List Value, Vals xs its ∧ k.Is s.heap a its.toArray := match k, h with
  | .l, h => let ⟨its, r, p, _⟩ := I.list h; ⟨its, r, p.isList⟩
  | .t, h => let ⟨its, r, p, _⟩ := I.tuple h; ⟨its, r, p⟩
theorem Kd.inj (k : Kd) (I : Inv X pins σ H s) (h : k.Sq X.K H a xs) (h' : k.Sq X.K H a ys) : xs = ys := match k, h, h' with
  | .l, h, h' => I.list_inj h h'
  | .t, h, h' => I.tuple_inj h h'
theorem Kd.lt (k : Kd) {h : Heap} {xs : Array Value} (x : k.Is h a xs) : a < h.objs.size := match k, x with
  | .l, ⟨_, e, _⟩ => Heap.lt_size e
  | .t, ⟨_, e, _⟩ => Heap.lt_size e
end
/-- the items of the two at each turn, in new pairs -/
def ItzK (k1 k2 : Kd) (K : PySem.W.Frag) (a b : Addr) : It :=
  ⟨fun i H => ∃ (xs ys : List V) (x y : V), k1.Sq K H a xs ∧ k2.Sq K H b ys ∧ xs[i]? = some x ∧ ys[i]? = some y,
    fun i H v H' => ∃ T x y, v = .ref T ∧ H T = none ∧ H' = upd H T (.tup [x, y]) ∧ (∀ xs, k1.Sq K H a xs → xs[i]? = some x) ∧ ∀ ys, k2.Sq K H b ys → ys[i]? = some y,
    fun i H => ∃ xs ys : List V, k1.Sq K H a xs ∧ k2.Sq K H b ys ∧ i ≤ xs.length ∧ i ≤ ys.length ∧ (xs.length = i ∨ ys.length = i)⟩
theorem turn_zipK {P : Program} {w : World} {K : PySem.W.Frag} {elts : List Expr} {kk : Nat} {tpos : Pos} {k1 k2 : Kd} {a b z TI TO i1 i2 : Addr} (S : ZipSep2 z TI TO i1 i2 [i1, a] [i2, b]) (na : a ≠ i1) (nb : b ≠ i2) :
    Turn P w K (.Tuple elts kk tpos) (ItzK k1 k2 K a b) [z, TI, TO, i1, i2] z (fun i h => IsZip h z TI TO .none ∧ IsTupOf2 h TI (.ref i1) (.ref i2) ∧ (∃ x y, IsTupOf2 h TO x y) ∧ k1.Iter h i1 a i ∧ k2.Iter h i2 b i) where
  mem := by simp
  obj := fun i h st c hc => by
    obtain ⟨hz, hTI, ⟨x, y, hTO⟩, h1, h2⟩ := st
    simp only [List.mem_cons, List.not_mem_nil, or_false] at hc
    rcases hc with q | q | q | q | q <;> subst q
    · exact ⟨_, hz, fun v q => nomatch q⟩
    · exact ⟨_, hTI, fun v q => nomatch q⟩
    · exact ⟨_, hTO, fun v q => nomatch q⟩
    · exact k1.iterObj h1
    · exact k2.iterObj h2
  keep := fun i h h' st k => by
    obtain ⟨hz, hTI, ⟨x, y, hTO⟩, h1, h2⟩ := st
    exact ⟨k z (by simp) _ hz, k TI (by simp) _ hTI, ⟨x, y, k TO (by simp) _ hTO⟩, k1.iterAt h1 fun o q => k i1 (by simp) o q, k2.iterAt h2 fun o q => k i2 (by simp) o q⟩
  item := by
    intro X hP hw hK hc i pins s σ H E I hf st hg
    subst hP hw hK
    obtain ⟨hz, hTI, ⟨x0, y0, hTO⟩, h1, h2⟩ := st
    obtain ⟨xs, ys, x, y, hqx, hqy, hx, hy⟩ := hg
    obtain ⟨its, rv, p⟩ := k1.read I hqx
    obtain ⟨its2, rv2, p2⟩ := k2.read I hqy
    obtain ⟨u, hu, ru⟩ := rv.get hx
    obtain ⟨u2, hu2, ru2⟩ := rv2.get hy
    have hzl : z < s.heap.objs.size := Heap.lt_size hz
    have l1 : i < its.toArray.size := by rw [List.size_toArray]; exact (List.getElem?_eq_some_iff.mp hu).1
    have l2 : i < its2.toArray.size := by rw [List.size_toArray]; exact (List.getElem?_eq_some_iff.mp hu2).1
    have hh : X.A.in1.handled = none := I.ok.hd hc
    refine wpAny_pyNext_zipD2_item S (k1.draws hh i1 a na its.toArray) (k2.draws hh i2 b nb its2.toArray) hz hTI hTO ⟨h1, p⟩ ⟨h2, p2⟩ l1 l2 fun x1 x2 h' tk q1 q2 z' TO' st1 st2 hT hsz hk => ?_
    have e1 : x1 = u := by rw [List.getElem?_toArray, hu] at q1; exact (Option.some.inj q1).symm
    have e2 : x2 = u2 := by rw [List.getElem?_toArray, hu2] at q2; exact (Option.some.inj q2).symm
    subst e1 e2
    refine ⟨_, rfl, wpAny_letOwnedTupleGo_zip (s := { s with heap := h', toks := tk }) z' fun h'' z'' sb => ?_⟩
    have hT2 := (sb.2 _ (Nat.ne_of_gt hzl)).trans hT
    have all : ∀ c o, c ∉ [z, TI, TO, i1, i2] → s.heap.get? c = some o → h''.get? c = some o := fun c o hb q => by
      simp only [List.mem_cons, List.not_mem_nil, or_false, not_or] at hb
      exact (sb.2 c hb.1).trans (hk c o hb.1 hb.2.2.1 hb.2.2.2.1 hb.2.2.2.2 q)
    have I1 := I.turnedNew (ob := .tup [x, y]) (h' := h'') (t' := tk) all hf (Nat.le_refl _) ⟨by show 2 ≤ sizeLine; decide, [x1, x2], .cons ru (.cons ru2 .nil), ⟨_, hT2, rfl, _, rfl⟩⟩
    refine ⟨.ref s.heap.objs.size, _, I1, rfl, ⟨_, x, y, rfl, I.hok.fresh (Nat.le_refl _), rfl, fun l hl => by rw [k1.inj I hl hqx]; exact hx, fun l hl => by rw [k2.inj I hl hqy]; exact hy⟩, ⟨z'', ?_, ⟨x1, x2, ?_⟩, ?_, ?_⟩, fun c hcm => ?_⟩
    · exact (sb.2 _ S.TIz).trans (hk _ _ S.TIz S.TITO S.TIi1 S.TIi2 hTI)
    · exact (sb.2 _ S.TOz).trans TO'
    · exact k1.iterAt st1.1 fun o q => (sb.2 _ S.zi1.symm).trans q
    · exact k2.iterAt st2.1 fun o q => (sb.2 _ S.zi2.symm).trans q
    · rw [upd_ne (fun e => ?_)]
      · exact (hf c hcm).1
      · subst e
        simp only [List.mem_cons, List.not_mem_nil, or_false] at hcm
        obtain ⟨_, e1, _⟩ := k1.iterObj h1; obtain ⟨_, e2, _⟩ := k2.iterObj h2
        have g1 := Heap.lt_size e1; have g2 := Heap.lt_size e2; have g3 := Heap.lt_size hTI; have g4 := Heap.lt_size hTO
        rcases hcm with q | q | q | q | q
        · exact absurd q (Nat.ne_of_gt hzl)
        · exact absurd q (Nat.ne_of_gt g3)
        · exact absurd q (Nat.ne_of_gt g4)
        · exact absurd q (Nat.ne_of_gt g1)
        · exact absurd q (Nat.ne_of_gt g2)
  done := by
    intro X hP hw hK hc i pins s σ H E I hf st hg
    subst hP hw hK
    obtain ⟨hz, hTI, ⟨x0, y0, hTO⟩, h1, h2⟩ := st
    obtain ⟨xs, ys, hqx, hqy, le1, le2, hend⟩ := hg
    obtain ⟨its, rv, p⟩ := k1.read I hqx
    obtain ⟨its2, rv2, p2⟩ := k2.read I hqy
    have l1 : xs.length = its.toArray.size := by rw [List.size_toArray]; exact rv.length
    have l2 : ys.length = its2.toArray.size := by rw [List.size_toArray]; exact rv2.length
    have hh : X.A.in1.handled = none := I.ok.hd hc
    refine wpAny_pyNext_zipD2_end S (k1.draws hh i1 a na its.toArray) (k2.draws hh i2 b nb its2.toArray) hz hTI hTO ⟨h1, p⟩ ⟨h2, p2⟩ (by omega) (by omega) (by omega) fun h' tk hk => ⟨rfl, I.turnedL (t' := tk) (ch := [z, TI, TO, i1, i2]) (fun c o hb q => ?_) hf⟩
    simp only [List.mem_cons, List.not_mem_nil, or_false, not_or] at hb
    exact hk c o hb.1 hb.2.2.1 hb.2.2.2.1 hb.2.2.2.2 q
  self := fun A i s Q E st h => wpAny_pyIter_zip st.1 h
def iZipK (k1 k2 : Kd) (K : PySem.W.Frag) (ta : TA) : TI := fun σ H R => ta σ H fun vs H1 => ∃ a b xs ys, vs = [.ref a, .ref b] ∧ k1.Sq K H1 a xs ∧ k2.Sq K H1 b ys ∧ R (ItzK k1 k2 K a b) H1
theorem zip_it {X : Cx} {pins : List (Addr × Obj)} {σ : L2.St} {H : Hp} {s : Shared} {R : It → Hp → Prop} {elts : List Expr} {kk : Nat} {tpos : Pos} (k1 k2 : Kd) {a b : Addr} {xs ys : List V} (I : Inv X pins σ H s) (hx : k1.Sq X.K H a xs) (hy : k2.Sq X.K H b ys) (q : R (ItzK k1 k2 X.K a b) H) :
    wpAny (model X.prog X.w) X.A (call (.type "zip") [.ref a, .ref b]) (fun v s1 => wpAny (model X.prog X.w) X.A (pyIter v) (PIE X pins σ (.Tuple elts kk tpos) R) X.xe s1) X.xe s := by
  obtain ⟨its, rv, p⟩ := k1.read I hx
  obtain ⟨its2, rv2, p2⟩ := k2.read I hy
  have la := k1.lt p; have lb := k2.lt p2
  refine zip_begins2 (k1.begins a its.toArray) (k2.begins b its2.toArray) p p2 fun h' hz hTI hTO g1 g2 hsz hk => wpAny_pyIter_zip hz ?_
  have ns : ∀ j c : Nat, c < s.heap.objs.size → c ≠ s.heap.objs.size + j := fun j c h => by omega
  have S : ZipSep2 (s.heap.objs.size + 4) (s.heap.objs.size + 2) (s.heap.objs.size + 3) s.heap.objs.size (s.heap.objs.size + 1) [s.heap.objs.size, a] [s.heap.objs.size + 1, b] := by
    have a0 := ns 0 a la; have a1 := ns 1 a la; have a3 := ns 3 a la; have a4 := ns 4 a la
    have b0 := ns 0 b lb; have b3 := ns 3 b lb; have b4 := ns 4 b lb
    generalize s.heap.objs.size = n at *
    refine ⟨?_, ?_, ?_, ?_, ?_, ?_, ?_, ?_, ?_, ?_, ?_, ?_, ?_⟩ <;> (try simp only [List.mem_cons, List.not_mem_nil, or_false, not_or, true_or]) <;> (try trivial) <;> (first | (show ¬ (_ : Nat) = _; omega) | (refine ⟨?_, ?_⟩ <;> (show ¬ (_ : Nat) = _; omega)) | trivial)
  refine ⟨s.heap.objs.size + 4, [s.heap.objs.size + 4, s.heap.objs.size + 2, s.heap.objs.size + 3, s.heap.objs.size, s.heap.objs.size + 1], _, _, H, rfl, I.kept (t' := s.toks) hk, turn_zipK S (by have := ns 0 a la; simpa using this) (ns 1 b lb), ⟨hz, hTI, ⟨_, _, hTO⟩, k1.start g1, k2.start g2⟩, fun c hc => ?_, q⟩
  have hle : s.heap.objs.size ≤ c := by
    simp only [List.mem_cons, List.not_mem_nil, or_false] at hc
    rcases hc with z | z | z | z | z <;> subst z <;> first | exact Nat.le_add_right _ _ | exact Nat.le_refl _
  exact I.fpOk hle (I.hok.fresh hle)
/-- zip(a, b): whatever of lists and tuples they are -/
theorem pi_zipK {X : Cx} {e e2 : Expr} {ta : TA} {p pos tpos : Pos} {elts : List Expr} {kk : Nat} (k1 k2 : Kd) (hg : Gl X "zip") (hm : X.mg "zip" = none) (ha : PA X [e, e2] ta)
    (hs : starEach [e, e2] X.env = (false, eval e X.env) :: starEach [e2] X.env := by rfl) (hpl : (backTo pos (starEach [e2] X.env)).any (·.1) = false := by rfl) :
    PI X (.Tuple elts kk tpos) (.Call (.Name "zip" p) [e, e2] [] pos) (iZipK k1 k2 X.K ta) := by
  refine ⟨fun pins s σ H R I h => Call_ (ld_blt I hg hm boot_zip (callWith_type1 (thn (ha.run pos pins s σ H _ I h) fun us s1 ⟨vs, H1, I1, r1, q1⟩ => ?_) hs hpl))⟩
  obtain ⟨a, b, xs, ys, e, hx, hy, q⟩ := q1
  subst e
  obtain ⟨u, w', rfl, ru, rw'⟩ := vals2 r1
  cases ru; cases rw'
  exact zip_it k1 k2 I1 hx hy q
/-- the same where either kind may come -/
def iZipB (K : PySem.W.Frag) (ta : TA) : TI := fun σ H R => ta σ H fun vs H1 => ∃ a b xs ys k1 k2, vs = [.ref a, .ref b] ∧ Kd.Sq k1 K H1 a xs ∧ Kd.Sq k2 K H1 b ys ∧ R (ItzK k1 k2 K a b) H1
theorem pi_zipB {X : Cx} {e e2 : Expr} {ta : TA} {p pos tpos : Pos} {elts : List Expr} {kk : Nat} (hg : Gl X "zip") (hm : X.mg "zip" = none) (ha : PA X [e, e2] ta)
    (hs : starEach [e, e2] X.env = (false, eval e X.env) :: starEach [e2] X.env := by rfl) (hpl : (backTo pos (starEach [e2] X.env)).any (·.1) = false := by rfl) :
    PI X (.Tuple elts kk tpos) (.Call (.Name "zip" p) [e, e2] [] pos) (iZipB X.K ta) := by
  refine ⟨fun pins s σ H R I h => Call_ (ld_blt I hg hm boot_zip (callWith_type1 (thn (ha.run pos pins s σ H _ I h) fun us s1 ⟨vs, H1, I1, r1, q1⟩ => ?_) hs hpl))⟩
  obtain ⟨a, b, xs, ys, k1, k2, e, hx, hy, q⟩ := q1
  subst e
  obtain ⟨u, w', rfl, ru, rw'⟩ := vals2 r1
  cases ru; cases rw'
  exact zip_it k1 k2 I1 hx hy q
/-- a loop over two sequences of one length that stay as they are -/
theorem for_zipK {K : PySem.W.Frag} {k1 k2 : Kd} {a b : Addr} {xs ys : List V} {g : TG} {tb : TS} {D : Ends} {σ : L2.St} {H : Hp} (hl : xs.length = ys.length) (Pv : Nat → L2.St → Hp → Prop) (h0 : Pv 0 σ H) (hq : ∀ i σ H, Pv i σ H → k1.Sq K H a xs ∧ k2.Sq K H b ys)
    (hs : ∀ (i : Nat) (x y : V) (T : Addr) (σ : L2.St) (H : Hp), xs[i]? = some x → ys[i]? = some y → Pv i σ H → H T = none → g (.ref T) σ (upd H T (.tup [x, y])) fun σ2 H2 => tb { D with nx := Pv (i + 1), ct := Pv (i + 1), bk := D.nx } σ2 H2) (hd : ∀ σ H, Pv xs.length σ H → D.nx σ H) :
    ∃ W : Nat → Nat → L2.St → Hp → Prop, (∃ m, W 0 m σ H) ∧ ∀ i m σ H, W i m σ H →
      ((ItzK k1 k2 K a b).stop i H ∧ D.nx σ H) ∨ ((ItzK k1 k2 K a b).go i H ∧ ∃ N : L2.St → Hp → Prop, (∀ σ' H', N σ' H' → ∃ m', m' < m ∧ W (i + 1) m' σ' H') ∧ ∀ x H', (ItzK k1 k2 K a b).yld i H x H' → g x σ H' fun σ2 H2 => tb { D with nx := N, ct := N, bk := D.nx } σ2 H2) := by
  refine ⟨fun i m σ H => m = xs.length - i ∧ i ≤ xs.length ∧ Pv i σ H, ⟨xs.length, by simp, Nat.zero_le _, h0⟩, ?_⟩
  rintro i m σ H ⟨rfl, hi, p⟩
  obtain ⟨q1, q2⟩ := hq i σ H p
  by_cases lt : i < xs.length
  · have lt2 : i < ys.length := by omega
    refine .inr ⟨⟨xs, ys, xs[i], ys[i], q1, q2, by simp [lt], by simp [lt2]⟩, Pv (i + 1), fun σ' H' p' => ⟨xs.length - (i + 1), by omega, rfl, lt, p'⟩, fun x H' y => ?_⟩
    obtain ⟨T, x1, y1, e, hT, e2, z1, z2⟩ := y
    subst e e2
    exact hs i x1 y1 T σ H (z1 xs q1) (z2 ys q2) p hT
  · have e : i = xs.length := by omega
    subst e
    exact .inl ⟨⟨xs, ys, q1, q2, Nat.le_refl _, by omega, .inl rfl⟩, hd σ H p⟩
end UL

set_option Elab.async false
set_option linter.all false
set_option maxRecDepth 100000
set_option maxHeartbeats 2000000
/-! yield from a list -/
namespace UL
open PySem PySem.Spec PyProof.Rows L2
section
variable {prog : Program} {w : World} {A : Around} {E : Value → Shared → Prop} {s : Shared}
theorem list_next {it l : Addr} {i : Nat} {items : Array Value} {x : Value} {Q : Option Value → Shared → Prop} (hit : s.heap.IsListIter it l i) (hl : s.heap.IsList l items) (hx : items[i]? = some x)
    (hQ : ∀ h', h'.IsListIter it l (i + 1) → Heap.SameBut it s.heap h' → Q (some x) { s with heap := h' }) : wpAny (model prog w) A (callSpecial? (.ref it) "__next__") Q E s := by
  have ⟨o, ho, hc, hd⟩ := hit; have ⟨ol, hol, _, nl, hdl⟩ := hl
  refine wpAny_callSpecial?_slot (name := Str.ofString "__next__") hit.typeIs slot_listiter_next (wpAny_call_entry slot_listiter_next hit.typeIs entry_listiter_next ?_ (args_listiter_next _))
  refine wpAny_bind (m := field (.ref it) 0) (wpAny_field ho hd (x := .ref l) rfl ?_)
  show wpAny _ _ (if (Value.ref l == Value.none) = true then _ else _) _ _ s; rw [if_neg (show ¬ ((Value.ref l == Value.none) = true) from Bool.false_ne_true)]
  refine wpAny_bind (m := field (.ref it) 1) (wpAny_field ho hd (x := .int i 0) rfl (wpAny_bind (m := seqItems? (.ref l)) (wpAny_seqItems hol hdl ?_)))
  simp only [Int.toNat_natCast, hx]
  refine wpAny_bind (wpAny_setField ho hd (by simp) (wpAny_pure ⟨x, rfl, hQ _ ⟨_, Heap.get?_update_self _ ho (Obj.isFreed_of_fields (Obj.data_mapFields hd _)), (Obj.cls_mapFields ..).trans hc, ?_⟩ (Heap.SameBut.update ..)⟩))
  rw [Obj.data_mapFields hd]; simp [rawInt]
theorem list_stop {it l : Addr} {i : Nat} {items : Array Value} {Q : Option Value → Shared → Prop} (hh : A.handled = none) (hit : s.heap.IsListIter it l i) (hl : s.heap.IsList l items) (hx : items[i]? = none)
    (hE : ∀ e h', StopX e h' → Heap.ExtBut it s.heap h' → E e { s with heap := h' }) : wpAny (model prog w) A (callSpecial? (.ref it) "__next__") Q E s := by
  have ⟨o, ho, hc, hd⟩ := hit; have ⟨ol, hol, _, nl, hdl⟩ := hl
  refine wpAny_callSpecial?_slot (name := Str.ofString "__next__") hit.typeIs slot_listiter_next (wpAny_call_entry slot_listiter_next hit.typeIs entry_listiter_next ?_ (args_listiter_next _))
  refine wpAny_bind (m := field (.ref it) 0) (wpAny_field ho hd (x := .ref l) rfl ?_)
  show wpAny _ _ (if (Value.ref l == Value.none) = true then _ else _) _ _ s; rw [if_neg (show ¬ ((Value.ref l == Value.none) = true) from Bool.false_ne_true)]
  refine wpAny_bind (m := field (.ref it) 1) (wpAny_field ho hd (x := .int i 0) rfl (wpAny_bind (m := seqItems? (.ref l)) (wpAny_seqItems hol hdl ?_)))
  simp only [Int.toNat_natCast, hx]
  refine wpAny_bind (wpAny_rule (wpAny_bind (wpAny_setField ho hd (by simp) (wpAny_bind (m := newExc (.type "StopIteration") []) ?_))))
  simp only [newExc, newTuple]
  refine wpAny_bind (wpAny_newObj_type (wpAny_bind (m := firstArgMember _ _) (wpAny_of_eq (a := Value.none) (by first | rfl | (simp only [firstArgMember]; rfl)) (wpAny_newObj_type ?_ (by size_fits)))) (by size_fits))
  simp only [raiseNew]; refine wpAny_bind (wpAny_handled ?_); rw [show A.in1.handled = none from hh]
  refine wpAny_bind (wpAny_pure (wpAny_throw (hE _ _ ⟨_, _, _, rfl, Heap.get?_push_size _ rfl, rfl, rfl, ?_⟩ (((Heap.SameBut.update ..).extBut.push _).push _))))
  first | rfl | (rw [Array.getElem?_append_left (by decide)]; rfl) | kernel_rfl
end
theorem close_list : typeLookup (.type "list_iterator") "close" = pure none := by rw [typeLookup_type, builtinLookup_eq_fast]; kernel_rfl
def tYfLst (te : TE) : TYf := fun σ H Q => te σ H fun x H1 => ∃ a xs, x = .ref a ∧ H1 a = some (.lst xs) ∧ Q xs H1
theorem yf_lst {X : Cx} {e : Expr} {te : TE} (he : PE X e te) : YfE X e (tYfLst te) := by
  refine ⟨fun pins s σ H Q I h => thn (he.run pins s σ H _ I h) fun v s1 ⟨x, H1, I1, r1, a, xs, ex, ha, hq⟩ => ?_⟩
  subst ex
  obtain rfl : v = Value.ref a := r1
  obtain ⟨its, rits, pl, hz⟩ := I1.list (SqL.of ha)
  obtain ⟨ol, hol, hcl, nl, hdl⟩ := id pl.isList
  refine ⟨"list", ⟨ol, hol, hcl⟩, by decide, wpAny_pyIter_list pl.isList ?_⟩
  have lt := Heap.lt_size hol
  have old : ∀ b o, s1.heap.get? b = some o → b ≠ s1.heap.objs.size := fun b o e => Nat.ne_of_lt (Heap.lt_size e)
  refine ⟨s1.heap.objs.size, H1, xs, fun j h => h.IsListIter s1.heap.objs.size a j ∧ h.IsList a its.toArray, rfl, I1.kept (t' := s1.toks) fun b o e => Heap.get?_push_of_some _ e, .inr I1.sz, Nat.ne_of_gt I1.lt, fun y c hy => ?_, I1.fresh, fun p hp => old p.1 _ (I1.pin p hp).1,
    ⟨⟨_, Heap.get?_push_size _ rfl, rfl, rfl⟩, pl.isList.push _⟩, ⟨⟨"list_iterator", fun j h q => ?_, close_list, by decide⟩, fun j h h' q hk => ?_, fun A' j x s2 Q' E' hA hx q hQ => ?_, fun A' s2 Q' E' hA q hE => ?_⟩, hq⟩
  · obtain ⟨v, o, ho, _⟩ := I1.cell y c hy; exact old c o ho
  · obtain ⟨⟨o, ho, hc, _⟩, _⟩ := q; exact ⟨o, ho, hc⟩
  · exact ⟨Heap.IsListIter.at q.1 fun o e => hk _ o (.inl rfl) e, Heap.IsList.at q.2 fun o e => hk _ o (.inr (by rw [ha]; exact fun z => by cases z)) e⟩
  · obtain ⟨u, hu, ru⟩ := rits.get hx
    exact list_next q.1 q.2 (x := u) (by simpa using hu) fun h' q1 hs => hQ u h' s2.toks ru ⟨q1, q.2.extBut hs.extBut (Nat.ne_of_lt lt)⟩ fun b o hb e => hs.extBut b o hb e
  · have e := rits.length
    exact list_stop hA q.1 q.2 (by simp; omega) fun e h' hS hk => hE e h' s2.toks hS fun b o hb eb => hk b o hb eb
end UL

set_option Elab.async false
set_option linter.all false
set_option maxRecDepth 100000
set_option maxHeartbeats 2000000
/-! bundles: a def, a method as they stand; rules for what may be of several kinds -/
namespace UL
open PySem PySem.Spec PyProof.Rows L2

/-! ### operators on values of several kinds -/
section
variable {X : Cx}
abbrev rAddS' : R2 := fun x y H Q => ∃ i j, x = .str i ∧ y = .str j ∧ i.length + j.length ≤ sizeLine ∧ Q (.str (i ++ j)) H
def rAddA (K : PySem.W.Frag) : R2 := fun x y H Q => rI0 (fun i j => .int (i + j)) x y H Q ∨ rAddS' x y H Q ∨ rCatA K x y H Q ∨ rCat x y H Q
theorem op_addA : OpR X (binaryOp .Add) (rAddA X.K) := OpR.or op_add (OpR.or op_add_str (OpR.or op_catA op_cat))
def rMulA (K : PySem.W.Frag) : R2 := fun x y H Q => rI CMul (fun i j => .int (i * j)) x y H Q ∨ rMulS x y H Q ∨ rRepU K x y H Q
theorem op_mulA : OpR X (binaryOp .Mult) (rMulA X.K) := OpR.or op_mul (OpR.or op_mulS op_repU)
def rEqA (K : PySem.W.Frag) : R2 := fun x y H Q => rEq x y H Q ∨ rEqD K x y H Q
def rNeA (K : PySem.W.Frag) : R2 := fun x y H Q => rNe x y H Q ∨ rNeD K x y H Q
theorem op_eqA (hu : X.A.units + 64 < cLine) : OpR X (compareOp .Eq) (rEqA X.K) := OpR.or op_eq (op_eqD hu)
theorem op_neA (hu : X.A.units + 64 < cLine) : OpR X (compareOp .NotEq) (rNeA X.K) := OpR.or op_ne (op_neD hu)
abbrev rInC : R2 := fun x y H Q => ∃ (c : Nat) (z : Str), x = .str ⟨#[c]⟩ ∧ y = .str z ∧ Q (.bl (decide (c ∈ z.cps.toList))) H
abbrev rNInC : R2 := fun x y H Q => ∃ (c : Nat) (z : Str), x = .str ⟨#[c]⟩ ∧ y = .str z ∧ Q (.bl (!decide (c ∈ z.cps.toList))) H
def rInA (K : PySem.W.Frag) : R2 := fun x y H Q => rInC x y H Q ∨ rIn K false x y H Q
def rNInA (K : PySem.W.Frag) : R2 := fun x y H Q => rNInC x y H Q ∨ rIn K true x y H Q
theorem op_inA : OpR X (compareOp .In) (rInA X.K) := OpR.or op_in_sign op_in_seq
theorem op_ninA : OpR X (compareOp .NotIn) (rNInA X.K) := OpR.or op_notIn_sign op_notIn_seq
def rIsNone : R2 := fun x y H Q => y = .non ∧ Q (.bl (decide (x = .non))) H
def rNotNone : R2 := fun x y H Q => y = .non ∧ Q (.bl (!decide (x = .non))) H
theorem op_isNone : OpR X (compareOp .Is) rIsNone := op_isN
theorem op_notNone : OpR X (compareOp .IsNot) rNotNone := op_notN
def rMod : R2 := rI (fun _ j => 0 < j) fun i j => .int (i % j)
def rDivW : R2 := rI CDivW fun i j => .int (i / j)
def rSub_ : R2 := rI0 fun i j => .int (i - j)
def rLt : R2 := rI0 fun i j => .bl (decide (i < j))
def rLe : R2 := rI0 fun i j => .bl (decide (i ≤ j))
def rGt_ : R2 := rI0 fun i j => .bl (decide (j < i))
def rGe_ : R2 := rI0 fun i j => .bl (decide (j ≤ i))
def rPow : R2 := rI CPow fun i j => .int (i ^ j.toNat)
theorem op_modA : OpR X (binaryOp .Mod) rMod := op_mod
theorem op_divA : OpR X (binaryOp .FloorDiv) rDivW := op_fdivW
theorem op_subA : OpR X (binaryOp .Sub) rSub_ := op_sub
theorem op_powA : OpR X (binaryOp .Pow) rPow := op_pow
theorem op_ltA : OpR X (compareOp .Lt) rLt := op_lt
theorem op_leA : OpR X (compareOp .LtE) rLe := op_le
theorem op_gtA : OpR X (compareOp .Gt) rGt_ := op_gt
theorem op_geA : OpR X (compareOp .GtE) rGe_ := op_ge
def rNeg : V → Hp → VK → Prop := rU fun i => .int (-i)
theorem un_negA : UnR X (unaryOp .USub) rNeg := un_neg
/-! ### built-in calls -/
def cLen (K : PySem.W.Frag) : List V → Hp → VK → Prop := fun xs H Q => ∃ x n, xs = [x] ∧ LenV K x H n ∧ Q (.int n) H
theorem call_lenA : CallR X (.builtin "len") (cLen X.K) := call_len
def cAbs : List V → Hp → VK → Prop := fun xs H Q => ∃ i, xs = [.int i] ∧ Q (.int (if i < 0 then -i else i)) H
theorem call_absA : CallR X (.builtin "abs") cAbs := call_abs
def cInt : List V → Hp → VK → Prop := fun xs H Q => ∃ i, xs = [.int i] ∧ Q (.int i) H
theorem call_intA : CallR X (.type "int") cInt := fun pins s σ H xs us Q I r h => call_int1 pins s σ H xs us Q I r (.inl h)
def cStr : List V → Hp → VK → Prop := fun xs H Q => (∃ i, xs = [.int i] ∧ i.natAbs.log2 < 1920 ∧ Q (.str (toString i)) H) ∨ ∃ a, xs = [.str a] ∧ Q (.str a) H
theorem call_strA : CallR X (.type "str") cStr := CallR.or call_str_int SkE.call_str_str
def cList (K : PySem.W.Frag) : List V → Hp → VK → Prop := fun xs H Q => ∃ p ys, xs = [.ref p] ∧ (SqL K H p ys ∨ SqT K H p ys) ∧ ∀ l, H l = none → Q (.ref l) (upd H l (.lst ys))
theorem call_listA : CallR X (.type "list") (cList X.K) := call_list_of
def cTup (K : PySem.W.Frag) : List V → Hp → VK → Prop := fun xs H Q => ∃ p ys, xs = [.ref p] ∧ ((SqL K H p ys ∧ ∀ l, H l = none → Q (.ref l) (upd H l (.tup ys))) ∨ (SqT K H p ys ∧ Q (.ref p) H))
theorem call_tupA : CallR X (.type "tuple") (cTup X.K) := call_tuple_of
end

/-! ### a def of the top, a method, as they stand -/
structure TD (K : PySem.W.Frag) (mg : Str → Option Value) (x : Str) (st : Stmt) : Prop where
  ex : ∃ f fd, Fun K x x st f fd ∧ mg x = some (.ref f)
/-- .. and what it promises -/
structure Dn (P : Program) (w : World) (K : PySem.W.Frag) (mg : Str → Option Value) (base : Heap) (CX : CXT) (k : Nat) (x : Str) (sp : Sp) : Prop where
  ex : ∃ (f : Addr) (fd : FuncData) (ps : List Str), FnOk P w K mg base CX k f fd ps sp ∧ mg x = some (.ref f) ∧ PySem.W.keepIn K (.ref f) = true ∧ Binds K fd ps []
structure MD (K : PySem.W.Frag) (C : Addr) (m qual : Str) (st : Stmt) : Prop where
  ex : ∃ f fd, Fun K m qual st f fd ∧ Meth K C m f
structure Mn (P : Program) (w : World) (K : PySem.W.Frag) (mg : Str → Option Value) (base : Heap) (CX : CXT) (k : Nat) (C : Addr) (m : Str) (sp : Sp) : Prop where
  ex : ∃ (f : Addr) (fd : FuncData) (ps : List Str), FnOk P w K mg base CX k f fd ps sp ∧ Meth K C m f ∧ Binds K fd ps []
section
variable {P : Program} {w : World} {K : PySem.W.Frag} {mg : Str → Option Value} {base : Heap} {C : Addr} {x m qual : Str} {st : Stmt} {N ps : List Str} {k : Nat} {sp : Sp}
abbrev BindOk (x qual : Str) (st : Stmt) (ps : List Str) : Prop := ∀ (kV doc pm : Value) (an : Option Addr) (cdv ct : Value) (us : List Value), us.length = ps.length → bindArgs (PySem.W.fnOf x qual (defArgs st) (defBody st) (defScope st) .none kV doc pm an cdv ct) ⟨us, []⟩ = pure (ps.zip us)
abbrev Body0 (P : Program) (w : World) (K : PySem.W.Frag) (mg : Str → Option Value) (base : Heap) (qual : Str) (st : Stmt) (N : List Str) (k : Nat) (sp : Sp) : Prop :=
  ∀ (f : Addr) (cdv : Value) (A : Around) (outer : List Env) (s : Shared) (H : Hp) (vs : List V) (Q : VK) (E : XK), Room k (A.deeper (envOfC qual (defScope st) s.heap.objs.size f cdv)) → sp vs H Q E →
      ∃ t, PSs (cxOf CX0 P w K mg base N qual (defScope st) f cdv A outer s H E).nox (defBody st) t ∧ t { nx := fun _ H' => Q .non H', rt := Q } (L2.start N vs) H
abbrev BodyX (P : Program) (w : World) (K : PySem.W.Frag) (mg : Str → Option Value) (base : Heap) (qual : Str) (st : Stmt) (N : List Str) (k : Nat) (sp : Sp) : Prop :=
  ∀ (f : Addr) (cdv : Value) (A : Around) (outer : List Env) (s : Shared) (H : Hp) (vs : List V) (Q : VK) (E : XK), Room k (A.deeper (envOfC qual (defScope st) s.heap.objs.size f cdv)) → sp vs H Q E →
      ∃ t, PSs (cxOf (L2.CX P w) P w K mg base N qual (defScope st) f cdv A outer s H E) (defBody st) t ∧ t { nx := fun _ H' => Q .non H', rt := Q } (L2.start N vs) H
theorem TD.dn (D : TD K mg x st) (S : FnScope N ps (defScope st)) (b : BindOk x x st ps) (len : ∀ vs H Q E, sp vs H Q E → vs.length = ps.length) (body : Body0 P w K mg base x st N k sp) : Dn P w K mg base CX0 (k + 1) x sp :=
  let ⟨f, fd, F, hm⟩ := D.ex
  ⟨f, fd, ps, F.ok S len (body f), hm, F.kp, F.binds b⟩
theorem TD.dx (D : TD K mg x st) (S : FnScope N ps (defScope st)) (b : BindOk x x st ps) (len : ∀ vs H Q E, sp vs H Q E → vs.length = ps.length) (body : BodyX P w K mg base x st N k sp) : Dn P w K mg base (L2.CX P w) (k + 1) x sp :=
  let ⟨f, fd, F, hm⟩ := D.ex
  ⟨f, fd, ps, F.okX S len (body f), hm, F.kp, F.binds b⟩
theorem MD.mn (D : MD K C m qual st) (S : FnScope N ps (defScope st)) (b : BindOk m qual st ps) (len : ∀ vs H Q E, sp vs H Q E → vs.length = ps.length) (body : Body0 P w K mg base qual st N k sp) : Mn P w K mg base CX0 (k + 1) C m sp :=
  let ⟨f, fd, F, hm⟩ := D.ex
  ⟨f, fd, ps, F.ok S len (body f), hm, F.binds b⟩
theorem MD.mx (D : MD K C m qual st) (S : FnScope N ps (defScope st)) (b : BindOk m qual st ps) (len : ∀ vs H Q E, sp vs H Q E → vs.length = ps.length) (body : BodyX P w K mg base qual st N k sp) : Mn P w K mg base (L2.CX P w) (k + 1) C m sp :=
  let ⟨f, fd, F, hm⟩ := D.ex
  ⟨f, fd, ps, F.okX S len (body f), hm, F.binds b⟩
end
section
variable {X : Cx} {CX : CXT} {k j : Nat} {C : Addr} {sp : Sp} {E : XK} {x m : Str} {p pos apos : Pos} {e o : Expr} {es : List Expr} {ta : TE} {t : TA}
/-- f(e, ..) -/
theorem pe_d (d : Dn X.prog X.w X.K X.mg X.base CX k x sp) (hr : Room j X.A) (hk : k ≤ j) (hx : Passes CX X E) (hg : Gl X x) (ha : PA X (e :: es) t) (hdb : (x == ("__debug__" : Str)) = false := by decide)
    (he : starEach (e :: es) X.env = (false, eval e X.env) :: starEach es X.env := by rfl) (hpl : (backTo pos (starEach es X.env)).any (·.1) = false := by rfl) : PE X (.Call (.Name x p) (e :: es) [] pos) (tCall sp [] E t) := by
  obtain ⟨f, fd, ps, F, hm, hkp, hb⟩ := d.ex
  exact pe_call F (hr.mono hk) hg hm hkp hb .nil hx ha hdb he hpl
/-- o.m(e, ..), o.m() -/
theorem pe_m {pl : Sem Bool} (d : Mn X.prog X.w X.K X.mg X.base CX k C m sp) (c : Cls X.K C) (hr : Room j X.A) (hk : k ≤ j) (hx : Passes CX X E) (he : PE X o ta) (ha : PA X (e :: es) t)
    (hst : starEach (e :: es) X.env = (false, eval e X.env) :: starEach es X.env := by rfl) (hpl : (backTo pos (starEach es X.env)).any (·.1) = false := by rfl)
    (ht : eval (.Call (.Attribute o m apos) (e :: es) [] pos) X.env = (do
      let ov ← eval o X.env
      standAt apos.atName
      let (f, first) ← holding [ov] (getMethod ov m pl)
      callWith pos f first (backTo pos (starEach (e :: es) X.env)) (backToKw pos (keywordEach [] X.env))) := by rfl) : PE X (.Call (.Attribute o m apos) (e :: es) [] pos) (tMeth C m sp [] E ta t) := by
  obtain ⟨f, fd, ps, F, hm, hb⟩ := d.ex
  exact pe_meth he c hm F (hr.mono hk) hb .nil hx ha hst hpl ht
theorem pe_m' {pl : Sem Bool} (d : Mn X.prog X.w X.K X.mg X.base CX k C m sp) (c : Cls X.K C) (hr : Room j X.A) (hk : k ≤ j) (hx : Passes CX X E) (he : PE X o ta)
    (ht : eval (.Call (.Attribute o m apos) [] [] pos) X.env = (do
      let ov ← eval o X.env
      standAt apos.atName
      let (f, first) ← holding [ov] (getMethod ov m pl)
      callWith pos f first (backTo pos (starEach [] X.env)) (backToKw pos (keywordEach [] X.env))) := by rfl) : PE X (.Call (.Attribute o m apos) [] [] pos) (tMeth C m sp [] E ta tNil) := by
  obtain ⟨f, fd, ps, F, hm, hb⟩ := d.ex
  exact pe_meth0 he c hm F (hr.mono hk) hb .nil hx ht
/-- C(e, ..) -/
structure Kn (P : Program) (w : World) (K : PySem.W.Frag) (mg : Str → Option Value) (base : Heap) (CX : CXT) (k : Nat) (C : Addr) (x : Str) (sp : Sp) : Prop where
  ex : ∃ (f : Addr) (fd : FuncData) (ps : List Str), FnOk P w K mg base CX k f fd ps sp ∧ Mk K C f ∧ Binds K fd ps [] ∧ mg x = some (.ref C)
theorem pe_k (d : Kn X.prog X.w X.K X.mg X.base CX k C x sp) (hr : Room j X.A) (hk : k + 1 ≤ j) (hx : Passes CX X E) (hg : Gl X x) (ha : PA X (e :: es) t) (hdb : (x == ("__debug__" : Str)) = false := by decide)
    (he : starEach (e :: es) X.env = (false, eval e X.env) :: starEach es X.env := by rfl) (hpl : (backTo pos (starEach es X.env)).any (·.1) = false := by rfl) : PE X (.Call (.Name x p) (e :: es) [] pos) (tMake C sp [] E t) := by
  obtain ⟨f, fd, ps, F, M, hb, hm⟩ := d.ex
  exact pe_make M F (hr.mono hk) hg hm hb .nil hx ha hdb he hpl
end

/-! ### what of the heap is kept -/
/-- all but p is as it was -/
def But (p : Addr) (H H' : Hp) : Prop := ∀ b o, H b = some o → b ≠ p → H' b = some o
theorem Same.but {p : Addr} {H H' : Hp} (s : Same H H') : But p H H' := fun b o e _ => s b o e
theorem But.trans {p : Addr} {H H1 H2 : Hp} (a : But p H H1) (b : But p H1 H2) : But p H H2 := fun c o e n => b c o (a c o e n) n
theorem But.refl {p : Addr} (H : Hp) : But p H H := fun _ _ e _ => e
theorem Same.new {H : Hp} {p : Addr} {o : HO} (h : H p = none) : Same H (upd H p o) := fun b u e => by rw [upd_ne (ne_of_none e h)]; exact e
theorem But.at_ {p : Addr} {H : Hp} {o : HO} : But p H (upd H p o) := fun b u e n => by rw [upd_ne n]; exact e
/-- changed at a place that H does not know -/
theorem Same.put {H H' : Hp} {p : Addr} {o : HO} (s : Same H H') (h : H p = none) : Same H (upd H' p o) := fun b u e => by rw [upd_ne (ne_of_none e h)]; exact s b u e
theorem But.put {q : Addr} {H H' : Hp} {p : Addr} {o : HO} (s : But q H H') (h : H p = none) : But q H (upd H' p o) := fun b u e n => by rw [upd_ne (ne_of_none e h)]; exact s b u e n
theorem But.sqL {K : PySem.W.Frag} {p a : Addr} {H H' : Hp} {xs : List V} (s : But p H H') (n : a ≠ p) (h : SqL K H a xs) : SqL K H' a xs := by
  rcases h with (h | ⟨o, h⟩) | h
  · exact .inl (.inl (s _ _ h n))
  · exact .inl (.inr ⟨o, s _ _ h n⟩)
  · exact .inr h
theorem But.sqT {K : PySem.W.Frag} {p a : Addr} {H H' : Hp} {xs : List V} (s : But p H H') (n : a ≠ p) (h : SqT K H a xs) : SqT K H' a xs := by
  rcases h with (h | ⟨o, h⟩) | h
  · exact .inl (.inl (s _ _ h n))
  · exact .inl (.inr ⟨o, s _ _ h n⟩)
  · exact .inr h
theorem Same.sqT {K : PySem.W.Frag} {a : Addr} {H H' : Hp} {xs : List V} (s : Same H H') (h : SqT K H a xs) : SqT K H' a xs := by
  rcases h with (h | ⟨o, h⟩) | h
  · exact .inl (.inl (s _ _ h))
  · exact .inl (.inr ⟨o, s _ _ h⟩)
  · exact .inr h
theorem Same.sqL {K : PySem.W.Frag} {a : Addr} {H H' : Hp} {xs : List V} (s : Same H H') (h : SqL K H a xs) : SqL K H' a xs := Same.seq s h
/-- the pool of drawn ints -/
def Pl (H : Hp) (p : Addr) : Prop := ∃ ns : List Int, H p = some (.lst (ns.map V.int))
theorem Pl.same {H H' : Hp} {p : Addr} (x : Pl H p) (s : Same H H') : Pl H' p := let ⟨ns, e⟩ := x; ⟨ns, s _ _ e⟩
theorem Pl.put {H : Hp} {p q : Addr} {o : HO} (x : Pl H p) (n : p ≠ q) : Pl (upd H q o) p := let ⟨ns, e⟩ := x; ⟨ns, by rw [upd_ne n]; exact e⟩
theorem Pl.ne {H : Hp} {p q : Addr} (x : Pl H p) (h : H q = none) : p ≠ q := let ⟨_, e⟩ := x; ne_of_none e h
theorem But.free {H H' : Hp} {p q : Addr} (s : But p H H') (x : Pl H' p) (h : H' q = none) : H q = none := by
  cases e : H q with
  | none => rfl
  | some o => rw [s q o e (Ne.symm (x.ne h))] at h; cases h
end UL

set_option Elab.async false
set_option linter.all false
set_option maxRecDepth 100000
set_option maxHeartbeats 2000000
/-! readings of the unions at values of known kind -/
namespace UL
open PySem PySem.Spec PyProof.Rows L2
section
variable {X : Cx} {K : PySem.W.Frag} {H : Hp} {Q : VK} {i j : Int} {x y : Str} {a b : Addr}
theorem op_inK (K : PySem.W.Frag) (h : X.K = K) : OpR X (compareOp .In) (rInA K) := h ▸ op_inA
theorem pa_starK (K : PySem.W.Frag) (hK : X.K = K) {e : Expr} {es : List Expr} {p : Pos} {te : TE} {t : TA} (he : PE X e te) (hr : PA X es t) (hs : starEach (.Starred e p :: es) X.env = (true, eval e X.env) :: starEach es X.env := by rfl) : PA X (.Starred e p :: es) (StX.tStar K te t) := hK ▸ StX.pa_star he hr hs
theorem cxK {CX : CXT} {P : Program} {w : World} {mg : Str → Option Value} {base : Heap} {N : List Str} {qual : Str} {scope : Scope} {f : Addr} {cd : Value} {A : Around} {outer : List Env} {s : Shared} {H : Hp} {E : XK} : (cxOf CX P w K mg base N qual scope f cd A outer s H E).K = K := rfl
theorem noxK : (X.nox).K = X.K := rfl
theorem addII : rAddA K (.int i) (.int j) H Q ↔ Q (.int (i + j)) H := by
  simp [rAddA, rI0, rCatA, rCat]
theorem addSS : rAddA K (.str x) (.str y) H Q ↔ (x.length + y.length ≤ sizeLine ∧ Q (.str (x ++ y)) H) := by
  simp [rAddA, rAddS', rI0, rCatA, rCat]
theorem mulII : rMulA K (.int i) (.int j) H Q ↔ (CMul i j ∧ Q (.int (i * j)) H) := by
  simp [rMulA, rI, rMulS, rRepU]
theorem cIntI : cInt [.int i] H Q ↔ Q (.int i) H := by simp [cInt]
theorem cAbsI : cAbs [.int i] H Q ↔ Q (.int (if i < 0 then -i else i)) H := by simp [cAbs]
theorem dpI {d : PyData} : Dp K H (.int i) d ↔ d = .int i := ⟨fun h => by cases h; rfl, fun h => h ▸ .int i⟩
theorem dpS {d : PyData} : Dp K H (.str x) d ↔ d = .str x := ⟨fun h => by cases h; rfl, fun h => h ▸ .str x⟩
theorem eqII : rEqA K (.int i) (.int j) H Q ↔ Q (.bl (decide (i = j))) H := by
  have e : (i == j) = decide (i = j) := rfl
  constructor
  · rintro (⟨_, q⟩ | ⟨d, e', h1, h2, _, _, q⟩)
    · simpa using q
    · rw [dpI] at h1 h2; subst h1 h2; exact q
  · intro q; exact .inl ⟨rfl, by simpa using q⟩
theorem neII : rNeA K (.int i) (.int j) H Q ↔ Q (.bl (!decide (i = j))) H := by
  constructor
  · rintro (⟨_, q⟩ | ⟨d, e', h1, h2, _, _, q⟩)
    · simpa using q
    · rw [dpI] at h1 h2; subst h1 h2; exact q
  · intro q; exact .inl ⟨rfl, by simpa using q⟩
theorem neSS : rNeA K (.str x) (.str y) H Q ↔ Q (.bl (!decide (x = y))) H := by
  have e : (x == y) = decide (x = y) := by rw [Bool.eq_iff_iff]; simp
  constructor
  · rintro (⟨_, q⟩ | ⟨d, e', h1, h2, _, _, q⟩)
    · simpa using q
    · rw [dpS] at h1 h2; subst h1 h2; rw [← e]; exact q
  · intro q; exact .inl ⟨rfl, by simpa using q⟩
/-- an int or a text -/
def fl2 : V → Bool
  | .int _ => true
  | .str x => PyData.strOk x
  | _ => false
def dV : V → PyData
  | .int i => .int i
  | .str x => .str x
  | _ => .none
theorem dV_dp {v : V} (h : fl2 v = true) : Dp K H v (dV v) := by
  cases v <;> first | exact .int _ | exact .str _ | exact nomatch h
theorem dV_all : ∀ {xs : List V}, xs.all fl2 = true → DpAll K H xs (xs.map dV)
  | [], _ => .nil
  | x :: r, h => by
    rw [List.all_cons, Bool.and_eq_true] at h
    exact .cons (dV_dp h.1) (dV_all h.2)
theorem dV_shape : ∀ {xs : List V}, xs.all fl2 = true → PyData.canLayAll0 (xs.map dV) = true ∧ PyData.depthAll (xs.map dV) ≤ 1
  | [], _ => by simp [PyData.canLayAll0, PyData.depthAll]
  | x :: r, h => by
    rw [List.all_cons, Bool.and_eq_true] at h
    have ih := dV_shape (xs := r) h.2
    have h0 : PyData.canLay0 (dV x) = true ∧ PyData.depth (dV x) ≤ 1 := by cases x <;> simp_all [dV, fl2, PyData.canLay0, PyData.depth]
    simp only [List.map_cons, PyData.canLayAll0, PyData.depthAll, h0.1, ih.1, Bool.and_self, true_and]
    omega
theorem dV_eqv : ∀ {xs : List V}, PyData.eqvAll (xs.map dV) (xs.map dV) = true
  | [] => by simp [PyData.eqvAll]
  | x :: r => by
    have ih := dV_eqv (xs := r)
    have h0 : PyData.eqv (dV x) (dV x) = true := by cases x <;> simp [dV, PyData.eqv]
    simp only [List.map_cons, PyData.eqvAll, h0, ih, Bool.and_self]
theorem lst_shape {xs : List V} (hf : xs.all fl2 = true) : SeqAt.shaped (.list (xs.map dV)) = true := by
  have h := dV_shape hf
  have h2 := h.2
  have h1 : PyData.canLay0 (.list (xs.map dV)) = true := by rw [PyData.canLay0]; exact h.1
  have h3 : PyData.depth (.list (xs.map dV)) ≤ 64 := by rw [PyData.depth]; omega
  show (_ && _) = true
  rw [h1, decide_eq_true h3]; rfl
/-- two lists of the same ints and texts -/
theorem eqLL {xs : List V} (hf : xs.all fl2 = true) (ha : SqL K H a xs) (hb : SqL K H b xs) (q : Q (.bl true) H) : rEqA K (.ref a) (.ref b) H Q :=
  .inr ⟨.list (xs.map dV), .list (xs.map dV), .lst ha (dV_all hf), .lst hb (dV_all hf), lst_shape hf, lst_shape hf, by rw [PyData.eqv, dV_eqv]; exact q⟩
theorem neLL {xs : List V} (hf : xs.all fl2 = true) (ha : SqL K H a xs) (hb : SqL K H b xs) (q : Q (.bl false) H) : rNeA K (.ref a) (.ref b) H Q :=
  .inr ⟨.list (xs.map dV), .list (xs.map dV), .lst ha (dV_all hf), .lst hb (dV_all hf), lst_shape hf, lst_shape hf, by rw [PyData.eqv, dV_eqv]; exact q⟩
/-- xs == [] -/
theorem eqL0 {xs : List V} (hf : xs.all fl2 = true) (ha : SqL K H a xs) (hb : SqL K H b []) (q : Q (.bl (decide (xs = []))) H) : rEqA K (.ref a) (.ref b) H Q :=
  .inr ⟨.list (xs.map dV), .list [], .lst ha (dV_all hf), .lst hb .nil, lst_shape hf, lst_shape (xs := []) rfl, by
    have e : PyData.eqv (.list (xs.map dV)) (.list []) = decide (xs = []) := by cases xs <;> simp [PyData.eqv, PyData.eqvAll]
    rw [e]; exact q⟩
theorem fl2_ints {ns : List Int} : (ns.map V.int).all fl2 = true := by simp [fl2]
theorem fl2_strs {ns : List Str} (h : ∀ z ∈ ns, PyData.strOk z = true) : (ns.map V.str).all fl2 = true := by simpa [fl2] using h
/-- isinstance of what is known -/
theorem isiI {t : String} {r : Bool} (hk : PySem.W.kitOne K (.type "int") (.type t) = some r) (q : Q (.bl r) H) : rIsi K [.int i, .ty t] H Q := ⟨_, _, _, _, _, rfl, .ty t, .base (.int i), hk, q⟩
theorem isiS {t : String} {r : Bool} (hk : PySem.W.kitOne K (.type "str") (.type t) = some r) (q : Q (.bl r) H) : rIsi K [.str x, .ty t] H Q := ⟨_, _, _, _, _, rfl, .ty t, .base (.str x), hk, q⟩
theorem lenL {xs : List V} (h : SqL K H a xs) (q : Q (.int xs.length) H) : cLen K [.ref a] H Q := ⟨_, _, rfl, .inl ⟨xs, h, rfl⟩, q⟩
theorem lenT {xs : List V} (h : SqT K H a xs) (q : Q (.int xs.length) H) : cLen K [.ref a] H Q := ⟨_, _, rfl, .inr ⟨xs, h, rfl⟩, q⟩
theorem lenS (h : x.length ≤ sizeLine) (q : Q (.int x.length) H) : cLen K [.str x] H Q := ⟨_, _, rfl, ⟨h, rfl⟩, q⟩
theorem ixL {xs : List V} {v : V} (h : SqL K H a xs) (e : atI xs i = some v) (q : Q v H) : rIx K (.ref a) (.int i) H Q := .inl ⟨a, xs, i, v, rfl, rfl, h, e, q⟩
theorem ixT {xs : List V} {v : V} (h : SqT K H a xs) (e : atI xs i = some v) (q : Q v H) : rIx K (.ref a) (.int i) H Q := .inr (.inl ⟨a, xs, i, v, rfl, rfl, h, e, q⟩)
theorem ixS {c : Nat} (h : x.length ≤ sizeLine) (e : atI x.cps.toList i = some c) (q : Q (.str ⟨#[c]⟩) H) : rIx K (.str x) (.int i) H Q := .inr (.inr ⟨x, i, c, rfl, rfl, h, e, q⟩)
theorem atN {α : Type} {xs : List α} {n : Nat} {v : α} (h : xs[n]? = some v) : atI xs (n : Int) = some v := by
  obtain ⟨l, _⟩ := List.getElem?_eq_some_iff.mp h
  unfold atI ixN
  rw [if_pos (Int.natCast_nonneg n), if_pos (by omega)]
  exact h
theorem chain2 {ta tb tc : TE} {f g : Int → Int → Bool} {σ : L2.St} {i j k : Int} (h1 : ∀ R : VK, R (.int i) H → ta σ H R) (h2 : ∀ R : VK, R (.int j) H → tb σ H R) (h3 : ∀ R : VK, R (.int k) H → tc σ H R) (q : Q (.bl (f i j && g j k)) H) :
    tChain (rI0 fun i j => .bl (f i j)) (rI0 fun i j => .bl (g i j)) ta tb tc σ H Q := by
  refine h1 _ (h2 _ ⟨i, j, rfl, rfl, f i j, rfl, ?_⟩)
  cases e : f i j
  · rw [e] at q; exact q
  · rw [e, Bool.true_and] at q; rw [if_pos rfl]; exact h3 _ ⟨j, k, rfl, rfl, q⟩
end
end UL

set_option Elab.async false
set_option linter.all false
set_option maxRecDepth 100000
set_option maxHeartbeats 2000000
/-! loops as words that a reading stops at -/
namespace UL
open PySem PySem.Spec PyProof.Rows L2
/-- what a for over J wants -/
def FJ (J : It) (g : TG) (tb : TS) (D : Ends) (σ : L2.St) (H : Hp) : Prop := ∃ W : Nat → Nat → L2.St → Hp → Prop, (∃ m, W 0 m σ H) ∧ ∀ i m σ H, W i m σ H →
  (J.stop i H ∧ D.nx σ H) ∨ (J.go i H ∧ ∃ N : L2.St → Hp → Prop, (∀ σ' H', N σ' H' → ∃ m', m' < m ∧ W (i + 1) m' σ' H') ∧ ∀ x H', J.yld i H x H' → g x σ H' fun σ2 H2 => tb { D with nx := N, ct := N, bk := D.nx } σ2 H2)
theorem tFor_eq {wi : TI} {g : TG} {tb : TS} {D : Ends} {σ : L2.St} {H : Hp} : tFor wi g tb D σ H = wi σ H fun J H1 => FJ J g tb D σ H1 := rfl
/-- what a comprehension over J wants of its list at D -/
def LJ (J : It) (g : TG) (tt : TT) (te : TE) (vs : List Nat) (σ : L2.St) (D : Addr) (Qd : Hp → Prop) (H1 : Hp) : Prop := ∃ W : Nat → Nat → Hp → Prop, (∃ m, W 0 m (upd H1 D (.lst []))) ∧ ∀ i m H, W i m H →
  (J.stop i H ∧ Qd H) ∨ (J.go i H ∧ ∃ Nx : Hp → Prop, (∀ H', Nx H' → ∃ m', m' < m ∧ W (i + 1) m' H') ∧ ∀ x H', J.yld i H x H' → g x (wipe σ vs) H' fun σ2 H2 => wipe σ2 vs = wipe σ vs ∧ tt σ2 H2 fun b H3 =>
    if b = true then te σ2 H3 fun y H4 => ∃ acc, H4 D = some (.lst acc) ∧ acc.length < sizeLine ∧ Nx (upd H4 D (.lst (acc ++ [y]))) else Nx H3)
theorem tLc_eq {wi : TI} {g : TG} {tt : TT} {te : TE} {vs : List Nat} {σ : L2.St} {H : Hp} {Q : VK} : tLc wi g tt te vs σ H Q = wi σ H fun J H1 => ∀ D, H1 D = none → LJ J g tt te vs σ D (fun H2 => Q (.ref D) H2) H1 := rfl
theorem iRng1_eq {ta : TA} {σ : L2.St} {H : Hp} {R : It → Hp → Prop} : iRng1 ta σ H R = ta σ H fun vs H1 => ∃ j : Int, vs = [.int j] ∧ -(2 ^ 62) ≤ j ∧ j < 2 ^ 62 ∧ R (Itr 0 j.toNat) H1 := rfl
section
variable {K : PySem.W.Frag} {J : It} {n : Nat} {G : Hp → Prop} {Y : Nat → Hp → V → Hp → Prop} {g : TG} {tb : TS} {D : Ends} {σ : L2.St} {H : Hp} {a b : Addr} {xs ys : List V} {lo : Int}
theorem FJ.range (Pv : Nat → L2.St → Hp → Prop) (h0 : Pv 0 σ H) (hs : ∀ i σ H, i < n → Pv i σ H → g (.int (lo + i)) σ H fun σ2 H2 => tb { D with nx := Pv (i + 1), ct := Pv (i + 1), bk := D.nx } σ2 H2) (hd : ∀ σ H, Pv n σ H → D.nx σ H) : FJ (Itr lo n) g tb D σ H := for_range Pv h0 hs hd
/-- range(j) -/
theorem FJ.rangeI {j : Int} (Pv : Nat → L2.St → Hp → Prop) (hj : 0 ≤ j) (h0 : Pv 0 σ H) (hs : ∀ (i : Nat) σ H, (i : Int) < j → Pv i σ H → g (.int i) σ H fun σ2 H2 => tb { D with nx := Pv (i + 1), ct := Pv (i + 1), bk := D.nx } σ2 H2) (hd : ∀ σ H, Pv j.toNat σ H → D.nx σ H) : FJ (Itr 0 j.toNat) g tb D σ H :=
  for_range Pv h0 (fun i σ H hi p => by have := hs i σ H (by omega) p; simpa using this) hd
theorem FJ.list (Pv : Nat → L2.St → Hp → Prop) (h0 : Pv 0 σ H) (hl : ∀ i σ H, i ≤ xs.length → Pv i σ H → SqL K H a xs)
    (hs : ∀ i x σ H, xs[i]? = some x → Pv i σ H → g x σ H fun σ2 H2 => tb { D with nx := Pv (i + 1), ct := Pv (i + 1), bk := D.nx } σ2 H2) (hd : ∀ σ H, Pv xs.length σ H → D.nx σ H) : FJ (Itl K a) g tb D σ H := for_list Pv h0 hl hs hd
theorem FJ.tup (Pv : Nat → L2.St → Hp → Prop) (h0 : Pv 0 σ H) (hl : ∀ i σ H, i ≤ xs.length → Pv i σ H → SqT K H a xs)
    (hs : ∀ i x σ H, xs[i]? = some x → Pv i σ H → g x σ H fun σ2 H2 => tb { D with nx := Pv (i + 1), ct := Pv (i + 1), bk := D.nx } σ2 H2) (hd : ∀ σ H, Pv xs.length σ H → D.nx σ H) : FJ (Itt K a) g tb D σ H := for_tup Pv h0 hl hs hd
theorem FJ.zip {k1 k2 : Kd} (hl : xs.length = ys.length) (Pv : Nat → L2.St → Hp → Prop) (h0 : Pv 0 σ H) (hq : ∀ i σ H, Pv i σ H → k1.Sq K H a xs ∧ k2.Sq K H b ys)
    (hs : ∀ (i : Nat) (x y : V) (T : Addr) (σ : L2.St) (H : Hp), xs[i]? = some x → ys[i]? = some y → Pv i σ H → H T = none → g (.ref T) σ (upd H T (.tup [x, y])) fun σ2 H2 => tb { D with nx := Pv (i + 1), ct := Pv (i + 1), bk := D.nx } σ2 H2) (hd : ∀ σ H, Pv xs.length σ H → D.nx σ H) :
    FJ (ItzK k1 k2 K a b) g tb D σ H := for_zipK hl Pv h0 hq hs hd
variable {tt : TT} {te : TE} {vs : List Nat} {D : Addr} {Qd : Hp → Prop} {H1 : Hp}
theorem LJ.it (w : Walk J n G Y) (Pv : Nat → Hp → Prop) (h0 : Pv 0 (upd H1 D (.lst []))) (hG : ∀ i H, i ≤ n → Pv i H → G H)
    (hs : ∀ i x H H', i < n → Pv i H → Y i H x H' → g x (wipe σ vs) H' fun σ2 H2 => wipe σ2 vs = wipe σ vs ∧ tt σ2 H2 fun b H3 =>
      if b = true then te σ2 H3 fun y H4 => ∃ acc, H4 D = some (.lst acc) ∧ acc.length < sizeLine ∧ Pv (i + 1) (upd H4 D (.lst (acc ++ [y]))) else Pv (i + 1) H3) (hd : ∀ H, Pv n H → Qd H) : LJ J g tt te vs σ D Qd H1 := lc_it w Pv h0 hG hs hd
end
/-- the inner loop of a comprehension with two fors -/
def NJ (J1 : It) (g1 : TG) (tt1 : TT) (te : TE) (vs1 : List Nat) (σ2 : L2.St) (D : Addr) (Nx : Hp → Prop) (H4 : Hp) : Prop := ∃ W1 : Nat → Nat → Hp → Prop, (∃ m, W1 0 m H4) ∧ ∀ j k H, W1 j k H →
      (J1.stop j H ∧ Nx H) ∨ (J1.go j H ∧ ∃ Nx1 : Hp → Prop, (∀ H', Nx1 H' → ∃ k', k' < k ∧ W1 (j + 1) k' H') ∧ ∀ x H', J1.yld j H x H' → g1 x (wipe σ2 vs1) H' fun σ3 H5 => wipe σ3 vs1 = wipe σ2 vs1 ∧ tt1 σ3 H5 fun b H6 =>
        if b = true then te σ3 H6 fun y H7 => ∃ acc, H7 D = some (.lst acc) ∧ acc.length < sizeLine ∧ Nx1 (upd H7 D (.lst (acc ++ [y]))) else Nx1 H6)
def LJ2 (J : It) (g : TG) (tt : TT) (wi1 : TI) (g1 : TG) (tt1 : TT) (te : TE) (vs vs1 : List Nat) (σ : L2.St) (D : Addr) (Qd : Hp → Prop) (H1 : Hp) : Prop := ∃ W : Nat → Nat → Hp → Prop, (∃ m, W 0 m (upd H1 D (.lst []))) ∧ ∀ i m H, W i m H →
  (J.stop i H ∧ Qd H) ∨ (J.go i H ∧ ∃ Nx : Hp → Prop, (∀ H', Nx H' → ∃ m', m' < m ∧ W (i + 1) m' H') ∧ ∀ x H', J.yld i H x H' → g x (wipe σ vs) H' fun σ2 H2 => wipe σ2 vs = wipe σ vs ∧ tt σ2 H2 fun b H3 =>
    if b = true then wi1 σ2 H3 fun J1 H4 => NJ J1 g1 tt1 te vs1 σ2 D Nx H4 else Nx H3)
theorem tLc2_eq {wi : TI} {g : TG} {tt : TT} {wi1 : TI} {g1 : TG} {tt1 : TT} {te : TE} {vs vs1 : List Nat} {σ : L2.St} {H : Hp} {Q : VK} :
    tLc2 wi g tt wi1 g1 tt1 te vs vs1 σ H Q = wi σ H fun J H1 => ∀ D, H1 D = none → LJ2 J g tt wi1 g1 tt1 te vs vs1 σ D (fun H2 => Q (.ref D) H2) H1 := rfl
section
variable {J : It} {n : Nat} {G : Hp → Prop} {Y : Nat → Hp → V → Hp → Prop} {g g1 : TG} {tt tt1 : TT} {te : TE} {wi1 : TI} {σ : L2.St} {vs vs1 : List Nat} {D : Addr} {Qd : Hp → Prop} {H1 : Hp}
theorem NJ.it (w : Walk J n G Y) (Pv : Nat → Hp → Prop) (h0 : Pv 0 H1) (hG : ∀ i H, i ≤ n → Pv i H → G H)
    (hs : ∀ i x H H', i < n → Pv i H → Y i H x H' → g x (wipe σ vs) H' fun σ2 H2 => wipe σ2 vs = wipe σ vs ∧ tt σ2 H2 fun b H3 =>
      if b = true then te σ2 H3 fun y H4 => ∃ acc, H4 D = some (.lst acc) ∧ acc.length < sizeLine ∧ Pv (i + 1) (upd H4 D (.lst (acc ++ [y]))) else Pv (i + 1) H3) (hd : ∀ H, Pv n H → Qd H) : NJ J g tt te vs σ D Qd H1 := by
  refine ⟨fun i m H => m = n - i ∧ i ≤ n ∧ Pv i H, ⟨n, by simp, Nat.zero_le _, h0⟩, ?_⟩
  rintro i m H ⟨rfl, hi, p⟩
  have q := hG i H hi p
  by_cases hlt : i < n
  · exact .inr ⟨w.goes i H hlt q, Pv (i + 1), fun H' p' => ⟨n - (i + 1), by omega, rfl, hlt, p'⟩, fun x H' y => hs i x H H' hlt p (w.yields i H x H' hlt q y)⟩
  · have e : i = n := by omega
    subst e
    exact .inl ⟨w.stops H q, hd H p⟩
theorem LJ2.it (w : Walk J n G Y) (Pv : Nat → Hp → Prop) (h0 : Pv 0 (upd H1 D (.lst []))) (hG : ∀ i H, i ≤ n → Pv i H → G H)
    (hs : ∀ i x H H', i < n → Pv i H → Y i H x H' → g x (wipe σ vs) H' fun σ2 H2 => wipe σ2 vs = wipe σ vs ∧ tt σ2 H2 fun b H3 =>
      if b = true then wi1 σ2 H3 fun J1 H4 => NJ J1 g1 tt1 te vs1 σ2 D (Pv (i + 1)) H4 else Pv (i + 1) H3) (hd : ∀ H, Pv n H → Qd H) : LJ2 J g tt wi1 g1 tt1 te vs vs1 σ D Qd H1 := by
  refine ⟨fun i m H => m = n - i ∧ i ≤ n ∧ Pv i H, ⟨n, by simp, Nat.zero_le _, h0⟩, ?_⟩
  rintro i m H ⟨rfl, hi, p⟩
  have q := hG i H hi p
  by_cases hlt : i < n
  · exact .inr ⟨w.goes i H hlt q, Pv (i + 1), fun H' p' => ⟨n - (i + 1), by omega, rfl, hlt, p'⟩, fun x H' y => hs i x H H' hlt p (w.yields i H x H' hlt q y)⟩
  · have e : i = n := by omega
    subst e
    exact .inl ⟨w.stops H q, hd H p⟩
end
end UL

set_option Elab.async false
set_option linter.all false
set_option maxRecDepth 100000
set_option maxHeartbeats 2000000
/-! a tuple that is known to have no dict: tuple(list), and its methods -/
namespace UL
open PySem PySem.Spec PyProof.Rows L2
section
variable {X : Cx}
def cTupF (K : PySem.W.Frag) : List V → Hp → VK → Prop := fun xs H Q => ∃ p ys, xs = [.ref p] ∧ SqL K H p ys ∧ ∀ l o, H l = none → o.dict = none → Q (.ref l) (upd H l (.frz o (.tup ys)))
theorem call_tupF : CallR X (.type "tuple") (cTupF X.K) := by
  intro pins s σ H xs us Q I r h
  obtain ⟨p, ys, rfl, hq, q⟩ := h
  obtain rfl := Vals.ref1 r
  obtain ⟨its, r', pl, hz⟩ := I.list hq
  have hlen := r'.length
  refine call_tuple_list pl.isList (fun h' kp => ?_) (by simp only [List.size_toArray] <;> omega)
  have I1 : Inv X pins σ H { s with heap := h' } := I.kept (t' := s.toks) kp
  exact ⟨.ref h'.objs.size, _, I1.laid (t' := s.toks) (fun b o e => Heap.get?_push_of_some _ e) (Nat.le_refl _) (show ObjOk X.prog X.w _ _ _ (.frz { cls := .type "tuple", data := .seq its.toArray } (.tup ys)) from ⟨Heap.get?_push_size _ rfl, hz, its, r', IsTup.new _ _⟩), rfl, q _ _ (I1.hok.fresh (Nat.le_refl _)) rfl⟩
/-- of a tuple without a dict -/
def tBMF (r : V → List V → Hp → VK → Prop) (to : TE) (t : TA) : TE := fun σ H Q => to σ H fun x H1 => (∃ p o ys, x = .ref p ∧ H1 p = some (.frz o (.tup ys)) ∧ o.dict = none) ∧ t σ H1 fun xs H2 => r x xs H2 Q
variable {o e : Expr} {es : List Expr} {to : TE} {t : TA} {name : Str} {apos cpos : Pos} {id : String} {r : V → List V → Hp → VK → Prop}
theorem pe_bmF (slot : Slot "tuple" name id) (hty : typeOf (.builtin id) = pure (.type "method_descriptor")) (hm : MtR X id r) (ho : PE X o to) (ha : PA X (e :: es) t)
    (hbase : attributeBase o name X.env (eval o X.env) = eval o X.env := by rfl)
    (hfew : ((backTo cpos (starEach (e :: es) X.env)).all (fun x => !x.1) && (backToKw cpos (keywordEach [] X.env)).all (fun x => x.1.isSome)
      && decide ((e :: es).length + ([] : List Keyword).length + (if ([] : List Keyword).isEmpty then 0 else 1) < 30)) = true := by rfl)
    (hline : (apos.endLine == cpos.line) = true := by rfl) (hs : starEach (e :: es) X.env = (false, eval e X.env) :: starEach es X.env := by rfl) (hplain : (backTo cpos (starEach es X.env)).any (·.1) = false := by rfl) :
    PE X (.Call (.Attribute o name apos) (e :: es) [] cpos) (tBMF r to t) := by
  refine ⟨fun pins s σ H Q I h => ?_⟩
  refine wpAny_Call_method_late hbase hfew hline rfl (thn (ho.run pins s σ H _ I h) fun v s1 ⟨x, H1, I1, r1, ⟨p, ob, ys, ex, hp, hd⟩, q1⟩ => ?_)
  subst ex
  cases r1
  obtain ⟨e1, hl, its, rv, ht⟩ := I1.hok p _ hp
  obtain ⟨o2, e2, hc2, _⟩ := ht
  refine ⟨"tuple", id, PySem.F.plainAttrs_tuple, slot, hty, ⟨o2, e2, hc2⟩, fun a ea => ?_, ?_⟩
  · cases ea; exact ⟨ob, e1, hd⟩
  have hA := ha.run cpos pins s1 σ H1 _ I1 q1
  rw [hs] at hA ⊢
  refine Calls.callWith_builtin (by show (false || (backTo cpos (starEach es X.env)).any (·.1)) = false; rw [hplain] <;> rfl) (Calls.evalArgs_plain ?_)
  exact thn hA fun us s2 ⟨vs, H2, I2, r2, q2⟩ => hm pins s2 σ H2 (.ref p) vs (.ref p) us Q I2 rfl r2 q2
end
end UL

set_option Elab.async false
set_option linter.all false
set_option maxRecDepth 100000
set_option maxHeartbeats 2000000
/-! bundles: own __getitem__, __iter__, a property, a generator method -/
namespace UL
open PySem PySem.Spec PyProof.Rows L2
structure Gn (P : Program) (w : World) (K : PySem.W.Frag) (mg : Str → Option Value) (base : Heap) (CX : CXT) (k : Nat) (C : Addr) (sp : Sp) : Prop where
  ex : ∃ (f : Addr) (fd : FuncData) (ps : List Str), FnOk P w K mg base CX k f fd ps sp ∧ GetO K C f ∧ Binds K fd ps []
structure Itn (P : Program) (w : World) (K : PySem.W.Frag) (mg : Str → Option Value) (base : Heap) (CX : CXT) (k : Nat) (C : Addr) (sp : Sp) : Prop where
  ex : ∃ (f : Addr) (fd : FuncData) (ps : List Str), FnOk P w K mg base CX k f fd ps sp ∧ IterO K C f ∧ Binds K fd ps []
structure Pn (P : Program) (w : World) (K : PySem.W.Frag) (mg : Str → Option Value) (base : Heap) (CX : CXT) (k : Nat) (C : Addr) (x : Str) (sp : Sp) : Prop where
  ex : ∃ (p g : Addr) (fd : FuncData) (ps : List Str), FnOk P w K mg base CX k g fd ps sp ∧ PropOf K C x p g ∧ Binds K fd ps []
structure GMn (P : Program) (w : World) (K : PySem.W.Frag) (mg : Str → Option Value) (base : Heap) (k : Nat) (C : Addr) (m : Str) (sp : SpG) : Prop where
  ex : ∃ (f : Addr) (fd : FuncData) (ps : List Str), GFn P w K mg base k f fd ps sp ∧ Meth K C m f ∧ Binds K fd ps []
section
variable {P : Program} {w : World} {K : PySem.W.Frag} {mg : Str → Option Value} {base : Heap} {CX : CXT} {C : Addr} {m qual : Str} {st : Stmt} {N ps : List Str} {k : Nat} {sp : Sp} {spg : SpG}
theorem Mn.gn (d : Mn P w K mg base CX k C "__getitem__" sp) (h : ∀ f, PySem.W.findIn K (.ref C) "__getitem__" = some (some (.ref f)) → PySem.W.fnIn K f = true) : Gn P w K mg base CX k C sp :=
  let ⟨f, fd, ps, F, M, B⟩ := d.ex
  ⟨f, fd, ps, F, ⟨M.at_, h f M.at_, M.fn⟩, B⟩
theorem MD.fnin (D : MD K C m qual st) : ∀ f, PySem.W.findIn K (.ref C) m = some (some (.ref f)) → PySem.W.fnIn K f = true := by
  intro f hf
  obtain ⟨f0, fd, F, M⟩ := D.ex
  obtain ⟨oc, od, kV, doc, pm, an, cdv, ct, osl, e, lk, hcd⟩ := F.ex
  have h2 := hf.symm.trans M.at_
  cases h2
  unfold PySem.W.fnIn
  rw [lk]
theorem Mn.itn (d : Mn P w K mg base CX k C "__iter__" sp) (h1 : PySem.W.findIn K (.ref C) "__len__" = some none) (h2 : PySem.W.findIn K (.ref C) "__length_hint__" = some none) : Itn P w K mg base CX k C sp :=
  let ⟨f, fd, ps, F, M, B⟩ := d.ex
  ⟨f, fd, ps, F, ⟨M.at_, M.fn, h1, h2⟩, B⟩
abbrev BodyG (P : Program) (w : World) (K : PySem.W.Frag) (mg : Str → Option Value) (base : Heap) (qual : Str) (st : Stmt) (N : List Str) (k : Nat) (sp : SpG) : Prop :=
  ∀ (f : Addr) (cdv : Value) (A : Around) (outer : List Env) (s : Shared) (H : Hp) (vs : List V) (Q : List V → Hp → Prop) (E : XK) (pn : List (Addr × Obj)), Room k (A.deeper (envOfC qual (defScope st) s.heap.objs.size f cdv)) → sp vs H Q E →
      ∃ t, GSs (gcxOf P w K mg base N qual (defScope st) f cdv A outer s H E pn) (defBody st) t ∧ t { nx := fun ys _ H' => Q ys H', rt := fun ys v H' => v = .non ∧ Q ys H' } [] (L2.start N vs) H
theorem MD.gm (D : MD K C m qual st) (S : GScope N ps (defScope st)) (b : BindOk m qual st ps) (len : ∀ vs H Q E, spg vs H Q E → vs.length = ps.length) (body : BodyG P w K mg base qual st N k spg) : GMn P w K mg base (k + 1) C m spg := by
  obtain ⟨f, fd, F, M⟩ := D.ex
  have hb := F.binds b
  obtain ⟨oc, od, kV, doc, pm, an, cdv, ct, osl, e, lk, hcd⟩ := F.ex
  subst e
  exact ⟨f, _, ps, gfn_of lk hcd S len fun A outer s H vs Q E pn hr h => body f cdv A outer s H vs Q E pn hr h, M, hb⟩
end
section
variable {X : Cx} {CX : CXT} {k j : Nat} {C : Addr} {sp : Sp} {spg : SpG} {E : XK} {x m : Str} {p pos apos : Pos} {e o : Expr} {es : List Expr} {ta tb : TE} {t : TA}
theorem pe_sub_ {ea eb : Expr} (d : Gn X.prog X.w X.K X.mg X.base CX k C sp) (hr : Room j X.A) (hk : k + 1 ≤ j) (hx : Passes CX X E) (ha : PE X ea ta) (hb : PE X eb tb)
    (hs : ∀ o i, subscripted eb true o i = runValue (.builtin "lifetime.subscript" ⟨[o, i], []⟩)) : PE X (.Subscript ea eb pos) (tSubO C sp E ta tb) := by
  obtain ⟨f, fd, ps, F, c, B⟩ := d.ex
  exact pe_subO ha hb c F (hr.mono hk) B hx hs
theorem call_listOn (d : Itn X.prog X.w X.K X.mg X.base CX k C sp) (hr : Room j X.A) (hk : k + 2 ≤ j) (hx : Passes CX X E) : CallR X (.type "list") (rListO X.K C sp E) := by
  obtain ⟨f, fd, ps, F, c, B⟩ := d.ex
  exact call_listO c F B hx (hr.mono hk)
theorem pe_p {f : Str} (d : Pn X.prog X.w X.K X.mg X.base CX k C f sp) (c : Cls X.K C) (hr : Room j X.A) (hk : k + 1 ≤ j) (hx : Passes CX X.nox E) (he : PE X e ta) (hab : attributeBase e f X.env (eval e X.env) = eval e X.env) : PE X (.Attribute e f pos) (tProp C sp [] E ta) := by
  obtain ⟨p, g, fd, ps, F, hp, B⟩ := d.ex
  exact pe_prop he c hp F (hr.mono hk) B .nil hx hab
theorem pgen_m {E : XK} {pl : Sem Bool} (d : GMn X.prog X.w X.K X.mg X.base k C m spg) (c : Cls X.K C) (hr : Room j X.A) (hk : k ≤ j) (he : PE X o ta)
    (ht : eval (.Call (.Attribute o m apos) [] [] pos) X.env = (do
      let ov ← eval o X.env
      standAt apos.atName
      let (f, first) ← holding [ov] (getMethod ov m pl)
      callWith pos f first (backTo pos (starEach [] X.env)) (backToKw pos (keywordEach [] X.env))) := by rfl) : PGen X k (.Call (.Attribute o m apos) [] [] pos) (tMethG C m spg [] E ta tNil) E := by
  obtain ⟨f, fd, ps, F, M, B⟩ := d.ex
  exact pgen_meth0 he c M F (hr.mono hk) B .nil ht
theorem gcxK {P : Program} {w : World} {K : PySem.W.Frag} {mg : Str → Option Value} {base : Heap} {N : List Str} {qual : Str} {scope : Scope} {f : Addr} {cd : Value} {A : Around} {outer : List Env} {s : Shared} {H : Hp} {E : XK} {pn : List (Addr × Obj)} : (gcxOf P w K mg base N qual scope f cd A outer s H E pn).K = K := rfl
theorem noStop0 {K : PySem.W.Frag} : NoStop K E0 := fun _ _ _ h => h.elim
end
end UL

set_option Elab.async false
set_option linter.all false
set_option maxRecDepth 100000
set_option maxHeartbeats 4000000
/-! super().__init__(x) of an own class over ValueError: the wrapper bound to the instance, at the library's level -/
namespace UV
open PySem PySem.W PySem.Calls PyProof.Rows
abbrev wr : Value := .builtin "ValueError.__init__"
abbrev bv (a : Addr) : Obj := { cls := .type "method-wrapper", dict := none, data := .fields #[wr, .ref a], slots := #[] }
abbrev su (D a C : Addr) : Obj := { cls := .type "super", dict := none, data := .fields #[.ref D, .ref a, .ref C], slots := #[] }
theorem ty_wr : typeOf wr = pure (.type "wrapper_descriptor") := by show builtinType _ = _; rw [builtinType_eq_fast]; kernel_rfl
theorem nm_wr : (kfb_private% "nameAndClass") wr = (pure (("__init__" : Str), Value.type "ValueError") : Sem (Str × Value)) := by kernel_rfl
section
variable {P : Program} {w : World} {M : Model} {A : Around} {E : Value → Shared → Prop} {h : Heap} {g : Array GenState} {d : Drawn} {t : Nat} {os : OsState}
theorem get_wr {a C : Addr} {R : Fin → Shared → Prop} (is : W.Looks M h (isInstance (.ref a) (.type "ValueError")) true) (q : R (.done (.ret (.ref h.objs.size))) ⟨h.push (bv a), g, d, t, os⟩) : wpAny M A (Builtin.«wrapper_descriptor.__get__» ⟨[wr, .ref a, .ref C], []⟩) R E ⟨h, g, d, t, os⟩ := by
  unfold Builtin.«wrapper_descriptor.__get__»
  refine wpAny_bind (wpAny_of_eq (a := (wr, some (.ref a), some (.ref C))) (by first | rfl | kernel_rfl) ?_); show wpAny M A ((kfb_private% "checkInstance") wr (.ref a) >>= fun _ => newFields "method-wrapper" [wr, .ref a] >>= fun r => ret r) R E _
  refine wpAny_bind ?_; show wpAny M A ((kfb_private% "nameAndClass") wr >>= _) _ E _
  refine wpAny_bind (wpAny_of_eq nm_wr ?_); show wpAny M A (isInstance (.ref a) (.type "ValueError") >>= _) _ E _
  exact wpAny_bind (is.at (KFB.if_not rfl (wpAny_pure (wpAny_bind (wpAny_newObj_type (wpAny_pure q))))))
theorem sup_get {so D a C : Addr} {m0 m1 : List Value} {K : Frag} {tk : Tok} {R : Fin → Shared → Prop} (e : h.get? so = some (su D a C)) (no : W.Looks (model P w) h (opaqueClassAbove (.ref C)) none) (mr : W.Looks (model P w) h (mroOf (.ref C)) m0) (cut : (m0.dropWhile (· != .ref D)).drop 1 = m1)
    (X : K.In h) (al : alongIn K "__init__" m1 = some (some wr)) (ne : a ≠ C) (is : W.Looks (model P w) h (isInstance (.ref a) (.type "ValueError")) true) (q : R (.done (.ret (.ref h.objs.size))) ⟨h.push (bv a), g, d, t, os⟩) :
    wpAny (model P w) A (Builtin.«super.__getattribute__» ⟨[.ref so, .str "__init__" tk], []⟩) R E ⟨h, g, d, t, os⟩ := by
  have l1 := ESX.slot_wd.lookup
  have nq : (Value.ref a == Value.ref C) = false := by simp [ne]
  have t1 := ty_wr
  have t2 : Shared.TypeIs ⟨h, g, d, t, os⟩ wr "wrapper_descriptor" := ty_wr
  have dt : (su D a C).data = .fields #[.ref D, .ref a, .ref C] := rfl
  have k0 : (#[.ref D, .ref a, .ref C] : Array Value)[0]? = some (.ref D) := rfl
  have k1 : (#[.ref D, .ref a, .ref C] : Array Value)[1]? = some (.ref a) := rfl
  have k2 : (#[.ref D, .ref a, .ref C] : Array Value)[2]? = some (.ref C) := rfl
  have hn : (("__init__" : Str) == ("__class__" : Str)) = false := by decide
  unfold Builtin.«super.__getattribute__»
  repeat (first | (with_reducible refine wpAny_field e dt k0 ?_) | (with_reducible refine wpAny_field e dt k1 ?_) | (with_reducible refine wpAny_field e dt k2 ?_) | (with_reducible refine ks_wpAny_notOpaque no ?_) | (with_reducible refine Looks.at mr ?_; rw [cut]) | (refine ks_forIn_along X (fun _ _ => rfl) rfl ?_ al) | (with_reducible refine wpAny_call_entry ESX.slot_wd t2 ESX.entry_wd ?_ (ESX.args_wd _ _ _)) | (with_reducible refine get_wr is ?_) | (with_reducible refine ⟨_, rfl, ?_⟩) | (simp only [hn, nq, Bool.or_false, Bool.false_eq_true, if_false]) | wp_step | dsimp only)
  all_goals exact q
theorem sup_meth {so D a C : Addr} {m0 m1 : List Value} {K : Frag} {pl : Sem Bool} {R : Value × List Value → Shared → Prop} (e : h.get? so = some (su D a C)) (no : W.Looks (model P w) h (opaqueClassAbove (.ref C)) none) (mr : W.Looks (model P w) h (mroOf (.ref C)) m0) (cut : (m0.dropWhile (· != .ref D)).drop 1 = m1)
    (X : K.In h) (al : alongIn K "__init__" m1 = some (some wr)) (ne : a ≠ C) (is : W.Looks (model P w) h (isInstance (.ref a) (.type "ValueError")) true) (q : R (.ref h.objs.size, []) ⟨h.push (bv a), g, d, t + 1, os⟩) : wpAny (model P w) A (getMethod (.ref so) "__init__" pl) R E ⟨h, g, d, t, os⟩ := by
  have l1 := F.ks_slot_super_ga.lookup
  have ty : ∀ t', (⟨h, g, d, t', os⟩ : Shared).TypeIs (.ref so) "super" := fun _ => ⟨_, e, rfl⟩
  unfold getMethod
  refine wpAny_bind (wpAny_specialOf (ty _) l1 ?_); show wpAny _ _ (if (Manifest.canonical "super.__getattribute__" != "object.__getattribute__") = true then _ else _) _ _ _
  rw [if_pos F.ks_canon_super_ga]; unfold getAttr getAttrBy
  refine wpAny_bind (wpAny_bind (wpAny_mkText (wpAny_holding (wpAny_bind (wpAny_typeOf (ty _) (wpAny_bind (wpAny_of_eq l1 ?_))))))); show wpAny _ _ (getAttrByItsOwn (.ref so) (.str "__init__" t) (.type "super") (.builtin "super.__getattribute__") true false) _ _ _
  unfold getAttrByItsOwn hookBefore callGetattribute boundAndCalled
  refine wpAny_bind (wpAny_of_eq (show (if onTheHeap (.type "super") then typeLookup (.type "super") "__getattr__" else pure none) = pure none from rfl) (wpAny_bind (wpAny_attempt (wpAny_holding ?_)))); show wpAny _ _ (bindSpecial (.builtin "super.__getattribute__") (.ref so) >>= _) _ _ _
  refine wpAny_bind (wpAny_of_eq (F.ks_slot_super_ga.bind _) (wpAny_mono (Q := fun v s' => v = .ref h.objs.size ∧ s' = ⟨h.push (bv a), g, d, t + 1, os⟩) (E := fun _ _ => False) (wpAny_call_entry F.ks_slot_super_ga (ty _) F.ks_entry_super_ga (sup_get e no mr cut X al ne is ⟨_, rfl, rfl, rfl⟩) (F.ks_gaArgs_super _ _)) (fun v s' hv => ?_) fun _ _ z => z.elim))
  obtain ⟨rfl, rfl⟩ := hv; exact wpAny_pure (wpAny_pure q)
end
section
variable {P : Program} {w : World} {M : Model} {A : Around} {E : Value → Shared → Prop} {s : Shared}
theorem cw0 {pos : Pos} {u a : Addr} {args : List (Bool × Sem Value)} {Q : Value → Shared → Prop} (pl : args.any (·.1) = false)
    (q : wpAny M A (evalArgs (.ref u) true args []) (fun r s₁ => s₁.heap.get? u = some (bv a) ∧ wpAny M A (call (.ref u) ([] ++ r.pos) r.kw) Q E s₁) E s) : wpAny M A (callWith pos (.ref u) [] args []) Q E s := by
  unfold callWith
  refine wpAny_bind (wpAny_holding (wpAny_mono q (fun r s₁ z => wpAny_bind (wpAny_standAt ?_)) fun _ _ x => x)); obtain ⟨o, z⟩ := z
  simp only [pl, List.any_nil, Bool.or_false]
  refine wpAny_bind (m := keeperOf (.ref u)) ?_; unfold keeperOf
  refine wpAny_bind (wpAny_load o ?_); simp only [bv, show (Value.type "method-wrapper" != Value.type "method") = true by decide, show (Value.type "method-wrapper" == Value.type "builtin_function_or_method" || Value.type "method-wrapper" == Value.type "method-wrapper") = true by decide, if_true]
  exact wpAny_pure (wpAny_bind (wpAny_mono z (fun r s₂ hr => wpAny_bind (wpAny_holding (wpAny_point (wpAny_pure hr)))) fun _ _ x => x))
theorem cw_bv {pos : Pos} {u a : Addr} {env : Env} {e : Expr} {es : List Expr} {Q : Value → Shared → Prop} (q : wpAny M A (spliced (backTo pos (starEach (e :: es) env))) (fun vs s₁ => s₁.heap.get? u = some (bv a) ∧ wpAny M A (call (.ref u) vs) Q E s₁) E s)
    (he : starEach (e :: es) env = (false, eval e env) :: starEach es env := by rfl) (pl : (backTo pos (starEach es env)).any (·.1) = false := by rfl) : wpAny M A (callWith pos (.ref u) [] (backTo pos (starEach (e :: es) env)) []) Q E s := by
  rw [he] at q ⊢
  exact cw0 (a := a) (by show (false || (backTo pos (starEach es env)).any (·.1)) = false; rw [pl]; rfl) (evalArgs_plain q)
end
section
variable {P : Program} {w : World} {A : Around} {E : Value → Shared → Prop} {h : Heap} {g : Array GenState} {d : Drawn} {t : Nat} {os : OsState} {nm q : Str} {C N : Addr} {bs bm : List Value} {hdct : Bool} {sn : List Str} {sub : List Value} {ab : Bool} {col : Option Bool} {dd : Option Addr} {k0 k1 k2 k3 k5 : Option Value}
theorem chk_bv (hm : HandSPX.refsVE bm = true) {e : Addr} {oe : Obj} {us : List Value} {Q : Unit → Shared → Prop} (hC : h.get? C = some (excClassObj nm q C N bs bm hdct sn sub ab col dd k0 k1 k2 k3 k5 "ValueError.__new__")) (he : h.get? e = some oe) (hc : oe.cls = .ref C) (z : Q () ⟨h, g, d, t, os⟩) :
    wpAny (model P w) A (checkBoundCall "ValueError.__init__" ⟨.ref e :: us, []⟩) Q E ⟨h, g, d, t, os⟩ := by
  have F := PySem.F.excBase_ValueError
  have f1 := F.noStar
  simp only [checkBoundCall, F.initKind, F.initRow]
  repeat (first | (with_reducible refine wpAny_loadPart_at he ?_; rw [hc]) | with_reducible refine wpAny_loadPart_at hC ?_ | wp_step)
  refine wpAny_onRaise ?_; rw [show ∀ (x y : String) (i : Nat), Bind.check ⟨.positional, "*", "ValueError", .self, [⟨"args", .varPos, false⟩]⟩ x y i (List.map (fun z => z.fst) ({ pos := Value.ref e :: us } : Args).kw) = pure () from fun x y i => check_star_args _ _ _ _ _ _]
  exact wpAny_pure z
theorem call_bv (hm : HandSPX.refsVE bm = true) {u e t0 : Addr} {us : List Value} {Q : Value → Shared → Prop} (hC : h.get? C = some (excClassObj nm q C N bs bm hdct sn sub ab col dd k0 k1 k2 k3 k5 "ValueError.__new__")) (he : h.get? e = some (HandSPX.excO C t0)) (hu : h.get? u = some (bv e)) (hl : us.length ≤ sizeLine)
    (z : ∀ h' t1, (∀ b o, b ≠ e → h.get? b = some o → h'.get? b = some o) → h'.get? e = some (HandSPX.excO C t1) → Q .none ⟨h', g, d, t, os⟩) : wpAny (model P w) A (call (.ref u) us) Q E ⟨h, g, d, t, os⟩ := by
  refine wpAny_call (codeAny_of_tree ?_); show wpAny _ A.in1 (callAny (.ref u) ⟨us, []⟩) _ _ _
  simp only [callAny]; refine wpAny_bind (wpAny_load hu ?_)
  simp only [bv, show (Value.type "method-wrapper" == Value.type "method" || Value.type "method-wrapper" == Value.type "builtin_function_or_method" || Value.type "method-wrapper" == Value.type "method-wrapper") = true by decide, if_true]
  refine W.KFB.if_so (by decide) (wpAny_bind (chk_bv hm hC he rfl (wpAny_bind (wpAny_pure (wpAny_pure ⟨Code.quiet_builtin _ (by decide +kernel), codeAny_builtin F.excBase_ValueError.initEntry ?_⟩)))))
  rw [Around.under_plainId F.excBase_ValueError.init.plain _]
  wp_walk
  refine z _ h.objs.size (fun b o nb ob => (Heap.get?_update_other _ _ (Ne.symm nb)).trans (Heap.get?_push_of_some _ ob)) ?_
  rw [Heap.get?_update_self _ (Heap.get?_push_of_some _ he) rfl] <;> rfl
end
end UV

set_option Elab.async false
set_option linter.all false
set_option maxRecDepth 100000
set_option maxHeartbeats 4000000
/-! super().__init__(x) as the first statement of an exception's __init__, over the layer -/
namespace UV
open PySem PySem.W PySem.Calls PyProof.Rows L2
structure SupF (P : Program) (K : PySem.W.Frag) (mg : Str → Option Value) (C f c cc : Addr) (fd : FuncData) : Prop where
  fn : ∃ oc od osl, K.lookup f = some ⟨oc, od, .func fd, osl⟩
  par : ∃ ar, (fd.params.posonlyargs ++ fd.params.args).head? = some ar ∧ ar.arg = "self"
  code : ∃ ccl cdd vs ccs file tf, K.lookup c = some ⟨ccl, cdd, .fields vs, ccs⟩ ∧ vs[2]? = some (.str file tf) ∧ ((P.main.file : Str) == file) = true
  top : (P.main.scope.names.lookup ("super" : Str)).isSome = false
  cell : ∃ cl cld csl, K.lookup cc = some ⟨cl, cld, .cell (some (.ref C)), csl⟩
  nos : mg "super" = none
  sub : PySem.W.mroIn K C (.ref C) = some true
  op : PySem.W.nsIn K cStatics "thirdparty.any" = some none
  al : PySem.W.ks_superIn K C C "__init__" = some (some wr)
section
variable {X : Cx} {pins : List (Addr × Obj)} {σ : L2.St} {H : Hp} {s : Shared}
theorem pin1 {u : Addr} {o : Obj} (I : Inv X pins σ H s) (e : s.heap.get? u = some o) (n : H u = none) (l : u ≠ X.env.locals) (f : u ∉ X.fs) (d : ∀ v, o.data ≠ .cell v) : Inv X ((u, o) :: pins) σ H s :=
  ⟨I.ok, I.os, I.bare, I.base, I.loc, I.cell, I.free, I.freeC, fun p hp => (List.mem_append.mp hp).elim (fun z => I.pin p (List.mem_append_left _ z)) fun z => (List.mem_cons.mp z).elim (fun w => w ▸ ⟨e, n, l, f, d⟩) fun w => I.pin p (List.mem_append_right _ w), I.hok, I.len⟩
theorem unpin1 {q : Addr × Obj} (I : Inv X (q :: pins) σ H s) : Inv X pins σ H s :=
  ⟨I.ok, I.os, I.bare, I.base, I.loc, I.cell, I.free, I.freeC, fun p hp => (List.mem_append.mp hp).elim (fun z => I.pin p (List.mem_append_left _ z)) fun z => I.pin p (List.mem_append_right _ (List.mem_cons_of_mem _ z)), I.hok, I.len⟩
theorem sup_stmt {C f c cc a : Addr} {fd : FuncData} {body : List Stmt} {e : Expr} {ta : TA} {p0 p1 p2 p3 p4 : Pos} {R : List V → Hp → Prop} {Q : Flow → Shared → Prop} (T : OexC X.K C) (F : SupF X.prog X.K X.mg C f c cc fd)
    (hfu : X.env.func = some f) (hco : X.env.code = .ref c) (hce : X.env.cells.lookup ("__class__" : Str) = some cc) (hks : X.env.kindOf "super" = some .globalImplicit) (hkc : X.env.kindOf "__class__" = some .free) (hka : X.env.kindOf "self" = some .local)
    (hN : X.N[0]? = some ("self" : Str)) (I : Inv X pins σ H s) (h0 : σ[0]? = some (some (.ref a))) (ha : H a = some (exo a C none)) (he : PA X [e] ta) (h : ta σ H fun vs H1 => vs.length ≤ 1000 ∧ H1 a = some (exo a C none) ∧ R vs H1)
    (q : ∀ s' y H1, Inv X pins σ H1 s' → R y H1 → Q .next s') (hi : interactive X.env = false := by rfl) (hs : swapsWith (.Call (.Attribute (.Call (.Name "super" p0) [] [] p1) "__init__" p2) [e] [] p3) none p4.line X.env = pure false := by rfl)
    (hst : starEach [e] X.env = (false, eval e X.env) :: starEach [] X.env := by rfl)
    {pl : Sem Bool} (hev : eval (.Call (.Attribute (.Call (.Name "super" p0) [] [] p1) "__init__" p2) [e] [] p3) X.env = (do
      let ov ← attributeBase (.Call (.Name "super" p0) [] [] p1) "__init__" X.env (eval (.Call (.Name "super" p0) [] [] p1) X.env)
      standAt p2.atName
      let (f, first) ← holding [ov] (getMethod ov "__init__" pl)
      callWith p3 f first (backTo p3 (starEach [e] X.env)) []) := by rfl) :
    _root_.PySem.wpAt (model X.prog X.w) X.A (.func body X.env) (exec (.Expr (.Call (.Attribute (.Call (.Name "super" p0) [] [] p1) "__init__" p2) [e] [] p3) p4) X.env) Q X.xe s := by
  obtain ⟨nm, qn, N, bs, bm, sn, sub, ab, col, dd, k0, k1, k2, k3, k5, hC, hbm⟩ := T.cls
  obtain ⟨oc, od, osl, lf⟩ := F.fn
  obtain ⟨ar, hp, har⟩ := F.par
  obtain ⟨ccl, cdd, vs, ccs, file, tf, lc, hvs, hfile⟩ := F.code
  obtain ⟨cl, cld, csl, lcc⟩ := F.cell
  obtain ⟨mb, hb1, hb2⟩ := I.mod.blt
  refine ks_wpAt_Expr_any (ks_wpAt_MethodCall (pl := pl) (ks_wpAt_super_base hks hkc (by decide) hfu (I.kIn _ _ lf) rfl hp hco (I.kIn _ _ lc) rfl hvs hfile F.top ?_) hev) hi hs
  refine ks_loadName_global I.ok.kind hks (loadGlobal_builtin (by rw [I.ok.glob]; exact I.mod.glob.keeps I.bk) F.nos (by rw [I.ok.blt]; exact hb1.keeps I.bk) ((hb2 _ (by decide)).trans (by decide +kernel)) ⟨rfl, ?_⟩)
  refine wpAny_loadName_free I.ok.kind hkc hce ⟨_, I.kIn _ _ lcc, rfl⟩ ?_
  obtain ⟨ml, hns, hlk⟩ := I.loc
  obtain ⟨u0, ru, lk⟩ := hlk 0 "self" (.ref a) hN h0 (.inl hka)
  obtain rfl : u0 = Value.ref a := ru
  have hv : ml "self" = some (.ref a) := lk.elim (fun z => z.2) fun z => by
    rcases z.1 with y | y <;> · rw [hka] at y; cases y
  rw [har]
  refine wpAny_loadName_local I.ok.kind hka hns hv ?_
  obtain ⟨t1, ho⟩ := exo_at I.hok ha
  have hcl : PySem.W.clsIn X.K C = some { name := nm, bases := bs, mro := .ref C :: bm, ns := N, qualname := qn, hasDict := true, slotNames := sn, subclasses := sub, abstract := ab, collection := col, hasDel := false } := by unfold PySem.W.clsIn; rw [hC] <;> rfl
  have kin := I.kIn
  have hfr := I.hok
  obtain ⟨hp0, g, dr, tk, os⟩ := s
  refine ks_wpAny_isType_cls (kin _ _ hC) rfl ⟨rfl, ks_wpAny_call_super (kin _ _ hC) rfl ho rfl (fun c z => by cases z) (looks_mroIn kin F.sub) fun h1 e1 kp1 => ?_⟩
  have I1 : L2.Inv X pins σ H ⟨h1, g, dr, tk, os⟩ := I.kept (t' := tk) kp1
  have hal : alongIn X.K "__init__" bm = some (some wr) := by
    have z := F.al
    unfold ks_superIn at z
    rw [hcl, Option.bind_some, ESX.drop_own] at z
    exact z
  have J1 : InstAt h1 a (HandSPX.excO C t1) C none := ⟨kp1 _ _ ho, rfl, rfl, trivial⟩
  have hbm2 : HandSPX.refsVE (.ref C :: bm) = true := hbm
  have hve : PySem.W.mroIn X.K C (.type "ValueError") = some true := by
    unfold PySem.W.mroIn
    rw [hcl, Option.bind_some, if_neg (by rw [HandSPX.refsVE_ne hbm2]; decide), HandSPX.refsVE_contains "ValueError" _ hbm2]
    decide +kernel
  have kin1 := I1.kIn
  refine sup_meth e1 (looks_opaque kin1 F.op) ((looks_clsIn kin1 hcl).andThen .now) (ESX.drop_own C bm) kin1 hal (ks_ne kin1 J1 hcl) (J1.type.andThen (looks_mroIn kin1 hve)) ?_
  have eb : (h1.push (bv a)).get? h1.objs.size = some (bv a) := Heap.get?_push_size _ rfl
  have I2 : L2.Inv X pins σ H ⟨h1.push (bv a), g, dr, tk + 1, os⟩ := I1.kept (t' := tk + 1) fun b o z => Heap.get?_push_of_some _ z
  have I3 := pin1 I2 eb (I1.hok.fresh (Nat.le_refl _)) (Nat.ne_of_gt I1.lt) (I1.nofs (Nat.le_refl _)) (fun v z => nomatch z)
  refine cw_bv (a := a) (thn (he.run p3 _ _ σ H _ I3 h) fun us s2 hz => ?_) hst rfl
  obtain ⟨vs2, H1, I4, r4, hl4, ha4, hr4⟩ := hz
  have hu4 := (I4.pin _ (List.mem_append_right _ List.mem_cons_self)).1
  have kin4 := I4.kIn
  obtain ⟨t4, ho4⟩ := exo_at I4.hok ha4
  obtain ⟨hp4, g4, d4, tk4, os4⟩ := s2
  refine ⟨hu4, call_bv hbm (kin4 _ _ hC) ho4 hu4 (by rw [← r4.length, sizeLine_eq]; omega) fun h5 t5 kp5 ho5 => ?_⟩
  have I5 := I4.write (t' := tk4) (x := a) (e := a) (o := exo a C none) (by rw [ha4]; exact True.intro) (.inl rfl) kp5 ⟨_, ho5⟩ (exo_ok ho5)
  rw [UL.upd_self ha4] at I5
  exact q _ vs2 H1 (unpin1 I5) hr4
end
end UV

set_option Elab.async false
set_option linter.all false
set_option maxRecDepth 100000
set_option maxHeartbeats 4000000
/-! an exception's __init__ that begins with super().__init__(x): its promise by its body -/
namespace UV
open PySem PySem.W PySem.Calls PyProof.Rows L2 NdefX
abbrev supSt (e : Expr) (p0 p1 p2 p3 p4 : Pos) : Stmt := .Expr (.Call (.Attribute (.Call (.Name "super" p0) [] [] p1) "__init__" p2) [e] [] p3) p4
section
variable {CX : CXT} {P : Program} {w : World} {K : PySem.W.Frag} {mg : Str → Option Value} {base : Heap} {k : Nat} {f c cc C : Addr} {name qual : Str} {params : Arguments} {e : Expr} {p0 p1 p2 p3 p4 : Pos} {rest : List Stmt} {scope : Scope}
  {kV doc pm ct oc : Value} {an od : Option Addr} {osl : Array (Option Value)} {N ps : List Str} {sp : Sp}
abbrev supNF (name qual : Str) (params : Arguments) (e : Expr) (p0 p1 p2 p3 p4 : Pos) (rest : List Stmt) (scope : Scope) (cc c : Addr) : NF := ⟨name, qual, params, supSt e p0 p1 p2 p3 p4 :: rest, scope, [("__class__", cc)], c⟩
theorem fn_sup (lk : K.lookup f = some ⟨oc, od, .func (fnX name qual params (supSt e p0 p1 p2 p3 p4 :: rest) scope [("__class__", cc)] .none kV doc pm an (.ref c) ct), osl⟩) (hcd : codeIn K (.ref c) qual = true) (S : NScope N ("self" :: ps) ["__class__"] scope) (T : OexC K C)
    (F : SupF P K mg C f c cc (fnX name qual params (supSt e p0 p1 p2 p3 p4 :: rest) scope [("__class__", cc)] .none kV doc pm an (.ref c) ct)) (hks : scope.names.lookup ("super" : Str) = some .globalImplicit) (len : ∀ vs H Q E, sp vs H Q E → vs.length = ("self" :: ps : List Str).length)
    (hbody : ∀ (A : Around) (outer : List Env) (s : Shared) (H : Hp) (vs : List V) (Q : VK) (E : XK), Room k (A.deeper (envF (supNF name qual params e p0 p1 p2 p3 p4 rest scope cc c) f s.heap.objs.size)) → sp vs H Q E →
      ∃ (a : Addr) (ta : TA) (t : TS), vs.head? = some (.ref a) ∧ H a = some (exo a C none) ∧ PA (ncx CX P w K mg base N (supNF name qual params e p0 p1 p2 p3 p4 rest scope cc c) f A outer s H E) [e] ta ∧
        PSs (ncx CX P w K mg base N (supNF name qual params e p0 p1 p2 p3 p4 rest scope cc c) f A outer s H E) rest t ∧
        ta (startF N vs [some (.ref C)]) H fun us H1 => us.length ≤ 1000 ∧ H1 a = some (exo a C none) ∧ t { nx := fun _ H' => Q .non H', rt := Q } (startF N vs [some (.ref C)]) H1)
    (hi : ∀ L, interactive (envF (supNF name qual params e p0 p1 p2 p3 p4 rest scope cc c) f L) = false := by intro _; rfl) (hs : ∀ env, swapsWith (.Call (.Attribute (.Call (.Name "super" p0) [] [] p1) "__init__" p2) [e] [] p3) none p4.line env = pure false := by intro _; rfl)
    (hst : ∀ env, starEach [e] env = (false, eval e env) :: starEach [] env := by intro _; rfl) {pl : Sem Bool} (hev : ∀ env, eval (.Call (.Attribute (.Call (.Name "super" p0) [] [] p1) "__init__" p2) [e] [] p3) env = (do
      let ov ← attributeBase (.Call (.Name "super" p0) [] [] p1) "__init__" env (eval (.Call (.Name "super" p0) [] [] p1) env)
      standAt p2.atName
      let (f, first) ← holding [ov] (getMethod ov "__init__" pl)
      callWith p3 f first (backTo p3 (starEach [e] env)) []) := by intro _; rfl) :
    FnOk P w K mg base CX (k + 1) f (fnX name qual params (supSt e p0 p1 p2 p3 p4 :: rest) scope [("__class__", cc)] .none kV doc pm an (.ref c) ct) ("self" :: ps) sp := by
  refine ⟨len, fun A outer s H args us vs Q E hr e0 hb r hsp => ?_⟩
  have hl := len _ _ _ _ hsp
  have KX : K.In s.heap := e0.mod.kin.keeps fun b o z => (e0.bs b o z).1
  have lim : s.heap.NoLimit := e0.mod.nolimit.keeps fun b o z => (e0.bs b o z).1
  obtain ⟨cl, cld, csl, lcc⟩ := F.cell
  have hcc := e0.bs _ _ (e0.mod.kin _ _ lcc)
  have CA : CellsAt [(("__class__" : Str), cc)] ["__class__"] [some (V.ref C)] s.heap H := by
    have one : ∀ y c', List.lookup y [(("__class__" : Str), cc)] = some c' → c' = cc ∧ y = "__class__" := fun y c' z => by
      by_cases hy : y = "__class__"
      · subst hy; simp at z; exact ⟨z.symm, rfl⟩
      · have : (y == ("__class__" : Str)) = false := by simpa using hy
        simp [List.lookup, this] at z
    refine ⟨rfl, fun y c' z => ?_, fun x y c' zx zy => ?_, fun i y z => ?_⟩
    · obtain ⟨rfl, _⟩ := one y c' z
      exact ⟨hcc.2, _, _, hcc.1, rfl⟩
    · rw [(one x c' zx).2, (one y c' zy).2]
    · cases i with
      | zero =>
        cases z
        exact ⟨cc, by simp [List.lookup], fun v zv => by cases zv; exact ⟨.ref C, rfl, _, hcc.1, rfl⟩⟩
      | succ i => simp at z
  refine codeAny_call_function hr.depth (KX _ _ lk) rfl S.co S.gen rfl (codeRec_of KX hcd) (hb _ _ _ _ ?_)
  refine wpAny_newFunctionEnv S.nocell (fun ⟨n, _⟩ hy => S.par n (List.of_mem_zip hy).1) (fun h₁ hns hsb => ⟨lim.fresh _ hsb, ?_⟩) S.kind
  show codeAny _ _ (.func (supSt e p0 p1 p2 p3 p4 :: rest) (envF (supNF name qual params e p0 p1 p2 p3 p4 rest scope cc c) f s.heap.objs.size)) _ _
  refine ks_codeAny_funcAt ?_
  have kp : ∀ b o, s.heap.get? b = some o → h₁.get? b = some o := fun b o z => hsb.extBut b o (Nat.ne_of_lt (Heap.lt_size z)) (Heap.get?_push_of_some _ z)
  obtain ⟨a, ta, t, hva, ha, pa, ht, hq⟩ := hbody A outer s H vs Q E (hr.deeper _) hsp
  have I : L2.Inv (ncx CX P w K mg base N (supNF name qual params e p0 p1 p2 p3 p4 rest scope cc c) f A outer s H E) [] (startF N vs [some (.ref C)]) H { s with heap := h₁, toks := s.toks + ((("self" : Str) :: ps).zip us).length } := inv_startN S hr.hd e0 hl r CA hns kp
  have hN : N[0]? = some ("self" : Str) := by
    have z := congrArg (fun l : List Str => l[0]?) S.pre
    simp only [List.cons_append, List.getElem?_cons_zero] at z
    rw [List.getElem?_take_of_lt (by simp)] at z
    exact z
  have h0 : (startF N vs [some (V.ref C)])[0]? = some (some (.ref a)) := by
    cases vs with
    | nil => cases hva
    | cons v r => cases hva; rfl
  have hkF : ∀ (x : Str) (nk : NameKind), scope.names.lookup x = some nk → (ncx CX P w K mg base N (supNF name qual params e p0 p1 p2 p3 p4 rest scope cc c) f A outer s H E).env.kindOf x = some nk := fun x nk z => z
  refine ks_wpAt_mono (ks_wpAt_execs_cons (sup_stmt (X := ncx CX P w K mg base N (supNF name qual params e p0 p1 p2 p3 p4 rest scope cc c) f A outer s H E) (R := fun _ H1 => t { nx := fun _ H' => Q .non H', rt := Q } (startF N vs [some (V.ref C)]) H1) T F rfl rfl (by show List.lookup _ [_] = _; simp [List.lookup]) (hkF _ _ hks) (hkF _ _ (S.frk _ List.mem_cons_self)) (hkF _ _ (S.par _ List.mem_cons_self)) hN I h0 ha pa hq
    (fun s' us' H1 I1 h1 => _root_.PySem.wpAt_of_wpAny (ht.run [] s' _ H1 _ I1 h1)) (hi _) (hs _) (hst _) (hev _))) (fun fl s' hs => ?_) fun e s' hs => hs
  have fin : ∀ {σ' : L2.St} {H' : Hp} {v : V} {u : Value}, L2.Inv (ncx CX P w K mg base N (supNF name qual params e p0 p1 p2 p3 p4 rest scope cc c) f A outer s H E) [] σ' H' s' → L2.RelV v u → Q v H' → CE outer P w H s Q u s' :=
    fun {σ' H' v u} J rv q => ⟨v, H', J.os, J.bare, J.base, J.hok, rv, q⟩
  cases fl with
  | next => obtain ⟨σ', H', J, z⟩ := hs; exact fin (v := V.non) (u := Value.none) J rfl z
  | ret u => obtain ⟨v, σ', H', J, rv, z⟩ := hs; exact fin J rv z
  | brk => obtain ⟨_, _, _, z⟩ := hs; exact z.elim
  | cont => obtain ⟨_, _, _, z⟩ := hs; exact z.elim
end
end UV

set_option Elab.async false
set_option linter.all false
set_option maxRecDepth 100000
set_option maxHeartbeats 4000000
/-! isinstance of a caught exception that has a dict; several except clauses, each `as n` -/
namespace UV
open PySem PySem.W PySem.Calls PyProof.Rows L2
section
variable {P : Program} {w : World} {A : Around} {E : Value → Shared → Prop} {s : Shared} {K : Frag} {a D : Addr} {ox : Obj} {dd : Obj}
theorem cls_exc {Q : Option Value → Shared → Prop} (c : ExcC K D) (X : K.In s.heap) (I : InstAt s.heap a ox D (some dd)) (q : Q (some (.ref D)) { s with toks := s.toks + 1 }) : wpAny (model P w) A (getAttr? (.ref a) "__class__") Q E s := by
  have hc : (clsIn K D).isSome = true := by obtain ⟨cd, e, _⟩ := any_some c.hd; rw [e]; rfl
  have fo : findObj K D (some dd) "__class__" = some (.bind (.builtin "getset_descriptor.__get__") (.builtin "object.__class__")) := findObj_data hc c.ha c.hn c.ht
  obtain ⟨hp, g, d, t, os⟩ := s
  have k0 := I.type (M := model P w)
  have k1 := looks_findIn (M := model P w) X c.hg
  have k2 := looks_findIn (M := model P w) X c.hk
  have k3 := looks_find (M := model P w) X I fo
  have sb : Looks (model P w) hp (isInstance (.ref a) (.type "BaseException")) true := k0.andThen (looks_subIn X c.hs)
  have b2 : (Value.builtin "BaseException.__getattribute__" == Value.builtin "object.__getattribute__") = false := by decide +kernel
  have b1 : (onTheHeap (Value.ref D) && Value.builtin "BaseException.__getattribute__" == Value.builtin "object.__getattribute__") = false := by rw [b2]; rfl
  unfold getAttr? getAttrBy? getAttrBy
  refine wpAny_bind (wpAny_mkText (wpAny_bind (wpAny_attempt (wpAny_holding (wpAny_bind (k0.at (wpAny_bind (k1.at ?_)))))))); show wpAny _ _ (if (onTheHeap (Value.ref D) && Value.builtin "BaseException.__getattribute__" == Value.builtin "object.__getattribute__") = true then _ else _) _ _ _
  rw [b1, if_neg Bool.false_ne_true]; unfold getAttrByItsOwn hookBefore
  refine wpAny_bind ?_; rw [if_pos (show onTheHeap (Value.ref D) = true from rfl)]
  refine k2.at (wpAny_bind (wpAny_attempt (wpAny_holding ?_))); unfold callGetattribute
  rw [show (false && onTheHeap (Value.builtin "BaseException.__getattribute__")) = false from rfl, if_neg Bool.false_ne_true]; unfold boundAndCalled
  rw [PySem.F.excAttr_ValueError.ga.bind (.ref a)]
  refine wpAny_bind (wpAny_pure ?_); show wpAny _ _ (call (.builtin "BaseException.__getattribute__") [.ref a, .str "__class__" t]) _ _ _
  refine wpAny_call (codeAny_call_builtin PySem.F.excAttr_ValueError.ga.plain PySem.F.entry_bexc_ga (@check_slot (model P w) _ _ ⟨hp, g, d, t + 1, os⟩ "BaseException.__getattribute__" "BaseException" "__getattribute__" (.ref a) [.str "__class__" t] [] _ (by decide +kernel) (by decide +kernel) sb (PySem.F.args_bexc_ga (.ref a) (.str "__class__" t)) ?_))
  unfold Builtin.«object.__getattribute__»
  refine wpAny_bind (wpAny_of_eq (a := ((Value.ref a : Value), [Value.str "__class__" t])) (by first | rfl | (simp only [slotArgs]; rfl)) (wpAny_bind (wpAny_pure (wpAny_bind (k0.at (wpAny_bind (k3.at ?_))))))); show wpAny _ _ (holding [Value.builtin "object.__class__"] (call (.builtin "getset_descriptor.__get__") [.builtin "object.__class__", .ref a, .ref D]) >>= ret) _ _ _
  refine wpAny_bind (wpAny_holding (wpAny_call (class_get (s := ⟨hp, g, d, t + 1, os⟩) (ox := ox) (od := some dd) X I c.hm (wpAny_pure ?_)))); show wpAny _ _ (handedOut (.ref D)) _ _ _
  rw [handedOut_of (v := .ref D) rfl]
  first | exact wpAny_pure (wpAny_pure q) | exact wpAny_pure q | exact wpAny_pure (wpAny_bind (wpAny_pure (wpAny_pure q)))
theorem kx_exc (c : ExcC K D) : KitX K (.ref a) (.ref D) (fun h => InstAt h a ox D (some dd)) where
  ty := fun _ _ _ I => I.type
  it := fun _ _ X _ => by
    obtain ⟨cd, hcd, _⟩ := any_some c.hd
    unfold clsIn at hcd
    split at hcd
    · rename_i c' d' cd' sl' ho
      intro A' Q' E' s' k q; unfold isType loadHead
      exact wpAny_bind (wpAny_loadPart (k _ _ (X _ _ ho)) (wpAny_pure q))
    · cases hcd
  ne := fun h tp dx its n sl X htp => by
    obtain ⟨cd, hcd, _⟩ := any_some c.hd
    refine Bool.eq_false_iff.mpr fun q => ?_
    have e : D = tp := Value.ref.inj (beq_iff_eq.mp q)
    subst e
    unfold clsIn at hcd
    split at hcd
    · rename_i c' d' cd' sl' ho
      have z := (X _ _ ho).symm.trans htp; cases z
    · cases hcd
  ca := fun X I k => cls_exc c X I k
end
/-- isinstance(e, c) of an exception with a dict -/
def rIsX (K : PySem.W.Frag) (a : Addr) (cls : Value) (d : Option Addr) : List V → Hp → VK → Prop := fun xs H Q => ∃ (D dx : Addr) (fs : List (Str × V)) (c : V) (cv : Value) (b : Bool), cls = .ref D ∧ d = some dx ∧ H dx = some (.xd fs) ∧ ExcC K D ∧ xs = [.ref a, c] ∧ (∀ u, RelV c u → u = cv) ∧ PySem.W.kitOne K (.ref D) cv = some b ∧ Q (.bl b) H
theorem call_isX {X : Cx} {a : Addr} {cls : Value} {d : Option Addr} {oe : Obj} {pn : List (Addr × Obj)} (hz : Zc cls d oe) (hf : ∃ vs, oe.data = .fields vs) : CallR (X.suite a ((a, oe) :: pn)) (.builtin "isinstance") (rIsX X.K a cls d) := by
  intro pins s σ H xs us Q I r h
  obtain ⟨D, dx, fs, c, cv, b, rfl, rfl, hdx, ec, rfl, hcv, e, q⟩ := h
  obtain ⟨u1, u2, rfl, ru1, ru2⟩ := vals2 r
  cases ru1
  have e2 := hcv _ ru2
  subst e2
  obtain ⟨hg, _⟩ := I.pin (a, oe) (List.mem_append.mpr (.inl List.mem_cons_self))
  obtain ⟨vs, hv⟩ := hf
  have hx : ObjOk X.prog X.w H s.heap dx (.xd fs) := I.hok dx _ hdx
  obtain ⟨mA, hns, _⟩ := hx
  obtain ⟨od, ho, _⟩ := lookIn_ns hns
  have J : PySem.W.InstAt s.heap a oe D (some od) := ⟨hg, hz.1, by unfold PySem.W.notCls; rw [hv] <;> rfl, by rw [hz.2]; exact ho⟩
  exact PySem.W.kia_one (kx_exc ec) I.kIn J e (fun z => nomatch z) fun tk => ⟨.bl b, H, I.kept (t' := tk) fun _ _ z => z, rfl, q⟩
/-! ### several except clauses, each `as n` -/
/-- a clause: the class, the slot of its name, what its suite wants -/
abbrev Cl := Value × Nat × (Addr → Value → Option Addr → TS)
def offE (D : Ends) (i : Nat) : Ends := { nx := fun σ' H' => D.nx (σ'.set i none) H', rt := D.rt, bk := fun σ' H' => D.bk (σ'.set i none) H', ct := fun σ' H' => D.ct (σ'.set i none) H' }
def wAsMany (K : PySem.W.Frag) (Wo : WX) (D : Ends) : List Cl → WX
  | [] => Wo
  | (c, i, ts) :: r => fun cls d σ H => ∃ b, PySem.W.exmOne K cls c = some b ∧ (b = true → ∀ a, H a = none → ts a cls d (offE D i) (σ.set i (some (.ref a))) H) ∧ (b = false → wAsMany K Wo D r cls d σ H)
inductive ClsOk (X : Cx) : List ExceptHandler → List Cl → Prop
  | nil : ClsOk X [] []
  | cons {x n : Str} {c : Value} {i : Nat} {ts : Addr → Value → Option Addr → TS} {st : Stmt} {suite : List Stmt} {np p' : Pos} {hds : List ExceptHandler} {l : List Cl} (hN : X.N.Nodup) (hi : X.N[i]? = some n) (hl : X.env.kindOf n = some .local) (hc : Names X x c)
      (su : ∀ (a : Addr) (oe : Obj) (cls : Value) (d : Option Addr) (pn : List (Addr × Obj)), Zc cls d oe → (∃ vs, oe.data = .fields vs) → PSs (X.suite a ((a, oe) :: pn)) (st :: suite) (ts a cls d)) (r : ClsOk X hds l) :
      ClsOk X (.ExceptHandler (some (.Name x np)) (some n) (st :: suite) p' :: hds) ((c, i, ts) :: l)
section
variable {X : Cx} {body : List Stmt} {h0 : ExceptHandler} {hds : List ExceptHandler} {l : List Cl} {pos : Pos} {tb : WX → TS} {Wo : WX}
theorem ps_try_asMany (hs : X.stack = X.env :: X.outer) (hf : X.env.frame = some X.env.locals) (tk : Takes X Wo) (hb : ∀ (W : WX) (pn : List (Addr × Obj)) (xe : Value → Shared → Prop), Takes (X.tr pn xe) W → PassesOwn (model X.prog X.w) X.A X.env xe → PSs (X.tr pn xe) body (tb W)) (hh : ClsOk X (h0 :: hds) l) :
    PS X (.Try body (h0 :: hds) [] [] pos) (fun D σ H => tb (wAsMany X.K Wo D l) D σ H) := by
  refine ⟨fun pins s σ H D I h => ?_⟩
  have ok := I.ok
  have fr : X.A.frames = some (X.env :: X.outer) := by rw [ok.frames, hs]
  refine wpAny_Try_except (wpAny_mono ((hb (wAsMany X.K Wo D l) (X.pn ++ pins) (fun e s₁ => wpAny (model X.prog X.w) X.A (noteFrame e X.env) (fun _ s₂ => wpAny (model X.prog X.w) X.A (setFlight e none) (fun _ s₃ => wpAny (model X.prog X.w) X.A (handleBy e X.env (h0 :: hds)) (SP X pins D) X.xe s₃) X.xe s₂) X.xe s₁) (fun u s' xx => ?_) PassesOwn.looking).run [] s σ H D (I.toTry _) h) (fun f s1 hsp => ?_) (fun e s1 he => he))
  · obtain ⟨a, B, sI, pins', σ', H', cls, d, rfl, J', nb, up, sky, na, os, ag, w⟩ := xx
    have J : L2.Inv X pins σ' H' sI := J'.ofTry ok
    have sky2 : Sky B (X.env :: X.outer) a (Zc cls d) X.env.locals s'.heap := by rw [← hs]; exact sky
    show wpAny (model X.prog X.w) X.A (noteFrame (.ref a) X.env) _ _ _
    refine Sky.land Zc.steady fr hf sky2 fun g3 f3 u3 => ?_
    have J3 : L2.Inv X pins σ' H' { s' with heap := g3 } := J.landed nb f3.1 (up.trans u3) os ag
    obtain ⟨o3, w3, e3, z3, d3⟩ := f3.there
    have nfr : a ∉ frs (X.env :: X.outer) := fun hm => by
      obtain ⟨_, o', e', hnf⟩ := f3.2.2.1.mem hm
      rw [e3] at e'; cases e'; exact hnf _ d3
    have nL : a ≠ X.env.locals := fun z => nfr (List.mem_filterMap.mpr ⟨X.env, List.mem_cons_self, by rw [hf, z]⟩)
    have nF : a ∉ X.fs := fun hm => let ⟨e, he, q⟩ := List.mem_filterMap.mp hm; nfr (List.mem_filterMap.mpr ⟨e, List.mem_cons_of_mem _ he, q⟩)
    have S3 := J3.suite e3 d3 na nL nF
    have go : ∀ {hd2 : List ExceptHandler} {l2 : List Cl}, ClsOk X hd2 l2 → wAsMany X.K Wo D l2 cls d σ' H' → wpAny (model X.prog X.w) X.A (handleBy (.ref a) X.env hd2) (SP X pins D) X.xe { s' with heap := g3 } := by
      intro hd2 l2 hk
      induction hk with
      | nil =>
        intro w
        refine wpAny_handleBy_nil ?_
        obtain ⟨k1, k2, k3, oe, vs, T, oT, ts', he, hz, hd, h1, hr⟩ := id f3
        unfold PySem.passOn; refine wpAny_bind (wpAny_field he hd h1 ?_); rw [if_neg (show ¬ ((Value.ref T == Value.none) = true) from by simp)]
        have fin : wpAny (model X.prog X.w) X.A (setFlight (.ref a) X.env.frame) (fun _ s4 => wpAny (model X.prog X.w) X.A (throw (.ref a) : Sem Flow) (SP X pins D) X.xe s4) X.xe { s' with heap := g3 } := by
          rw [hf]; exact HandSPX.setFlight_upZ f3 fun h4 hh4 up4 => wpAny_throw (tk _ _ ⟨a, B, sI, pins, σ', H', cls, d, rfl, J, nb, (up.trans u3).trans up4, .inr (.inr (by rw [hs]; exact hh4)), na, os, ag, w⟩)
        first | exact wpAny_bind (wpAny_pure (wpAny_bind fin)) | exact wpAny_bind fin
      | @cons x n c i ts st suite np p' hd3 l3 hN hi hln hc su r ih =>
        intro w
        obtain ⟨b, hb1, hyes, hno⟩ := w
        refine wpAny_handleBy_cons (codeAny_handlers_test ?_) (by intro q; cases q)
        have LT : PySem.W.Looks (model X.prog X.w) g3 (typeOf (.ref a)) cls := fun A Q E s k q => wpAny_typeOf_ref (k _ _ e3) (by rw [z3.1]; exact q)
        have LM := PySem.W.exm_one (M := model X.prog X.w) (J3.kIn) LT hb1
        have ts2 : ∀ {Q : Value → Shared → Prop} {E : Value → Shared → Prop}, Q c { s' with heap := g3 } → wpAny (model X.prog X.w) (X.A.mark (some (.ref a))) (eval (.Name x np) X.env) Q E { s' with heap := g3 } := fun {Q E} q => by
          obtain ⟨hg, hdbg, hm | ⟨hm, hv, hnn⟩⟩ := hc
          · exact ld_glob (X := X.suite a ((a, o3) :: (X.pn ++ pins))) S3 hg hm q hdbg
          · exact ld_blt (X := X.suite a ((a, o3) :: (X.pn ++ pins))) S3 hg hm hv q hnn hdbg
        refine ts2 (LM.here ?_)
        cases b with
        | true =>
          refine codeAny_handlers_suite_as (HandSPX.lands_againZ f3 fun g4 f4 u4 => ?_)
          have J4 : L2.Inv X pins σ' H' { s' with heap := g4 } := J.landed nb f4.1 ((up.trans u3).trans u4) os ag
          obtain ⟨o4, w4, e4, z4, d4⟩ := f4.there
          refine store_ok (X := X.suite a ((a, o4) :: (X.pn ++ pins))) (v := .ref a) (J4.suite e4 d4 na nL nF) hN hi (.inl hln) rfl (fun s5 S5 => ?_) (.inr hln)
          refine wpAny_mono ((su a o4 cls d (X.pn ++ pins) z4 ⟨_, d4⟩).run [] s5 _ H' _ S5 (hyes rfl a na)) (fun f s6 hsp => ?_) (fun _ _ z => False.elim z)
          have ed : ∀ {σ6 : L2.St} {H6 : Hp} {Q : Shared → Prop}, L2.Inv (X.suite a ((a, o4) :: (X.pn ++ pins))) [] σ6 H6 s6 → (∀ s7, L2.Inv X pins (σ6.set i none) H6 s7 → Q s7) → wpAny (model X.prog X.w) X.A (do bindName X.env n .none; unbindBehindTheSuite X.env n p') (fun _ s7 => Q s7) X.xe s6 :=
            fun {σ6 H6 Q} S6 hq => gone_ok (S6.unsuite ok) hN hi hln hq
          cases f with
          | ret u => obtain ⟨v6, σ6, H6, S6, r6, q6⟩ := hsp; exact ed S6 fun s7 J7 => ⟨_, _, _, J7, r6, q6⟩
          | next => obtain ⟨σ6, H6, S6, q6⟩ := hsp; exact ed S6 fun s7 J7 => ⟨_, _, J7, q6⟩
          | brk => obtain ⟨σ6, H6, S6, q6⟩ := hsp; exact ed S6 fun s7 J7 => ⟨_, _, J7, q6⟩
          | cont => obtain ⟨σ6, H6, S6, q6⟩ := hsp; exact ed S6 fun s7 J7 => ⟨_, _, J7, q6⟩
        | false => exact ih (hno rfl)
    exact go hh w
  · cases f with
    | ret u => obtain ⟨v, σ', H', J', r, q⟩ := hsp; exact ⟨v, σ', H', J'.ofTry ok, r, q⟩
    | next => obtain ⟨σ', H', J', q⟩ := hsp; exact wpAny_execs_nil ⟨σ', H', J'.ofTry ok, q⟩
    | brk => obtain ⟨σ', H', J', q⟩ := hsp; exact ⟨σ', H', J'.ofTry ok, q⟩
    | cont => obtain ⟨σ', H', J', q⟩ := hsp; exact ⟨σ', H', J'.ofTry ok, q⟩
end
end UV

set_option Elab.async false
set_option linter.all false
set_option maxRecDepth 100000
set_option maxHeartbeats 4000000
/-! calls in a try's body: what is raised is wished for at the caller's slots -/
namespace UV
open PySem PySem.Spec PyProof.Rows L2 UL
section
variable {X : Cx} {CX : CXT} {k j : Nat} {C : Addr} {sp : Sp} {E : L2.St → XK} {m : Str} {p pos apos : Pos} {e o : Expr} {es : List Expr} {ta tb : TE} {t : TA}
def tMethX (C : Addr) (m : Str) (sp : Sp) (E : L2.St → XK) (ta : TE) (t : TA) : TE := fun σ H Q => ta σ H fun x H1 => ∃ a dx fs, x = .ref a ∧ H1 a = some (.ins C dx fs) ∧ fs.lookup m = none ∧ t σ H1 fun vs H2 => sp (x :: vs) H2 Q (E σ)
/-- o.m(e, ..) -/
theorem pe_mX {pl : Sem Bool} (d : Mn X.prog X.w X.K X.mg X.base CX k C m sp) (c : Cls X.K C) (hr : Room j X.A) (hk : k ≤ j) (hx : ∀ σ, PassesAt CX X σ (E σ)) (he : PE X o ta) (ha : PA X (e :: es) t)
    (hst : starEach (e :: es) X.env = (false, eval e X.env) :: starEach es X.env := by rfl) (hpl : (backTo pos (starEach es X.env)).any (·.1) = false := by rfl)
    (ht : eval (.Call (.Attribute o m apos) (e :: es) [] pos) X.env = (do
      let ov ← eval o X.env
      standAt apos.atName
      let (f, first) ← holding [ov] (getMethod ov m pl)
      callWith pos f first (backTo pos (starEach (e :: es) X.env)) (backToKw pos (keywordEach [] X.env))) := by rfl) : PE X (.Call (.Attribute o m apos) (e :: es) [] pos) (tMethX C m sp E ta t) := by
  obtain ⟨f, fd, ps, F, hm, hb⟩ := d.ex
  refine ⟨fun pins s σ H Q I h => PySem.W.methodCall_KW (pl := pl) (thn (he.run pins s σ H _ I h) fun u s1 ⟨x, H1, I1, rx, a, dx, fs, ex, ea, l, q⟩ => ?_) ht⟩
  subst ex
  obtain rfl : u = Value.ref a := rx
  refine getmeth_ok I1 ea c hm l (PySem.W.callWith_K (first := [.ref a]) (h₀ := X.base) I.ok.mod.kin hm.kp (thn (ha.run pos pins s1 σ H1 _ I1 q) fun us s2 ⟨vs, H2, I2, r, q2⟩ => ⟨I2.kIn, ?_⟩) hst hpl)
  exact run_fnS (us := .ref a :: us) (vs := .ref a :: vs) F (hr.mono hk) hb (hx σ) I2 (.cons rfl r) q2
def tSubX (C : Addr) (sp : Sp) (E : L2.St → XK) (ta tb : TE) : TE := fun σ H Q => ta σ H fun x H1 => tb σ H1 fun y H2 => ∃ a dx fs, x = .ref a ∧ H2 a = some (.ins C dx fs) ∧ sp [.ref a, y] H2 Q (E σ)
/-- o[i] by an own __getitem__ -/
theorem pe_subX {ea eb : Expr} (d : Gn X.prog X.w X.K X.mg X.base CX k C sp) (hr : Room j X.A) (hk : k + 1 ≤ j) (hx : ∀ σ, PassesAt CX X σ (E σ)) (ha : PE X ea ta) (hb : PE X eb tb)
    (hs : ∀ o i, subscripted eb true o i = runValue (.builtin "lifetime.subscript" ⟨[o, i], []⟩)) : PE X (.Subscript ea eb pos) (tSubX C sp E ta tb) := by
  obtain ⟨f, fd, ps, F, c, B⟩ := d.ex
  refine ⟨fun pins s σ H Q I h => Subscript_ (binT ha hb I h fun v u s2 x y H2 I2 rx ry q => ?_)⟩
  obtain ⟨a, dx, fs, e, ho, q⟩ := q
  subst e
  cases rx
  obtain ⟨od, J⟩ := inst_of I2 ho
  obtain ⟨m, hF⟩ := I2.fr
  have hl : (([Value.ref a, u] : List Value) ++ []).length = ps.length := by rw [← F.len _ _ _ _ q]; rfl
  have hb' := B s2 [.ref a, u] I2.kIn hl
  rw [List.append_nil] at hb'
  refine PySem.W.sub_K hF I2.ok.mod.kin J c.at_ c.fn c.is (wpAny_call (codeAny_mono (F.run X.A.in1 X.stack s2 H2 ⟨[.ref a, u], []⟩ [.ref a, u] [.ref a, y] Q (E σ) (hr.mono hk).in1 I2.env0.in1 hb' (.cons rfl (.cons ry .nil)) q) fun r s' hq => ?_)) (hs _ _)
  match r, hq with
  | .error er, hq => exact hx σ pins H2 s2 er s' I2 hq
  | .ok (.ret z), hq => exact I2.after hq
  | .ok .next, hq | .ok .brk, hq | .ok .cont, hq => exact hq.elim
end
end UV

set_option Elab.async false
set_option linter.all false
set_option maxRecDepth 100000
set_option maxHeartbeats 4000000
/-! o.f = v by a property's own setter -/
namespace UW
open PySem PySem.Spec PyProof.Rows L2 UL UV
/-- the class has the name as a property at p; the setter is the def at g -/
structure PutO (K : PySem.W.Frag) (C : Addr) (x : Str) (p g : Addr) : Prop where
  tk : PySem.W.takerIn K C x = some (some (.ref p))
  ty : PySem.W.typeIn K (.ref p) = some (.type "property")
  rc : ∃ a rest, PySem.W.recIn K p "property" = some (a :: .ref g :: rest)
structure PutN (P : Program) (w : World) (K : PySem.W.Frag) (mg : Str → Option Value) (base : Heap) (CX : CXT) (k : Nat) (C : Addr) (x : Str) (sp : Sp) : Prop where
  ex : ∃ (p g : Addr) (fd : FuncData) (ps : List Str), FnOk P w K mg base CX k g fd ps sp ∧ PutO K C x p g ∧ Binds K fd ps []
section
variable {X : Cx} {CX : CXT} {k j : Nat} {C a dx : Addr} {fs : List (Str × V)} {sp : Sp} {E : XK} {x : Str} {p pos pos' : Pos} {o e : Expr} {ta tv : TE}
theorem putprop_ok {pins : List (Addr × Obj)} {σ : L2.St} {H : Hp} {s : Shared} {y : V} {u : Value} {Q : VK} {R : Unit → Shared → Prop} (d : PutN X.prog X.w X.K X.mg X.base CX k C x sp) (c : Cls X.K C) (hr : Room j X.A) (hk : k + 2 ≤ j) (hx : PassesAt CX X σ E)
    (I : Inv X pins σ H s) (ea : H a = some (.ins C dx fs)) (ry : RelV y u) (q : sp [.ref a, y] H Q E) (h : ∀ v s' H', Inv X pins σ H' s' → Q v H' → R () s') : wpAny (model X.prog X.w) X.A (setAttr (.ref a) x u) R X.xe s := by
  obtain ⟨pa, g, fd, ps, F, po, B⟩ := d.ex
  obtain ⟨gv, rest, hrec⟩ := po.rc
  obtain ⟨od, J⟩ := inst_of I ea
  obtain ⟨m, hF⟩ := I.fr
  have I1 := I.tok (s.toks + 1)
  have hl : (([Value.ref a, u] : List Value) ++ []).length = ps.length := by rw [← F.len _ _ _ _ q]; rfl
  have hb := B { s with toks := s.toks + 1 } [.ref a, u] I1.kIn hl
  rw [List.append_nil] at hb
  refine PySem.W.set_prop hF I.ok.mod.kin J c.sa c.po po.tk po.ty hrec ?_
  refine codeAny_mono (F.run X.A.in1.in1 X.stack { s with toks := s.toks + 1 } H ⟨[.ref a, u], []⟩ [.ref a, u] [.ref a, y] Q E (hr.mono hk).in1.in1 I1.env0.in1.in1 hb (.cons rfl (.cons ry .nil)) q) fun r s' hq => ?_
  match r, hq with
  | .error er, hq => exact hx pins H _ er s' I1 hq
  | .ok (.ret z), hq =>
    obtain ⟨v, H', I3, _, q3⟩ := I1.after hq
    exact h v s' H' I3 q3
  | .ok .next, hq | .ok .brk, hq | .ok .cont, hq => exact hq.elim
/-- e.x = v, v's way first -/
def sPut (C : Addr) (sp : Sp) (E : L2.St → XK) (ta tv : TE) : TS := fun D σ H => tv σ H fun y H1 => ta σ H1 fun z H2 => ∃ a dx fs, z = .ref a ∧ H2 a = some (.ins C dx fs) ∧ sp [.ref a, y] H2 (fun _ H3 => D.nx σ H3) (E σ)
theorem ps_put {E : L2.St → XK} (d : PutN X.prog X.w X.K X.mg X.base CX k C x sp) (c : Cls X.K C) (hr : Room j X.A) (hk : k + 2 ≤ j) (hx : ∀ σ, PassesAt CX X σ (E σ)) (ha : PE X o ta) (hv : PE X e tv) (hs : swapsWith e (some (.Attribute o x pos')) pos.line X.env = pure false := by rfl) :
    PS X (.Assign [.Attribute o x pos'] e pos) (sPut C sp E ta tv) := by
  refine ⟨fun pins s σ H D I h => plainObj_wpAny_Assign_Attribute (thn (hv.run pins s σ H _ I h) fun u s1 ⟨y, H1, I1, ry, q⟩ => thn (ha.run pins s1 σ H1 _ I1 q) fun ov s2 ⟨z, H2, I2, rz, a, dx, fs, ez, ea, q2⟩ => ?_) hs⟩
  subst ez
  obtain rfl : ov = Value.ref a := rz
  exact putprop_ok d c hr hk (hx σ) I2 ea ry q2 fun v s3 H3 I3 q3 => ⟨σ, _, I3, q3⟩
end
end UW

set_option Elab.async false
set_option linter.all false
set_option maxRecDepth 100000
set_option maxHeartbeats 4000000
/-! raise C(..) from D(..) -/
namespace UW
open PySem PySem.Spec PyProof.Rows L2 UL UV
section
variable {X : Cx} {pins : List (Addr × Obj)} {σ : L2.St} {H : Hp} {s : Shared} {G : Heap} {a : Addr}
/-- one thing that is not tracked is hidden -/
theorem unseen (J : Inv X pins σ H s) (h0 : X.s_0.heap.get? a = none) (na : H a = none) (nl : a ≠ X.env.locals) (nc : ∀ x c, X.env.cells.lookup x = some c → c ≠ a) (np : ∀ p ∈ X.pn ++ pins, p.1 ≠ a) (gk : ∀ b, b ≠ a → G.get? b = s.heap.get? b) :
    Inv X pins σ H { s with heap := G } := by
  have n0 : ∀ {b : Addr} {o : Obj}, X.s_0.heap.get? b = some o → b ≠ a := fun {b o} z q => by rw [q, h0] at z; cases z
  have nt : ∀ {b : Addr} {o : HO}, H b = some o → b ≠ a := fun {b o} z q => by rw [q, na] at z; cases z
  have ic : ∀ {x c v}, X.env.cells.lookup x = some c → s.heap.IsCell c v → G.IsCell c v := fun {x c v} z q => let ⟨o, e, d⟩ := q; ⟨o, (gk c (nc x c z)).trans e, d⟩
  obtain ⟨m, hn, hl⟩ := J.loc
  refine ⟨J.ok, J.os, J.bare, ⟨fun b o e n hb hx => (gk b (n0 e)).trans (J.base.keep b o e n hb hx), fun b o e n hb hx => let ⟨sl, z⟩ := J.base.slot b o e n hb hx; ⟨sl, (gk b (n0 e)).trans z⟩, J.base.free, fun b o e hx => let ⟨u, z⟩ := J.base.there b o e hx; ⟨u, (gk b (n0 e)).trans z⟩, J.base.tups, J.base.frzs, J.base.tbls⟩,
    ⟨m, hn.at fun o z => (gk _ (Ne.symm nl)).trans z, fun i x v e1 e2 e3 => ?_⟩, fun x c z => let ⟨v, q⟩ := J.cell x c z; ⟨v, ic z q⟩, J.free, J.freeC, fun p hp => let ⟨e, n, l, f, d⟩ := J.pin p hp; ⟨(gk _ (np p hp)).trans e, n, l, f, d⟩, fun b o z => ?_, J.len⟩
  · obtain ⟨u, ru, lk⟩ := hl i x v e1 e2 e3
    exact ⟨u, ru, lk.elim .inl fun ⟨k, c, ce, q⟩ => .inr ⟨k, c, ce, ic ce q⟩⟩
  · refine (J.hok b o z).stay (fun c u hc q => (gk c ?_).trans q) (fun _ q => q) fun _ _ q => q
    rcases hc with hc | hc
    · rw [hc]; exact nt z
    · exact nt hc
/-- behind the two stores -/
def tied (h : Heap) (a : Addr) (u : Value) : Heap := (h.update a (Obj.mapFields (·.setIfInBounds 3 u))).update a (Obj.mapFields (·.setIfInBounds 4 (.bool true)))
theorem tied_other {h : Heap} {b : Addr} {u : Value} (n : a ≠ b) : (tied h a u).get? b = h.get? b := by
  unfold tied; rw [Heap.get?_update_other _ _ n, Heap.get?_update_other _ _ n]
theorem tied_at {h : Heap} {u : Value} {oe : Obj} {vs : Array Value} (ha : h.get? a = some oe) (hd : oe.data = .fields vs) :
    (tied h a u).get? a = some ((oe.mapFields (·.setIfInBounds 3 u)).mapFields (·.setIfInBounds 4 (.bool true))) ∧ ((oe.mapFields (·.setIfInBounds 3 u)).mapFields (·.setIfInBounds 4 (.bool true))).data = .fields ((vs.setIfInBounds 3 u).setIfInBounds 4 (.bool true)) := by
  have d3 := Obj.data_mapFields hd (·.setIfInBounds 3 u)
  have g3 := Heap.get?_update_self (Obj.mapFields (·.setIfInBounds 3 u)) ha (Obj.isFreed_of_fields d3)
  have d4 := Obj.data_mapFields d3 (·.setIfInBounds 4 (.bool true))
  exact ⟨Heap.get?_update_self (Obj.mapFields (·.setIfInBounds 4 (.bool true))) g3 (Obj.isFreed_of_fields d4), d4⟩
theorem raise_cause {prog : Program} {w : World} {A : Around} {E : Value → Shared → Prop} {env : Env} {s : Shared} {x c : Sem Value} {Q : Flow → Shared → Prop} (hh : A.handled = none)
    (h : wpAny (model prog w) A x (fun v s₁ => wpAny (model prog w) A c (fun u s₂ => ∃ a oe vs cls b ob ws cb, v = .ref a ∧ u = .ref b ∧ s₂.heap.get? a = some oe ∧ oe.cls = cls ∧ oe.data = .fields vs ∧ vs[1]? = some .none ∧ 4 < vs.size ∧
      s₂.heap.get? b = some ob ∧ ob.cls = cb ∧ ob.data = .fields ws ∧ PySem.W.Looks (model prog w) s₂.heap (isSubtype cls (.type "BaseException")) true ∧ PySem.W.Looks (model prog w) s₂.heap (isSubtype cb (.type "BaseException")) true ∧
      PySem.W.Looks (model prog w) (tied s₂.heap a (.ref b)) (typeOf cls) (.type "type") ∧ E (.ref a) { s₂ with heap := tied s₂.heap a (.ref b) }) E s₁) E s) :
    wpAny (model prog w) A (raiseStmt env (some x) (some c)) Q E s := by
  unfold raiseStmt
  dsimp only
  refine wpAny_bind (wpAny_mono h (fun v s₁ h₁ => ?_) fun _ _ x => x)
  refine wpAny_bind (wpAny_holding (wpAny_mono h₁ (fun u s₂ h₂ => wpAny_bind (wpAny_pure ?_)) fun _ _ x => x))
  obtain ⟨a, oe, vs, cls, b, ob, ws, cb, rfl, rfl, ha, hcls, hd, h1, hi, hb, hcb, hdb, L1, L2, L3, hE⟩ := h₂
  have LT : PySem.W.Looks (model prog w) s₂.heap (typeOf (.ref a)) cls := fun A Q E s k q => wpAny_typeOf_ref (k _ _ ha) (by rw [hcls]; exact q)
  have LU : PySem.W.Looks (model prog w) s₂.heap (typeOf (.ref b)) cb := fun A Q E s k q => wpAny_typeOf_ref (k _ _ hb) (by rw [hcb]; exact q)
  have LI : PySem.W.Looks (model prog w) s₂.heap (isInstance (.ref a) (.type "BaseException")) true := LT.andThen L1
  have LJ : PySem.W.Looks (model prog w) s₂.heap (isInstance (.ref b) (.type "BaseException")) true := LU.andThen L2
  have nota : ∀ {A' : Around} {E' : Value → Shared → Prop} {h' : Heap} {o' : Obj} {c' : Addr} {zs : Array Value} {Q' : Bool → Shared → Prop}, h'.get? c' = some o' → o'.data = .fields zs → Q' false { s₂ with heap := h' } → wpAny (model prog w) A' (isType (.ref c')) Q' E' { s₂ with heap := h' } := by
    intro A' E' h' o' c' zs Q' z1 z2 hq
    simp only [isType, loadHead]
    refine wpAny_bind (wpAny_loadPart z1 ?_)
    rw [z2]; exact wpAny_pure hq
  have d3 := Obj.data_mapFields hd (·.setIfInBounds 3 (.ref b))
  have g3 := Heap.get?_update_self (Obj.mapFields (·.setIfInBounds 3 (.ref b))) ha (Obj.isFreed_of_fields d3)
  obtain ⟨g4, d4⟩ := tied_at (u := .ref b) ha hd
  have s3 : 3 < vs.size := by omega
  have s4 : 4 < (vs.setIfInBounds 3 (Value.ref b)).size := by simpa using hi
  have h14 : ((vs.setIfInBounds 3 (Value.ref b)).setIfInBounds 4 (Value.bool true))[1]? = some Value.none := HotX.set_other (by decide) (HotX.set_other (by decide) h1)
  have c4 : ((oe.mapFields (·.setIfInBounds 3 (.ref b))).mapFields (·.setIfInBounds 4 (.bool true))).cls = cls := by rw [Obj.cls_mapFields, Obj.cls_mapFields]; exact hcls
  have LT4 : PySem.W.Looks (model prog w) (tied s₂.heap a (.ref b)) (typeOf (.ref a)) cls := fun A Q E s k q => wpAny_typeOf_ref (k _ _ g4) (by rw [c4]; exact q)
  have rest : wpAny (model prog w) A (do
      let b ← isType (.ref a)
      if b = true then do
        let e ← holding [.ref a] (raisedFor (.ref a) (.ref a))
        setFlight e none
        raiseNew e
      else do
        let e ← raisedInstance (.ref a)
        setFlight e none
        raiseNew e : Sem Flow) Q E { s₂ with heap := tied s₂.heap a (.ref b) } := by
    refine wpAny_bind (nota g4 d4 ?_)
    simp only [Bool.false_eq_true, if_false]
    unfold raisedInstance
    refine wpAny_bind (wpAny_bind (LT4.here (wpAny_bind (L3.here ?_))))
    rw [if_pos (beq_self_eq_true _)]
    refine wpAny_pure ?_
    unfold setFlight raiseNew
    refine wpAny_bind (wpAny_bind (wpAny_field g4 d4 h14 ?_))
    rw [if_neg (by decide)]
    refine wpAny_pure (wpAny_bind (wpAny_handled ?_))
    rw [hh]
    first
      | exact wpAny_throw hE
      | exact wpAny_bind (wpAny_pure (wpAny_throw hE))
  dsimp only
  refine wpAny_bind (wpAny_holding ?_)
  unfold excFromValue isExcClass
  refine wpAny_bind (wpAny_bind (nota ha hd ?_))
  simp only [Bool.false_eq_true, if_false]
  refine wpAny_pure ?_
  simp only [Bool.false_eq_true, if_false]
  refine wpAny_bind (LI.here ?_)
  simp only [if_true]
  refine wpAny_pure ?_
  rw [show (Value.ref b == Value.none) = false from rfl]
  simp only [Bool.false_eq_true, if_false]
  refine wpAny_bind (wpAny_holding ?_)
  refine wpAny_bind (wpAny_bind (nota hb hdb ?_))
  simp only [Bool.false_eq_true, if_false]
  refine wpAny_pure ?_
  simp only [Bool.false_eq_true, if_false]
  refine wpAny_bind (LJ.here ?_)
  simp only [if_true]
  refine wpAny_pure ?_
  first
  | exact wpAny_bind (wpAny_setField ha hd s3 (wpAny_bind (wpAny_setField g3 d3 s4 rest)))
  | exact wpAny_bind (wpAny_bind (wpAny_setField ha hd s3 (wpAny_setField g3 d3 s4 rest)))
end
section
variable {X : Cx} {CX : CXT} {C g : Addr} {k j : Nat} {fd : FuncData} {ps : List Str} {sp : Sp} {x : Str} {e : Expr} {es : List Expr} {ta : TA} {p pos : Pos}
/-- an expression that makes an exception whose record has its six fields -/
def PMkS (X : Cx) (e : Expr) (t : L2.St → Hp → XK → Prop) : Prop := ∀ (pn : List (Addr × Obj)) (s : Shared) (σ : L2.St) (H : Hp) (Q : XK), Inv X pn σ H s → t σ H Q → wpAny (model X.prog X.w) X.A (eval e X.env) (fun u z => MkP X pn σ Q u z ∧ L2H.Six u z) X.xe s
/-- C(e, ..) of an own class over ValueError; its record has its six fields -/
theorem made6 (T : OexC X.K C) (fi : PySem.W.findIn X.K (.ref C) "__init__" = some (some (.ref g))) (ty : PySem.W.typeIn X.K (.ref g) = some (.type "function")) (Fn : FnOk X.prog X.w X.K X.mg X.base CX0 k g fd ps sp) (hr : Room j X.A) (hk : k + 1 ≤ j) (B : Binds X.K fd ps [])
    (hg : Gl X x) (hm : X.mg x = some (.ref C)) (pa : PA X (e :: es) ta) (hdb : (x == ("__debug__" : Str)) = false := by decide) (hst : starEach (e :: es) X.env = (false, eval e X.env) :: starEach es X.env := by rfl) (hpl : (backTo pos (starEach es X.env)).any (·.1) = false := by rfl) :
    PMkS X (.Call (.Name x p) (e :: es) [] pos) (tMkO C sp [] ta) := by
  intro pn z0 sg H0 Qx I0 w0
  obtain ⟨nm, q, N, bs, bm, sn, sub, ab, col, dd, k0, k1, k2, k3, k5, lkC, bmE⟩ := T.cls
  refine wpAny_Call_Name_kw (ld_glob I0 hg hm ?_ hdb)
  refine PySem.W.callWith_K (h₀ := X.base) I0.ok.mod.kin T.kC (thn (pa.run pos pn z0 sg H0 _ I0 w0) fun us z1 ⟨vs, Ha, Ia, ra, la, qa⟩ => ⟨Ia.kIn, ?_⟩) hst hpl
  show wpAny _ _ (call (.ref C) us) _ _ _
  obtain ⟨hz, gz, dz, tz, oz⟩ := z1
  have le1 : hz.objs.size ≤ hz.objs.size + 1 := Nat.le_succ _
  have fresh := Ia.hok.fresh le1
  have want := qa (hz.objs.size + 1) fresh
  have kp : ∀ b o, hz.get? b = some o → ((hz.push (PySem.W.kdv_tup us)).push (PySem.HandSPX.excO C hz.objs.size)).get? b = some o := fun b o e => Heap.get?_push_of_some _ (Heap.get?_push_of_some _ e)
  have at2 : ((hz.push (PySem.W.kdv_tup us)).push (PySem.HandSPX.excO C hz.objs.size)).get? (hz.objs.size + 1) = some (PySem.HandSPX.excO C hz.objs.size) := by heap_get
  have Ib : Inv X pn sg (upd Ha (hz.objs.size + 1) (exo (hz.objs.size + 1) C none)) ⟨((hz.push (PySem.W.kdv_tup us)).push (PySem.HandSPX.excO C hz.objs.size)), gz, dz, tz, oz⟩ := Ia.laid (t' := tz) (a := hz.objs.size + 1) (o := exo (hz.objs.size + 1) C none) (h' := ((hz.push (PySem.W.kdv_tup us)).push (PySem.HandSPX.excO C hz.objs.size))) kp le1 (exo_ok at2)
  have rb : Vals (V.ref (hz.objs.size + 1) :: (vs ++ [])) (Value.ref (hz.objs.size + 1) :: (us ++ [])) := .cons rfl (ra.append .nil)
  have lb : (Value.ref (hz.objs.size + 1) :: us ++ []).length = ps.length := by
    have z := rb.length
    rw [Fn.len _ _ _ _ want] at z
    exact z.symm
  have bb : BindsTo ⟨((hz.push (PySem.W.kdv_tup us)).push (PySem.HandSPX.excO C hz.objs.size)), gz, dz, tz, oz⟩ fd ⟨Value.ref (hz.objs.size + 1) :: us, []⟩ (ps.zip (Value.ref (hz.objs.size + 1) :: (us ++ []))) := B _ (Value.ref (hz.objs.size + 1) :: us) Ib.kIn lb
  have lus : us.length ≤ sizeLine := by
    rw [← Paired.length ra, sizeLine_eq]; omega
  refine wpAny_call (PySem.HandSPX.call_own F.excBase_ValueError (fun Y => PySem.HandSPX.refsVE_contains Y bm bmE) (Ia.kIn _ _ lkC) (PySem.W.looks_findIn Ia.kIn fi) (fun self => PySem.W.bind_fn Ia.kIn self ty) lus
    (codeAny_mono (Fn.run _ X.stack _ _ ⟨Value.ref (hz.objs.size + 1) :: us, []⟩ (Value.ref (hz.objs.size + 1) :: (us ++ [])) _ _ (fun _ _ _ => False) ((hr.mono hk).make C us []) (Ib.env0.make C us []) bb rb want) fun r z3 hq => ?_))
  match r, hq with
  | .error er, hq => exact hq.elim
  | .ok (.ret u), hq =>
    obtain ⟨v, H3, os3, bare3, un3, hok3, rv, ev, d, fs, ea, ed, hd1, q3⟩ := hq
    subst ev
    obtain ⟨h3, g3, d3, t3, o3⟩ := z3
    obtain ⟨t0, hoe⟩ := exo_at hok3 ea
    refine ⟨rv, mk_end (raises_own T.exC T.tyC) Ia le1 kp un3 hok3 os3 bare3 ea ed hd1 q3, fun a' oe' vs' e1 e2 e3 => ?_⟩
    cases e1
    have e4 := hoe.symm.trans e2
    cases e4
    cases e3
    show (4 : Nat) < 6
    decide
  | .ok .next, hq | .ok .brk, hq | .ok .cont, hq => exact hq.elim
/-- raise e from c -/
theorem ps_raiseFrom {W : WX} {c : Expr} {te tc : L2.St → Hp → XK → Prop} (hc : X.calm = true) (hex : X.ex = []) (tk : Takes X W) (he : PMkS X e te) (hcs : PMk X c tc) :
    PS X (.Raise (some e) (some c) pos) (fun _ σ H => te σ H fun cls d H1 => tc σ H1 fun _ _ H2 => W cls d σ H2) := by
  refine ⟨fun pins s σ H D I h => ?_⟩
  show wpAny _ _ (do standAt pos; raiseStmt X.env (some (do let v ← eval e X.env; standAt pos; pure v)) (some (do let v ← eval c X.env; standAt pos; pure v))) _ _ _
  refine wpAny_bind (wpAny_standAt (raise_cause (I.ok.hd hc) (wpAny_bind (wpAny_mono (he pins s σ H _ I h) (fun u s1 hu => wpAny_bind (wpAny_standAt (wpAny_pure ?_))) fun _ _ x => x))))
  obtain ⟨⟨a, oe, vs, sI, H1, cls, d, rfl, J, kI, hne, ha, hz, hd, h1, na, os, ag, r, q⟩, h6⟩ := hu
  have hi : 4 < vs.size := h6 a oe vs rfl ha hd
  have J1 : Inv X pins σ H1 s1 := J.call' (ch := []) os (Un.kept kI) (J.hok.kept kI) ag (fun b z => absurd z (by simp))
  have s0 : X.s_0.heap.get? a = none := by
    cases z : X.s_0.heap.get? a with
    | none => rfl
    | some o =>
      obtain ⟨o', z'⟩ := J.base.there a o z (by rw [hex]; simp)
      rw [hne] at z'; cases z'
  have nl : a ≠ X.env.locals := fun z => by
    obtain ⟨m, ⟨o, _, _, e', _⟩, _⟩ := J.loc
    rw [← z, hne] at e'; cases e'
  have nf : a ∉ X.fs := fun hm => by
    obtain ⟨_, o', e', _⟩ := J.ok.funs.mem hm
    rw [s0] at e'; cases e'
  have nc : ∀ x c, X.env.cells.lookup x = some c → c ≠ a := fun x c z q => by
    obtain ⟨v, o, e', _⟩ := J.cell x c z
    rw [q, hne] at e'; cases e'
  have np : ∀ p ∈ X.pn ++ pins, p.1 ≠ a := fun p hp q => by
    have z := (J.pin p hp).1
    rw [q, hne] at z; cases z
  have J2 := pin1 J1 ha na nl nf (fun v z => by rw [hd] at z; cases z)
  refine wpAny_bind (wpAny_mono (hcs ((a, oe) :: pins) s1 σ H1 _ J2 q) (fun u s2 hu2 => wpAny_bind (wpAny_standAt (wpAny_pure ?_))) fun _ _ x => x)
  obtain ⟨b, ob, ws, sJ, H2, cb, db, rfl, K2, k2, hnb, hb, hzb, hdb, hb1, nb, os2, ag2, rb, q2⟩ := hu2
  obtain ⟨pa, na2, _⟩ := K2.pin (a, oe) (List.mem_append_right _ List.mem_cons_self)
  have ha2 : s2.heap.get? a = some oe := k2 _ _ pa
  obtain ⟨G, g1, g2⟩ := restrict sJ.heap fun b => decide (b ≠ a)
  have gk : ∀ b, b ≠ a → G.get? b = sJ.heap.get? b := fun b hb => g1 b (decide_eq_true hb)
  have ge : G.get? a = none := g2 a (by simp)
  have K3 : Inv X pins σ H2 { sJ with heap := G } := unseen (unpin1 K2) s0 na2 nl nc np gk
  obtain ⟨g4, d4⟩ := tied_at (u := .ref b) ha2 hd
  have kG : ∀ b' o, G.get? b' = some o → (tied s2.heap a (.ref b)).get? b' = some o := fun b' o z => by
    have n : b' ≠ a := fun y => by rw [y, ge] at z; cases z
    rw [tied_other (Ne.symm n)]
    exact k2 _ _ ((gk b' n).symm.trans z)
  have h14 : ((vs.setIfInBounds 3 (Value.ref b)).setIfInBounds 4 (Value.bool true))[1]? = some Value.none := HotX.set_other (by decide) (HotX.set_other (by decide) h1)
  exact ⟨a, oe, vs, cls, b, ob, ws, cb, rfl, rfl, ha2, hz.1, hd, h1, hi, hb, hzb.1, hdb, (r (model X.prog X.w) _ (K2.kIn.keeps k2)).1, (rb (model X.prog X.w) _ (K2.kIn.keeps k2)).1, (r (model X.prog X.w) _ (K3.kIn.keeps kG)).2,
    tk _ _ (XE.new K3 kG ge g4 ⟨by rw [Obj.cls_mapFields, Obj.cls_mapFields]; exact hz.1, by rw [HandSPX.dict_mapFields, HandSPX.dict_mapFields]; exact hz.2⟩ d4 h14 na2 os2 ag2 q2)⟩
end
end UW

set_option Elab.async false
set_option linter.all false
set_option maxRecDepth 100000
set_option maxHeartbeats 4000000
/-! a def that is handed a caught exception, called in the suite that caught it -/
namespace UW
open PySem PySem.Spec PyProof.Rows L2 UL UV
abbrev SpP := (Addr × Obj) → Sp
/-- what the def at f promises of the thing p, which is not tracked -/
structure FnP (P : Program) (w : World) (K : PySem.W.Frag) (mg : Str → Option Value) (base : Heap) (k : Nat) (f : Addr) (fd : FuncData) (ps : List Str) (sp : SpP) : Prop where
  len : ∀ p vs H Q E, sp p vs H Q E → vs.length = ps.length
  run : ∀ (p : Addr × Obj) (A : Around) (outer : List Env) (s : Shared) (H : Hp) (args : Args) (us : List Value) (vs : List V) (Q : VK) (E : XK), L2H.RoomH k A → L2H.PinOk outer H s p → Env0 P w K mg base A outer s H → BindsTo s fd args (ps.zip us) → Vals vs us → sp p vs H Q E →
    codeAny (model P w) A (.call (.ref f) args) (CR CX0 outer P w H s Q E) s
theorem fn_ofP {P : Program} {w : World} {K : PySem.W.Frag} {mg : Str → Option Value} {base : Heap} {k : Nat} {f : Addr} {name qual : Str} {params : Arguments} {body : List Stmt} {scope : Scope} {dV kV doc pm cdv ct oc : Value} {an od : Option Addr}
    {osl : Array (Option Value)} {N ps : List Str} {sp : SpP} (look : K.lookup f = some ⟨oc, od, .func (PySem.W.fnOf name qual params body scope dV kV doc pm an cdv ct), osl⟩) (cod : PySem.W.codeIn K cdv qual = true) (S : FnScope N ps scope)
    (len : ∀ p vs H Q E, sp p vs H Q E → vs.length = ps.length)
    (inner : ∀ (p : Addr × Obj) (A : Around) (outer : List Env) (s : Shared) (H : Hp) (vs : List V) (Q : VK) (E : XK), L2H.RoomH k (A.deeper (envOfC qual scope s.heap.objs.size f cdv)) → sp p vs H Q E →
      ∃ t, PSs (L2H.cxH CX0 P w K mg base N qual scope f cdv A outer s H E p) body t ∧ t { nx := fun _ H' => Q .non H', rt := Q } (L2.start N vs) H) :
    FnP P w K mg base (k + 1) f (PySem.W.fnOf name qual params body scope dV kV doc pm an cdv ct) ps sp := by
  refine ⟨len, fun p A outer s H args us vs Q E room pin en bind rel want => ?_⟩
  have ln := len _ _ _ _ _ want
  have KX : K.In s.heap := en.mod.kin.keeps fun b o e => (en.bs b o e).1
  have lim : s.heap.NoLimit := en.mod.nolimit.keeps fun b o e => (en.bs b o e).1
  have kinds : ∀ y ∈ ps.zip us, scope.names.lookup y.1 = some .local ∨ (scope.names.lookup y.1 = some .cell ∧ ((cellsFrom (s.heap.objs.size + 1) scope.names []).lookup y.1).isSome = true) := fun ⟨n, v⟩ hy => (S.par n (List.of_mem_zip hy).1).elim .inl fun q => .inr ⟨q, PySem.W.cellsFrom_some _ _ _ (.inl q)⟩
  refine codeAny_call_function room.depth (KX _ _ look) rfl S.co S.gen rfl (PySem.W.codeRec_of KX cod) (bind _ _ _ _ (wpAny_newFunctionEnv_cells S.kind kinds fun env he s1 x => ?_))
  subst he
  refine ⟨lim.keeps x.toInCall.keep, codeAny_func ?_⟩
  obtain ⟨t, ht, ok⟩ := inner p A outer s H vs Q E (room.deeper _) want
  have J0 : Inv (L2H.cxH CX0 P w K mg base N qual scope f cdv A outer s H E p) [] (L2.start N vs) H s1 := L2H.inv_startH S pin en ln rel x
  refine wpAny_mono (ht.run [] s1 (L2.start N vs) H _ J0 ok) (fun fl z hz => ?_) fun _ _ hz => hz
  match fl, hz with
  | .ret u, hz => obtain ⟨v, σ', H', J, rv, q⟩ := hz; exact ⟨v, H', J.os, J.bare, J.base, J.hok, rv, q⟩
  | .next, hz => obtain ⟨σ', H', J, q⟩ := hz; exact ⟨V.non, H', J.os, J.bare, J.base, J.hok, rfl, q⟩
  | .brk, hz | .cont, hz => obtain ⟨_, _, _, q⟩ := hz; exact q.elim
structure DnP (P : Program) (w : World) (K : PySem.W.Frag) (mg : Str → Option Value) (base : Heap) (k : Nat) (x : Str) (sp : SpP) : Prop where
  ex : ∃ (f : Addr) (fd : FuncData) (ps : List Str), FnP P w K mg base k f fd ps sp ∧ mg x = some (.ref f) ∧ PySem.W.keepIn K (.ref f) = true ∧ Binds K fd ps []
theorem TD_dp {P : Program} {w : World} {K : PySem.W.Frag} {mg : Str → Option Value} {base : Heap} {x : Str} {st : Stmt} {N ps : List Str} {k : Nat} {sp : SpP} (D : TD K mg x st) (S : FnScope N ps (defScope st)) (b : BindOk x x st ps) (len : ∀ p vs H Q E, sp p vs H Q E → vs.length = ps.length)
    (inner : ∀ (f : Addr) (cdv : Value) (p : Addr × Obj) (A : Around) (outer : List Env) (s : Shared) (H : Hp) (vs : List V) (Q : VK) (E : XK), L2H.RoomH k (A.deeper (envOfC x (defScope st) s.heap.objs.size f cdv)) → sp p vs H Q E →
      ∃ t, PSs (L2H.cxH CX0 P w K mg base N x (defScope st) f cdv A outer s H E p) (defBody st) t ∧ t { nx := fun _ H' => Q .non H', rt := Q } (L2.start N vs) H) : DnP P w K mg base (k + 1) x sp := by
  obtain ⟨f, fd, F, hm⟩ := D.ex
  have hb := F.binds b
  have kp := F.kp
  obtain ⟨oc, od, kV, doc, pm, an, cdv, ct, osl, e, lk, hcd⟩ := F.ex
  subst e
  exact ⟨f, _, ps, fn_ofP lk hcd S len fun p A outer s H vs Q E hr h => inner f cdv p A outer s H vs Q E hr h, hm, kp, hb⟩
section
variable {X : Cx} {k j : Nat} {sp : SpP} {x : Str} {p pos : Pos} {e : Expr} {es : List Expr} {t : TA} {a : Addr} {oe : Obj} {pn : List (Addr × Obj)}
theorem roomS {X : Cx} {a : Addr} {pn : List (Addr × Obj)} {j : Nat} (hr : Room j X.A) : L2H.RoomH j (X.suite a pn).A := ⟨hr.dp, hr.un⟩
theorem callS {Y : Cx} {pins : List (Addr × Obj)} {σ : L2.St} {H : Hp} {s : Shared} {Q : VK} {f : Addr} {fd : FuncData} {ps : List Str} {us : List Value} {vs : List V} (F : FnP Y.prog Y.w Y.K Y.mg Y.base k f fd ps sp) (hr : L2H.RoomH k Y.A) (hb : Binds Y.K fd ps []) (hp : (a, oe) ∈ Y.pn) (I : Inv Y pins σ H s) (r : Vals vs us)
    (q : sp (a, oe) vs H Q E0) : wpAny (model Y.prog Y.w) Y.A (call (.ref f) us) (EP Y pins σ Q) Y.xe s := by
  have lu : us.length = ps.length := by rw [← r.length]; exact F.len _ _ _ _ _ q
  have bb := hb s us I.kIn (by rw [List.append_nil]; exact lu)
  rw [List.append_nil] at bb
  obtain ⟨g1, g2, g3, g4, g5⟩ := I.pin (a, oe) (List.mem_append_left _ hp)
  have pin : L2H.PinOk Y.stack H s (a, oe) := ⟨g1, g2, fun hm => (List.mem_cons.mp (I.stkSub a hm)).elim g3 g4, g5⟩
  refine wpAny_call (codeAny_mono (F.run (a, oe) Y.A Y.stack s H ⟨us, []⟩ us vs Q E0 hr pin I.env0 bb r q) fun r s' hq => ?_)
  match r, hq with
  | .error er, hq => exact hq.elim
  | .ok (.ret z), hq => exact I.after hq
  | .ok .next, hq | .ok .brk, hq | .ok .cont, hq => exact hq.elim
/-- f(e) of the caught exception, in its suite -/
def tCallS (sp : SpP) (a : Addr) (cls : Value) (d : Option Addr) (t : TA) : TE := fun σ H Q => t σ H fun vs H1 => ∀ oe : Obj, Zc cls d oe → (∃ zs, oe.data = .fields zs) → sp (a, oe) vs H1 Q E0
theorem pe_dS {cls : Value} {dd : Option Addr} (d : DnP X.prog X.w X.K X.mg X.base k x sp) (hr : Room j X.A) (hk : k ≤ j) (hz : Zc cls dd oe) (hf : ∃ zs, oe.data = .fields zs) (hg : Gl X x) (ha : PA (X.suite a ((a, oe) :: pn)) (e :: es) t) (hdb : (x == ("__debug__" : Str)) = false := by decide)
    (he : starEach (e :: es) X.env = (false, eval e X.env) :: starEach es X.env := by rfl) (hpl : (backTo pos (starEach es X.env)).any (·.1) = false := by rfl) : PE (X.suite a ((a, oe) :: pn)) (.Call (.Name x p) (e :: es) [] pos) (tCallS sp a cls dd t) := by
  obtain ⟨f, fd, ps, F, hm, hkp, hb⟩ := d.ex
  refine ⟨fun pins s σ H Q I h => wpAny_Call_Name_kw (ld_glob (X := X.suite a ((a, oe) :: pn)) I hg hm (PySem.W.callWith_K (h₀ := X.base) I.ok.mod.kin hkp (thn (ha.run pos pins s σ H _ I h) fun us s1 ⟨vs, H1, I1, r, q⟩ => ⟨I1.kIn, ?_⟩) he hpl) hdb)⟩
  exact callS F ((roomS hr).mono hk) hb List.mem_cons_self I1 r (q oe hz hf)
/-- isinstance of a thing that is pinned -/
theorem call_isP {cls : Value} {d : Option Addr} (hp : (a, oe) ∈ X.pn) (hz : Zc cls d oe) (hf : ∃ vs, oe.data = .fields vs) : CallR X (.builtin "isinstance") (rIsX X.K a cls d) := by
  intro pins s σ H xs us Q I r h
  obtain ⟨D, dx, fs, c, cv, b, rfl, rfl, hdx, ec, rfl, hcv, e, q⟩ := h
  obtain ⟨u1, u2, rfl, ru1, ru2⟩ := vals2 r
  cases ru1
  have e2 := hcv _ ru2
  subst e2
  obtain ⟨hg, _⟩ := I.pin (a, oe) (List.mem_append_left _ hp)
  obtain ⟨vs, hv⟩ := hf
  have hx : ObjOk X.prog X.w H s.heap dx (.xd fs) := I.hok dx _ hdx
  obtain ⟨mA, hns, _⟩ := hx
  obtain ⟨od, ho, _⟩ := L2.lookIn_ns hns
  have J : PySem.W.InstAt s.heap a oe D (some od) := ⟨hg, hz.1, by unfold PySem.W.notCls; rw [hv] <;> rfl, by rw [hz.2]; exact ho⟩
  exact PySem.W.kia_one (kx_exc ec) I.kIn J e (fun z => nomatch z) fun tk => ⟨.bl b, H, I.kept (t' := tk) fun _ _ z => z, rfl, q⟩
end
end UW

set_option Elab.async false
set_option linter.all false
set_option maxRecDepth 100000
set_option maxHeartbeats 4000000
/-! {x} of None; == of flat lists and tuples of ints, texts and None -/
namespace UW
open PySem PySem.Spec PyProof.Rows L2 UL UV
section
variable {X : Cx}
/-- {x}: a text, an int, None -/
def tFmtN (te : TE) : TE := fun σ H Q => te σ H fun x H1 => (∃ y : Str, x = .str y ∧ y.length ≤ sizeLine ∧ Q (.str y) H1) ∨ (∃ i : Int, x = .int i ∧ i.natAbs.log2 < 1920 ∧ Q (.str (toString i)) H1) ∨ (x = .non ∧ Q (.str "None") H1)
theorem pe_fmtN {e : Expr} {te : TE} {pos : Pos} (he : PE X e te) : PE X (.FormattedValue e (-1) none pos) (tFmtN te) := by
  refine ⟨fun pins s σ H Q I h => wpAny_FormattedValue_plain (thn (he.run pins s σ H _ I h) fun v s1 ⟨x, H1, I1, r1, q⟩ => ?_)⟩
  rcases q with ⟨y, rfl, hz, q⟩ | ⟨i, rfl, hz, q⟩ | ⟨rfl, q⟩
  · obtain ⟨t, rfl⟩ := r1
    exact wpAny_formatField_str ⟨.str y, H1, I1, ⟨t, rfl⟩, q⟩ ⟨.str y, H1, I1.tok _, ⟨_, rfl⟩, q⟩ hz
  · obtain ⟨t, rfl⟩ := r1
    exact wpAny_formatField_int hz ⟨.str (toString i), H1, I1.tok _, ⟨_, rfl⟩, q⟩
  · obtain rfl : v = Value.none := r1
    exact wpAny_formatField_none ⟨.str "None", H1, I1.tok _, ⟨_, rfl⟩, q⟩
end
section
variable {K : PySem.W.Frag} {H : Hp} {Q : VK} {a b : Addr} {xs ys : List V}
def fl3 : V → Bool
  | .int _ => true
  | .str x => PyData.strOk x
  | .non => true
  | _ => false
theorem fl3_of {xs : List V} (h : xs.all fl2 = true) : xs.all fl3 = true := by
  rw [List.all_eq_true] at h ⊢
  intro v hv
  have := h v hv
  cases v <;> simp_all [fl2, fl3]
theorem d3_dp {v : V} (h : fl3 v = true) : Dp K H v (dV v) := by
  cases v <;> first | exact .int _ | exact .str _ | exact .non | exact nomatch h
theorem d3_all : ∀ {xs : List V}, xs.all fl3 = true → DpAll K H xs (xs.map dV)
  | [], _ => .nil
  | x :: r, h => by
    rw [List.all_cons, Bool.and_eq_true] at h
    exact .cons (d3_dp h.1) (d3_all h.2)
theorem d3_shape : ∀ {xs : List V}, xs.all fl3 = true → PyData.canLayAll0 (xs.map dV) = true ∧ PyData.depthAll (xs.map dV) ≤ 1
  | [], _ => by simp [PyData.canLayAll0, PyData.depthAll]
  | x :: r, h => by
    rw [List.all_cons, Bool.and_eq_true] at h
    have ih := d3_shape (xs := r) h.2
    have h0 : PyData.canLay0 (dV x) = true ∧ PyData.depth (dV x) ≤ 1 := by cases x <;> simp_all [dV, fl3, PyData.canLay0, PyData.depth]
    simp only [List.map_cons, PyData.canLayAll0, PyData.depthAll, h0.1, ih.1, Bool.and_self, true_and]
    omega
theorem d3_eq {x y : V} (hx : fl3 x = true) (hy : fl3 y = true) : PyData.eqv (dV x) (dV y) = decide (x = y) := by
  cases x <;> cases y <;> simp_all [fl3, dV, PyData.eqv] <;> rw [Bool.eq_iff_iff] <;> simp
theorem d3_eqAll : ∀ {xs ys : List V}, xs.all fl3 = true → ys.all fl3 = true → PyData.eqvAll (xs.map dV) (ys.map dV) = decide (xs = ys)
  | [], [], _, _ => by simp [PyData.eqvAll]
  | [], _ :: _, _, _ => by simp [PyData.eqvAll]
  | _ :: _, [], _, _ => by simp [PyData.eqvAll]
  | x :: r, y :: t, h1, h2 => by
    rw [List.all_cons, Bool.and_eq_true] at h1 h2
    rw [List.map_cons, List.map_cons, PyData.eqvAll, d3_eq h1.1 h2.1, d3_eqAll h1.2 h2.2, Bool.eq_iff_iff]
    simp
theorem l3_shape {xs : List V} (hf : xs.all fl3 = true) : SeqAt.shaped (.list (xs.map dV)) = true ∧ SeqAt.shaped (.tuple (xs.map dV)) = true := by
  have h := d3_shape hf
  have h2 := h.2
  have h1 : PyData.canLay0 (.list (xs.map dV)) = true := by rw [PyData.canLay0]; exact h.1
  have h3 : PyData.depth (.list (xs.map dV)) ≤ 64 := by rw [PyData.depth]; omega
  have h4 : PyData.canLay0 (.tuple (xs.map dV)) = true := by rw [PyData.canLay0]; exact h.1
  have h5 : PyData.depth (.tuple (xs.map dV)) ≤ 64 := by rw [PyData.depth]; omega
  refine ⟨?_, ?_⟩
  · show (_ && _) = true
    rw [h1, decide_eq_true h3]; rfl
  · show (_ && _) = true
    rw [h4, decide_eq_true h5]; rfl
/-- == and != of two lists, two tuples -/
theorem eqL3 (hx : xs.all fl3 = true) (hy : ys.all fl3 = true) (ha : SqL K H a xs) (hb : SqL K H b ys) (q : Q (.bl (decide (xs = ys))) H) : rEqA K (.ref a) (.ref b) H Q :=
  .inr ⟨_, _, .lst ha (d3_all hx), .lst hb (d3_all hy), (l3_shape hx).1, (l3_shape hy).1, by rw [PyData.eqv, d3_eqAll hx hy]; exact q⟩
theorem neL3 (hx : xs.all fl3 = true) (hy : ys.all fl3 = true) (ha : SqL K H a xs) (hb : SqL K H b ys) (q : Q (.bl (!decide (xs = ys))) H) : rNeA K (.ref a) (.ref b) H Q :=
  .inr ⟨_, _, .lst ha (d3_all hx), .lst hb (d3_all hy), (l3_shape hx).1, (l3_shape hy).1, by rw [PyData.eqv, d3_eqAll hx hy]; exact q⟩
theorem eqT3 (hx : xs.all fl3 = true) (hy : ys.all fl3 = true) (ha : SqT K H a xs) (hb : SqT K H b ys) (q : Q (.bl (decide (xs = ys))) H) : rEqA K (.ref a) (.ref b) H Q :=
  .inr ⟨_, _, .tup ha (d3_all hx), .tup hb (d3_all hy), (l3_shape hx).2, (l3_shape hy).2, by rw [PyData.eqv, d3_eqAll hx hy]; exact q⟩
theorem neT3 (hx : xs.all fl3 = true) (hy : ys.all fl3 = true) (ha : SqT K H a xs) (hb : SqT K H b ys) (q : Q (.bl (!decide (xs = ys))) H) : rNeA K (.ref a) (.ref b) H Q :=
  .inr ⟨_, _, .tup ha (d3_all hx), .tup hb (d3_all hy), (l3_shape hx).2, (l3_shape hy).2, by rw [PyData.eqv, d3_eqAll hx hy]; exact q⟩
theorem eqSS {x y : Str} (h1 : x.length ≤ sizeLine) (q : Q (.bl (decide (x = y))) H) : rEqA K (.str x) (.str y) H Q := by
  have e : (x == y) = decide (x = y) := by rw [Bool.eq_iff_iff]; simp
  first
  | exact .inl ⟨rfl, by simpa using q⟩
  | exact .inl ⟨rfl, by rw [e]; exact q⟩
  | exact .inl ⟨rfl, q⟩
end
end UW

set_option Elab.async false
set_option linter.all false
set_option maxRecDepth 100000
set_option maxHeartbeats 4000000
/-! with an own context manager, whose block may raise -/
namespace UW
open PySem PySem.Spec PyProof.Rows L2 UL UV
section
variable {prog : Program} {w : World} {A : Around} {E : Value → Shared → Prop} {s : Shared} {env : Env} {K : PySem.W.Frag} {x C fe fx : Addr} {ox : Obj} {od : Option Obj} {pos : Pos}
/-- what is asked where the block let u out -/
def OutX (prog : Program) (w : World) (A : Around) (E : Value → Shared → Prop) (env : Env) (x fx : Addr) (Q : Flow → Shared → Prop) (u : Value) (s : Shared) : Prop :=
  wpAny (model prog w) A (noteFrame u env) (fun _ s5 => wpAny (model prog w) A (setFlight u none) (fun _ s6 => ∃ a oe vs T oT ts cls, u = .ref a ∧ s6.heap.get? a = some oe ∧ oe.cls = cls ∧ oe.data = .fields vs ∧ vs[1]? = some (.ref T) ∧ s6.heap.get? T = some oT ∧ oT.data = .fields ts ∧ 3 < ts.size ∧
    ∀ tv, tv = Value.none ∨ tv = .ref T → codeAny (model prog w) (A.mark (some u)) (.call (.ref fx) ⟨[.ref x, cls, u, tv], []⟩) (fun r s7 => match r with | .ok (.ret v) => v = .none ∧ wpAny (model prog w) A (PySem.passOn "with" u env : Sem Flow) Q E s7 | .ok _ => False | .error e => E e s7) s6) E s5) E s
theorem with_core {bdy : Sem Flow} {Q : Flow → Shared → Prop} (X : K.In s.heap) (I : PySem.W.InstAt s.heap x ox C od) (he : PySem.W.findIn K (.ref C) "__enter__" = some (some (.ref fe))) (hfe : PySem.W.isFn K (.ref fe) = true) (hx : PySem.W.findIn K (.ref C) "__exit__" = some (some (.ref fx))) (hfx : PySem.W.isFn K (.ref fx) = true)
    (h : wpAny (model prog w) A (call (.ref fe) [.ref x]) (fun v s₂ => wpAny (model prog w) A bdy (fun f s₄ => wpAny (model prog w) A (call (.ref fx) [.ref x, .none, .none, .none]) (fun _ s₅ => Q f s₅) E s₄) (OutX prog w A E env x fx Q) s₂) E s) :
    wpAny (model prog w) A (withItem false pos env (pure (.ref x)) none bdy) Q E s := by
  obtain ⟨cd, hcd, ae⟩ := PySem.W.kw_along he
  obtain ⟨cd', hcd', ax⟩ := PySem.W.kw_along hx
  cases hcd.symm.trans hcd'
  obtain ⟨hh, g, d, tt, os⟩ := s
  have L1 : PySem.W.Looks (model prog w) hh (specialOnItsLine (.ref x) "__enter__") (some (.ref fe), cd.mro) := PySem.W.kw_special X I hcd ae
  have L2 : PySem.W.Looks (model prog w) hh (specialOnItsLine (.ref x) "__exit__") (some (.ref fx), cd.mro) := PySem.W.kw_special X I hcd ax
  have L3 : PySem.W.Looks (model prog w) hh (bindSpecial (.ref fe) (.ref x)) (.ref fe, [.ref x]) := PySem.W.bind_fn X _ (beq_iff_eq.mp hfe)
  have L4 : PySem.W.Looks (model prog w) hh (bindSpecial (.ref fx) (.ref x)) (.ref fx, [.ref x]) := PySem.W.bind_fn X _ (beq_iff_eq.mp hfx)
  have L5 : PySem.W.Looks (model prog w) hh (aMethodOfAnotherBuiltinTypeStops (.ref fe) cd.mro) () := PySem.W.Looks.of_pure rfl
  have L6 : PySem.W.Looks (model prog w) hh (aMethodOfAnotherBuiltinTypeStops (.ref fx) cd.mro) () := PySem.W.Looks.of_pure rfl
  unfold withItem
  refine wpAny_bind (wpAny_pure (wpAny_bind (wpAny_standAt ?_)))
  simp only [Bool.false_eq_true, if_false]
  kw_lk
  refine wpAny_mono h (fun v s₂ h₂ => ?_) fun _ _ z => z
  kw_lk
  refine wpAny_attempt (PySem.W.kw_held ?_)
  show wpAny _ _ bdy _ _ _
  refine wpAny_mono h₂ (fun f s₄ h₄ => ?_) fun u s₄ h₄ => ?_
  · kw_lk
    refine wpAny_mono h₄ (fun _ s₅ h₅ => ?_) fun _ _ z => z
    kw_lk
    exact h₅
  · show wpAny _ _ (noteFrame u env >>= _) _ _ _
    refine wpAny_bind (wpAny_mono h₄ (fun _ s5 h5 => wpAny_bind (wpAny_mono h5 (fun _ s6 h6 => wpAny_bind (wpAny_standAt (wpAny_holding ?_))) fun _ _ z => z)) fun _ _ z => z)
    obtain ⟨a, oe, vs, T, oT, ts, cls, rfl, ha, hc, hd, h1, hT, hdT, h3, hcode⟩ := h6
    refine wpAny_bind (wpAny_typeOf_ref ha ?_)
    rw [hc]
    have rest : ∀ tv, tv = Value.none ∨ tv = .ref T → wpAny (model prog w) A (withItem.marked (.ref a) (Code.call (.ref fx) ⟨[.ref x] ++ [cls, .ref a, tv], []⟩)) (fun r s7 => r = .none ∧ wpAny (model prog w) A (PySem.passOn "with" (.ref a) env : Sem Flow) Q E s7) E s6 := fun tv htv => by
      unfold withItem.marked
      refine wpAny_bind (wpAny_run (codeAny_mono (hcode tv htv) fun r s7 z => ?_) (by intro z; cases z))
      match r, z with
      | .ok (.ret v), z => exact wpAny_pure z
      | .error e, z => exact z
      | .ok .next, z | .ok .brk, z | .ok .cont, z => exact z.elim
    obtain ⟨y, hy⟩ : ∃ y, ts[1]? = some y := ⟨ts[1], by simp [show 1 < ts.size by omega]⟩
    unfold tracebackOf
    refine wpAny_bind (wpAny_bind (wpAny_field ha hd h1 ?_))
    dsimp only
    refine wpAny_bind (wpAny_field hT hdT hy ?_)
    by_cases q : (y == Value.none) = true
    · rw [if_pos q]
      refine wpAny_pure (wpAny_bind (wpAny_mono (rest _ (.inl rfl)) (fun r s7 hz => ?_) fun _ _ z => z))
      obtain ⟨rfl, z⟩ := hz
      refine wpAny_bind (wpAny_pure ?_)
      dsimp only
      refine wpAny_bind (wpAny_pure ?_)
      rw [if_neg (by decide)]
      exact z
    · rw [if_neg q]
      refine wpAny_pure (wpAny_bind (wpAny_mono (rest _ (.inr rfl)) (fun r s7 hz => ?_) fun _ _ z => z))
      obtain ⟨rfl, z⟩ := hz
      refine wpAny_bind (wpAny_pure ?_)
      dsimp only
      refine wpAny_bind (wpAny_pure ?_)
      rw [if_neg (by decide)]
      exact z
end
section
variable {X : Cx} {k j : Nat} {C fe fx : Addr} {fde fdx : FuncData} {pse psx : List Str} {spe : Sp} {spx : Sp} {Wout : WX}
/-- behind the block: __exit__ with three None, then what was due -/
def exW (spx : Sp) (m : Addr) (R : Hp → Prop) (H : Hp) : Prop := spx [.ref m, .non, .non, .non] H (fun v H3 => v = .non ∧ R H3) E0
def exO (spx : Sp) (m : Addr) (D : Ends) : Ends := ⟨fun σ2 H2 => exW spx m (fun H3 => D.nx σ2 H3) H2, fun v H2 => exW spx m (fun H3 => D.rt v H3) H2, fun σ2 H2 => exW spx m (fun H3 => D.bk σ2 H3) H2, fun σ2 H2 => exW spx m (fun H3 => D.ct σ2 H3) H2⟩
/-- the block raised -/
def wOut (spx : Sp) (m : Addr) (Wout : WX) : WX := fun cls d σ2 H2 => ∃ c : Addr, cls = .ref c ∧ ∀ (a : Addr) (tv : V), H2 a = none → spx [.ref m, .ref c, .ref a, tv] H2 (fun v H3 => v = .non ∧ Wout cls d σ2 H3) E0
def sWith (C : Addr) (spe spx : Sp) (Wout : WX) (tm : TE) (tb : WX → TS) : TS := fun D σ H => tm σ H fun x H1 => ∃ m dx fs, x = .ref m ∧ H1 m = some (.ins C dx fs) ∧ spe [.ref m] H1 (fun _ H2 => tb (wOut spx m Wout) (exO spx m D) σ H2) E0
/-- the exception of the block: __exit__ is called, on it goes -/
theorem with_exc {pins : List (Addr × Obj)} {D : Ends} {m : Addr} {u : Value} {s' : Shared} (hs : X.stack = X.env :: X.outer) (hf : X.env.frame = some X.env.locals) (hex : X.ex = []) (ok : X.Ok) (tk : Takes X Wout) (hr : Room j X.A) (hk : k ≤ j) (F : FnP X.prog X.w X.K X.mg X.base k fx fdx psx (fun _ => spx)) (hb : Binds X.K fdx psx [])
    {xe : Value → Shared → Prop} (xx : XE (X.tr (X.pn ++ pins) xe) (wOut spx m Wout) u s') : OutX X.prog X.w X.A X.xe X.env m fx (SP X pins D) u s' := by
  have hfr : X.A.frames = some (X.env :: X.outer) := by rw [ok.frames, hs]
  obtain ⟨a, B, sI, pins', σ', H', cls, d, rfl, J', nb, up, sky, na, os, ag, c, rfl, hw⟩ := xx
  have J : Inv X pins σ' H' sI := J'.ofTry ok
  have sky' : Sky B (X.env :: X.outer) a (Zc (.ref c) d) X.env.locals s'.heap := by rw [← hs]; exact sky
  unfold OutX
  refine Sky.land Zc.steady hfr hf sky' fun h3 fl3 up3 => ?_
  have J3 : Inv X pins σ' H' { s' with heap := h3 } := J.landed nb fl3.1 (up.trans up3) os ag
  obtain ⟨k1, k2, k3, oe, vs, T, oT, ts, he3, hz, hd, hv1, hnT, hTe, hT, hdT, ht3⟩ := id fl3
  refine ⟨a, oe, vs, T, oT, ts, .ref c, rfl, he3, hz.1, hd, hv1, hT, hdT, by have := (Array.getElem?_eq_some_iff.mp ht3).1; exact this, fun tv htv => ?_⟩
  have nT : H' T = none := (J.inGround nb).gone hnT
  have notFr : ∀ (b : Addr) (o : Obj) (fv : Array Value), h3.get? b = some o → o.data = .fields fv → b ∉ frs (X.env :: X.outer) := fun b o fv e dd hm => by
    obtain ⟨_, o', e', hnf⟩ := k3.mem hm
    rw [e] at e'; cases e'; exact hnf _ dd
  have locF : X.env.locals ∈ frs (X.env :: X.outer) := List.mem_filterMap.mpr ⟨X.env, List.mem_cons_self, hf⟩
  have fsF : ∀ b, b ∈ X.fs → b ∈ frs (X.env :: X.outer) := fun b hm => let ⟨e, he, q⟩ := List.mem_filterMap.mp hm; List.mem_filterMap.mpr ⟨e, List.mem_cons_of_mem _ he, q⟩
  have fa := notFr a oe vs he3 hd
  have fT := notFr T oT ts hT hdT
  have I1 := pin1 J3 hT nT (fun z => fT (z ▸ locF)) (fun z => fT (fsF _ z)) (fun v z => by rw [hdT] at z; cases z)
  have I2 := pin1 I1 he3 na (fun z => fa (z ▸ locF)) (fun z => fa (fsF _ z)) (fun v z => by rw [hd] at z; cases z)
  have S3 : Inv (X.suite a ((a, oe) :: (T, oT) :: (X.pn ++ pins))) [] σ' H' { s' with heap := h3 } :=
    ⟨I2.ok.suite _ _, I2.os, I2.bare, I2.base, I2.loc, I2.cell, I2.free, I2.freeC, fun p hp => by
      rw [List.append_nil] at hp
      refine I2.pin p ?_
      rcases List.mem_cons.mp hp with z | hp
      · rw [z]; exact List.mem_append_right _ List.mem_cons_self
      · rcases List.mem_cons.mp hp with z | hp
        · rw [z]; exact List.mem_append_right _ (List.mem_cons_of_mem _ List.mem_cons_self)
        · rcases List.mem_append.mp hp with z | z
          · exact List.mem_append_left _ z
          · exact List.mem_append_right _ (List.mem_cons_of_mem _ (List.mem_cons_of_mem _ z)), I2.hok, I2.len⟩
  obtain ⟨tv', rtv⟩ : ∃ tv' : V, RelV tv' tv := by
    rcases htv with rfl | rfl
    · exact ⟨.non, rfl⟩
    · exact ⟨.ref T, rfl⟩
  have q := hw a tv' na
  have r4 : Vals [V.ref m, V.ref c, V.ref a, tv'] [Value.ref m, Value.ref c, Value.ref a, tv] := .cons rfl (.cons rfl (.cons rfl (.cons rtv .nil)))
  have l4 : [Value.ref m, Value.ref c, Value.ref a, tv].length = psx.length := by rw [← r4.length]; exact F.len (a, oe) _ _ _ _ q
  have bb := hb { s' with heap := h3 } [Value.ref m, Value.ref c, Value.ref a, tv] S3.kIn (by rw [List.append_nil]; exact l4)
  rw [List.append_nil] at bb
  obtain ⟨g1, g2, g3, g4, g5⟩ := S3.pin (a, oe) (List.mem_append_left _ List.mem_cons_self)
  have pin : L2H.PinOk X.stack H' { s' with heap := h3 } (a, oe) := ⟨g1, g2, fun hm => (List.mem_cons.mp (S3.stkSub a hm)).elim g3 g4, g5⟩
  refine codeAny_mono (F.run (a, oe) (X.A.mark (some (.ref a))) X.stack { s' with heap := h3 } H' ⟨[.ref m, .ref c, .ref a, tv], []⟩ _ _ (fun v H3 => v = .non ∧ Wout (.ref c) d σ' H3) E0 ⟨(hr.mono hk).dp, (hr.mono hk).un⟩ pin S3.env0 bb r4 q) fun r s7 hq => ?_
  match r, hq with
  | .error er, hq => exact hq.elim
  | .ok .next, hq | .ok .brk, hq | .ok .cont, hq => exact hq.elim
  | .ok (.ret z), hq =>
    obtain ⟨v, H6, S6, rv, rfl, q6⟩ := S3.after hq
    refine ⟨rv, ?_⟩
    have K6 : Inv X pins σ' H6 s7 := ⟨ok, S6.os, S6.bare, S6.base, S6.loc, S6.cell, S6.free, S6.freeC, fun p hp => S6.pin p (List.mem_append_left _ (List.mem_cons_of_mem _ (List.mem_cons_of_mem _ hp))), S6.hok, S6.len⟩
    obtain ⟨ga, na6, _⟩ := S6.pin (a, oe) (List.mem_append_left _ List.mem_cons_self)
    obtain ⟨gT, nT6, _⟩ := S6.pin (T, oT) (List.mem_append_left _ (List.mem_cons_of_mem _ List.mem_cons_self))
    have apart : ∀ b o, sI.heap.get? b = some o → b ≠ a ∧ b ≠ T := fun b o e => by
      by_cases hb : b ∈ frs X.stack
      · rw [hs] at hb
        exact ⟨fun z => fa (z ▸ hb), fun z => fT (z ▸ hb)⟩
      · have z := nb b o e hb
        refine ⟨fun y => ?_, fun y => ?_⟩
        · rw [y, k2] at z; cases z
        · rw [y, hnT] at z; cases z
    have apart0 : ∀ b o, X.s_0.heap.get? b = some o → b ≠ a ∧ b ≠ T := fun b o e => let ⟨o', z⟩ := J.base.there b o e (by rw [hex]; simp); apart b o' z
    obtain ⟨G, g1, g2⟩ := restrict s7.heap fun b => !(decide (b = a) || decide (b = T))
    have gin : ∀ b o, G.get? b = some o → s7.heap.get? b = some o ∧ b ≠ a ∧ b ≠ T := fun b o e => by
      cases z : (!(decide (b = a) || decide (b = T))) with
      | false => rw [g2 b z] at e; cases e
      | true =>
        rw [g1 b z] at e
        simp only [Bool.not_eq_true', Bool.or_eq_false_iff, decide_eq_false_iff_not] at z
        exact ⟨e, z⟩
    have I6 : Inv X pins σ' H6 { s7 with heap := G } := K6.less (fun b o e => (gin b o e).1) (fun b o h1 h2 e => by rw [g1 b (by simp [h1, h2])]; exact e) ⟨oe, vs, ga, hd⟩ ⟨oT, ts, gT, hdT⟩ na6 nT6 apart0 fun p hp => apart p.1 p.2 (J.pin p hp).1
    have gno : ∀ b, (b = a ∨ b = T) → (PySem.W.hideAll G (frs X.stack)).get? b = none := fun b hb => by
      cases z : (PySem.W.hideAll G (frs X.stack)).get? b with
      | none => rfl
      | some o => exact absurd hb (fun y => y.elim (gin b o (PySem.W.of_hideAll _ z)).2.1 (gin b o (PySem.W.of_hideAll _ z)).2.2)
    have fl6 : HandSPX.FlyingZ (PySem.W.hideAll G (frs X.stack)) (X.env :: X.outer) a (Zc (.ref c) d) s7.heap := by
      refine ⟨fun b o e => (gin b o (PySem.W.of_hideAll _ e)).1, gno a (.inl rfl), ?_, oe, vs, T, oT, ts, ga, hz, hd, hv1, gno T (.inr rfl), hTe, gT, hdT, ht3⟩
      rw [← hs]
      exact funFrames_none (B := PySem.W.hideAll G (frs X.stack)) K6.stack fun b hb => PySem.W.hideAll_none _ hb
    unfold PySem.passOn
    refine wpAny_bind (wpAny_field ga hd hv1 ?_)
    rw [if_neg (show ¬ ((Value.ref T == Value.none) = true) from by simp)]
    have fin : wpAny (model X.prog X.w) X.A (setFlight (.ref a) X.env.frame) (fun _ s8 => wpAny (model X.prog X.w) X.A (throw (.ref a) : Sem Flow) (SP X pins D) X.xe s8) X.xe s7 := by
      rw [hf]
      refine HandSPX.setFlight_upZ fl6 fun h7 hh7 up7 => wpAny_throw (tk _ _ ⟨a, PySem.W.hideAll G (frs X.stack), { s7 with heap := G }, pins, σ', H6, .ref c, d, rfl, I6, fun b o e hb => PySem.W.hideAll_get _ e hb, Heap.UpToSlots.trans (Heap.UpToSlots.of_keeps fun b o e => (gin b o e).1) up7, .inr (.inr (by rw [← hs] at hh7; exact hh7)), na6, rfl, K6.bare, q6⟩)
    first
      | exact wpAny_bind (wpAny_pure (wpAny_bind fin))
      | exact wpAny_bind fin
theorem ps_with {CX : CXT} {ke kx : Nat} {ctx : Expr} {body : List Stmt} {pos : Pos} {tm : TE} {tb : WX → TS} (hs : X.stack = X.env :: X.outer) (hf : X.env.frame = some X.env.locals) (hex : X.ex = []) (hr : Room j X.A) (hke : ke ≤ j) (hkx : kx ≤ j) (tk : Takes X Wout)
    (Fe : FnOk X.prog X.w X.K X.mg X.base CX0 ke fe fde pse spe) (be : Binds X.K fde pse []) (Fx : FnOk X.prog X.w X.K X.mg X.base CX0 kx fx fdx psx spx) (Fp : FnP X.prog X.w X.K X.mg X.base kx fx fdx psx (fun _ => spx)) (bx : Binds X.K fdx psx [])
    (he : PySem.W.findIn X.K (.ref C) "__enter__" = some (some (.ref fe))) (hfe : PySem.W.isFn X.K (.ref fe) = true) (hx : PySem.W.findIn X.K (.ref C) "__exit__" = some (some (.ref fx))) (hfx : PySem.W.isFn X.K (.ref fx) = true) (hm : PE X ctx tm)
    (hb : ∀ (W : WX) (pn : List (Addr × Obj)) (xe : Value → Shared → Prop), Takes (X.tr pn xe) W → PassesOwn (model X.prog X.w) X.A X.env xe → PSs (X.tr pn xe) body (tb W)) : PS X (.With [⟨ctx, none⟩] body pos) (sWith C spe spx Wout tm tb) := by
  refine ⟨fun pins s σ H D I h => PySem.W.kw_exec0 (thn (hm.run pins s σ H _ I h) fun u s1 ⟨x, H1, I1, rx, m, dx, fs, ex, em, q⟩ => ?_)⟩
  subst ex
  obtain rfl : u = Value.ref m := rx
  have ok := I.ok
  obtain ⟨od, Jm⟩ := inst_of I1 em
  show wpAny _ _ (withItem false ctx.pos X.env (pure (.ref m)) none (execs body X.env)) _ _ _
  refine with_core I1.kIn Jm he hfe hx hfx ?_
  refine wpAny_mono (run_fn Fe (hr.mono hke) be .nil pass0 I1 (us := [.ref m]) (vs := [.ref m]) (.cons rfl .nil) q) (fun v s2 hv => ?_) fun _ _ z => z
  obtain ⟨v', H2, I2, rv, q2⟩ := hv
  have done : ∀ {σ' : L2.St} {H' : Hp} {s4 : Shared} {R : Hp → Prop} {Q' : Shared → Prop}, Inv X pins σ' H' s4 → exW spx m R H' → (∀ H3 s5, Inv X pins σ' H3 s5 → R H3 → Q' s5) → wpAny (model X.prog X.w) X.A (call (.ref fx) [.ref m, .none, .none, .none]) (fun _ s5 => Q' s5) X.xe s4 := fun {σ' H' s4 R Q'} J hq go => by
    refine wpAny_mono (run_fn Fx (hr.mono hkx) bx .nil pass0 J (us := [.ref m, .none, .none, .none]) (vs := [.ref m, .non, .non, .non]) (.cons rfl (.cons rfl (.cons rfl (.cons rfl .nil)))) hq) (fun r s5 hv => ?_) fun _ _ z => z
    obtain ⟨v3, H3, I3, _, _, q3⟩ := hv
    exact go H3 s5 I3 q3
  refine wpAny_mono ((hb (wOut spx m Wout) (X.pn ++ pins) (OutX X.prog X.w X.A X.xe X.env m fx (SP X pins D)) (fun u s' xx => with_exc hs hf hex ok tk hr hkx Fp bx xx) PassesOwn.looking).run [] s2 σ H2 (exO spx m D) (I2.toTry _) q2) (fun f s4 hsp => ?_) fun _ _ z => z
  cases f with
  | ret u => obtain ⟨v4, σ4, H4, J4, r4, q4⟩ := hsp; exact done (J4.ofTry ok) q4 fun H3 s5 I3 q3 => ⟨v4, σ4, H3, I3, r4, q3⟩
  | next => obtain ⟨σ4, H4, J4, q4⟩ := hsp; exact done (J4.ofTry ok) q4 fun H3 s5 I3 q3 => ⟨σ4, H3, I3, q3⟩
  | brk => obtain ⟨σ4, H4, J4, q4⟩ := hsp; exact done (J4.ofTry ok) q4 fun H3 s5 I3 q3 => ⟨σ4, H3, I3, q3⟩
  | cont => obtain ⟨σ4, H4, J4, q4⟩ := hsp; exact done (J4.ofTry ok) q4 fun H3 s5 I3 q3 => ⟨σ4, H3, I3, q3⟩
end
/-- what a def promises of a thing that is not tracked, by its body -/
theorem Fun_okP {P : Program} {w : World} {K : PySem.W.Frag} {mg : Str → Option Value} {base : Heap} {x qual : Str} {st : Stmt} {N ps : List Str} {k : Nat} {sp : SpP} {f : Addr} {fd : FuncData} (F : Fun K x qual st f fd) (S : FnScope N ps (defScope st)) (len : ∀ p vs H Q E, sp p vs H Q E → vs.length = ps.length)
    (inner : ∀ (cdv : Value) (p : Addr × Obj) (A : Around) (outer : List Env) (s : Shared) (H : Hp) (vs : List V) (Q : VK) (E : XK), L2H.RoomH k (A.deeper (envOfC qual (defScope st) s.heap.objs.size f cdv)) → sp p vs H Q E →
      ∃ t, PSs (L2H.cxH CX0 P w K mg base N qual (defScope st) f cdv A outer s H E p) (defBody st) t ∧ t { nx := fun _ H' => Q .non H', rt := Q } (L2.start N vs) H) : FnP P w K mg base (k + 1) f fd ps sp := by
  obtain ⟨oc, od, kV, doc, pm, an, cdv, ct, osl, e, lk, hcd⟩ := F.ex
  subst e
  exact fn_ofP lk hcd S len fun p A outer s H vs Q E hr h => inner cdv p A outer s H vs Q E hr h
/-- a context manager's two methods -/
structure WithN (P : Program) (w : World) (K : PySem.W.Frag) (mg : Str → Option Value) (base : Heap) (k : Nat) (C : Addr) (spe spx : Sp) : Prop where
  ex : ∃ (fe fx : Addr) (fde fdx : FuncData) (pse psx : List Str), FnOk P w K mg base CX0 k fe fde pse spe ∧ Binds K fde pse [] ∧ FnOk P w K mg base CX0 k fx fdx psx spx ∧ FnP P w K mg base k fx fdx psx (fun _ => spx) ∧ Binds K fdx psx [] ∧
    PySem.W.findIn K (.ref C) "__enter__" = some (some (.ref fe)) ∧ PySem.W.isFn K (.ref fe) = true ∧ PySem.W.findIn K (.ref C) "__exit__" = some (some (.ref fx)) ∧ PySem.W.isFn K (.ref fx) = true
section
variable {X : Cx} {k j : Nat} {C : Addr} {spe : Sp} {spx : Sp} {Wout : WX}
theorem ps_withN {ctx : Expr} {body : List Stmt} {pos : Pos} {tm : TE} {tb : WX → TS} (d : WithN X.prog X.w X.K X.mg X.base k C spe spx) (hs : X.stack = X.env :: X.outer) (hf : X.env.frame = some X.env.locals) (hex : X.ex = []) (hr : Room j X.A) (hk : k ≤ j) (tk : Takes X Wout) (hm : PE X ctx tm)
    (hb : ∀ (W : WX) (pn : List (Addr × Obj)) (xe : Value → Shared → Prop), Takes (X.tr pn xe) W → PassesOwn (model X.prog X.w) X.A X.env xe → PSs (X.tr pn xe) body (tb W)) : PS X (.With [⟨ctx, none⟩] body pos) (sWith C spe spx Wout tm tb) := by
  obtain ⟨fe, fx, fde, fdx, pse, psx, Fe, be, Fx, Fp, bx, he, hfe, hx, hfx⟩ := d.ex
  exact ps_with (CX := CX0) hs hf hex hr hk hk tk Fe be Fx Fp bx he hfe hx hfx hm hb
end
section
variable {X : Cx} {tg l : Expr} {tl : TE}
/-- in a block whose context is open: K by its name -/
theorem pi_listK (K : PySem.W.Frag) (hK : X.K = K) (hl : PE X l tl) : PI X tg l (iList K tl) := hK ▸ pi_list hl
theorem pg_tupK (K : PySem.W.Frag) (n : Nat) {es : List Expr} {k : Nat} {t : TGs} {pos : Pos} (hK : X.K = K) (hc : X.calm = true) (h : PGs X es t) (hn : (assignEach es X.env).length = n := by rfl) (hst : (assignEach es X.env).findIdx? (·.1) = none := by rfl) : PG X (.Tuple es k pos) (gTup K n t) := hK ▸ pg_tup hc h hn hst
end
end UW

set_option Elab.async false
set_option linter.all false
set_option maxRecDepth 100000
set_option maxHeartbeats 4000000
/-! an own exception without arguments: raised, caught, asked for its class -/
namespace UW
open PySem PySem.Spec PyProof.Rows L2 UL UV
section
variable {X : Cx} {pins : List (Addr × Obj)} {σ : L2.St} {H : Hp} {s : Shared} {G : Heap} {a C : Addr} {d : Option Addr}
/-- a tracked record is let go and hidden -/
theorem forget (J : Inv X pins σ H s) (ha : H a = some (exo a C d)) (h0 : X.s_0.heap.get? a = none) (gk : ∀ b, b ≠ a → G.get? b = s.heap.get? b) : Inv X pins σ (del H a) { s with heap := G } := by
  have n0 : ∀ {b : Addr} {o : Obj}, X.s_0.heap.get? b = some o → b ≠ a := fun {b o} z q => by rw [q, h0] at z; cases z
  have nn : ∀ {b : Addr}, H b = none → b ≠ a := fun {b} z q => by rw [q, ha] at z; cases z
  have dn : ∀ {b : Addr}, H b = none → del H a b = none := fun {b} z => by rw [del_ne (nn z)]; exact z
  have ic : ∀ {x c v}, X.env.cells.lookup x = some c → s.heap.IsCell c v → G.IsCell c v := fun {x c v} z q => let ⟨o, e, y⟩ := q; ⟨o, (gk c (nn (J.freeC x c z))).trans e, y⟩
  obtain ⟨m, hn, hl⟩ := J.loc
  refine ⟨J.ok, J.os, J.bare, ⟨fun b o e n hb hx => (gk b (n0 e)).trans (J.base.keep b o e n hb hx), fun b o e n hb hx => let ⟨sl, z⟩ := J.base.slot b o e n hb hx; ⟨sl, (gk b (n0 e)).trans z⟩, fun b o e n hx => dn (J.base.free b o e n hx), fun b o e hx => let ⟨u, z⟩ := J.base.there b o e hx; ⟨u, (gk b (n0 e)).trans z⟩,
      fun b xs e => ?_, fun b o u e => ?_, fun b ps e => ?_⟩, ⟨m, hn.at fun o z => (gk _ (nn J.free)).trans z, fun i x v e1 e2 e3 => ?_⟩, fun x c z => let ⟨v, q⟩ := J.cell x c z; ⟨v, ic z q⟩, dn J.free, fun x c z => dn (J.freeC x c z), fun p hp => let ⟨e, n, l, f, y⟩ := J.pin p hp; ⟨(gk _ (nn n)).trans e, dn n, l, f, y⟩, fun b o z => ?_, J.len⟩
  · have z := J.base.tups b xs e
    rw [del_ne (at_ne ha z exo_tup)]; exact z
  · have z := J.base.frzs b o u e
    rw [del_ne (at_ne ha z exo_frz)]; exact z
  · obtain ⟨more, z⟩ := J.base.tbls b ps e
    exact ⟨more, by rw [del_ne (at_ne ha z exo_tbl)]; exact z⟩
  · obtain ⟨u, ru, lk⟩ := hl i x v e1 e2 e3
    exact ⟨u, ru, lk.elim .inl fun ⟨k, c, ce, q⟩ => .inr ⟨k, c, ce, ic ce q⟩⟩
  · have hb : b ≠ a := fun q => by rw [q, del_same] at z; cases z
    rw [del_ne hb] at z
    refine (J.hok b o z).stay (fun c u hc q => (gk c ?_).trans q) (fun c hc => ?_) fun c xs hc => ?_
    · rcases hc with hc | hc
      · rw [hc]; exact hb
      · exact at_ne ha hc exo_own
    · rw [del_ne (at_ne ha hc exo_own)]; exact hc
    · rw [del_ne (at_ne ha hc exo_tup)]; exact hc
end
section
variable {X : Cx} {C g : Addr} {k j : Nat} {fd : FuncData} {ps : List Str} {sp : Sp} {x : Str} {p pos : Pos}
/-- C(), C's own __init__ keeping sp: the exception has no dict -/
def tMk0 (C : Addr) (sp : Sp) : L2.St → Hp → XK → Prop := fun σ H Q => ∀ a, H a = none → sp [.ref a] (upd H a (exo a C none)) (fun v H2 => v = .non ∧ H2 a = some (exo a C none) ∧ Q (.ref C) none (del H2 a)) E0
theorem made0 (T : OexC X.K C) (fi : PySem.W.findIn X.K (.ref C) "__init__" = some (some (.ref g))) (ty : PySem.W.typeIn X.K (.ref g) = some (.type "function")) (Fn : FnOk X.prog X.w X.K X.mg X.base CX0 k g fd ps sp) (hr : Room j X.A) (hk : k + 1 ≤ j) (B : Binds X.K fd ps [])
    (hex : X.ex = []) (hg : Gl X x) (hm : X.mg x = some (.ref C)) (hdb : (x == ("__debug__" : Str)) = false := by decide) : PMk X (.Call (.Name x p) [] [] pos) (tMk0 C sp) := by
  intro pn z1 sg Ha Qx Ia qa
  obtain ⟨nm, q, N, bs, bm, sn, sub, ab, col, dd, k0, k1, k2, k3, k5, lkC, bmE⟩ := T.cls
  refine wpAny_Call_Name_kw (ld_glob Ia hg hm (PySem.W.callWith_K0 Ia.kIn T.kC ?_) hdb)
  show wpAny _ _ (call (.ref C) []) _ _ _
  have hsz := Ia.sz
  obtain ⟨hz, gz, dz, tz, oz⟩ := z1
  have le1 : hz.objs.size ≤ hz.objs.size + 1 := Nat.le_succ _
  have fresh := Ia.hok.fresh le1
  have want := qa (hz.objs.size + 1) fresh
  have kp : ∀ b o, hz.get? b = some o → ((hz.push (PySem.W.kdv_tup [])).push (PySem.HandSPX.excO C hz.objs.size)).get? b = some o := fun b o e => Heap.get?_push_of_some _ (Heap.get?_push_of_some _ e)
  have at2 : ((hz.push (PySem.W.kdv_tup [])).push (PySem.HandSPX.excO C hz.objs.size)).get? (hz.objs.size + 1) = some (PySem.HandSPX.excO C hz.objs.size) := by heap_get
  have Ib : Inv X pn sg (upd Ha (hz.objs.size + 1) (exo (hz.objs.size + 1) C none)) ⟨((hz.push (PySem.W.kdv_tup [])).push (PySem.HandSPX.excO C hz.objs.size)), gz, dz, tz, oz⟩ := Ia.laid (t' := tz) (a := hz.objs.size + 1) (o := exo (hz.objs.size + 1) C none) (h' := ((hz.push (PySem.W.kdv_tup [])).push (PySem.HandSPX.excO C hz.objs.size))) kp le1 (exo_ok at2)
  have rb : Vals [V.ref (hz.objs.size + 1)] [Value.ref (hz.objs.size + 1)] := .cons rfl .nil
  have lb : ([Value.ref (hz.objs.size + 1)] ++ ([] : List Value)).length = ps.length := by
    rw [List.append_nil, ← rb.length]; exact Fn.len _ _ _ _ want
  have bb := B ⟨((hz.push (PySem.W.kdv_tup [])).push (PySem.HandSPX.excO C hz.objs.size)), gz, dz, tz, oz⟩ [Value.ref (hz.objs.size + 1)] Ib.kIn lb
  rw [List.append_nil] at bb
  refine wpAny_call (PySem.HandSPX.call_own F.excBase_ValueError (fun Y => PySem.HandSPX.refsVE_contains Y bm bmE) (Ia.kIn _ _ lkC) (PySem.W.looks_findIn Ia.kIn fi) (fun self => PySem.W.bind_fn Ia.kIn self ty) (by rw [sizeLine_eq]; simp)
    (codeAny_mono (Fn.run _ X.stack _ _ ⟨[Value.ref (hz.objs.size + 1)], []⟩ [Value.ref (hz.objs.size + 1)] _ _ E0 ((hr.mono hk).make C [] []) (Ib.env0.make C [] []) bb rb want) fun r z3 hq => ?_))
  match r, hq with
  | .error er, hq => exact hq.elim
  | .ok .next, hq | .ok .brk, hq | .ok .cont, hq => exact hq.elim
  | .ok (.ret u), hq =>
    obtain ⟨v, H3, I3, rv, ev, ea, q3⟩ := Ib.after hq
    subst ev
    refine ⟨rv, ?_⟩
    obtain ⟨t0, hoe⟩ := exo_at I3.hok ea
    have s0 : X.s_0.heap.get? (hz.objs.size + 1) = none := by
      cases z : X.s_0.heap.get? (hz.objs.size + 1) with
      | none => rfl
      | some o =>
        exact absurd (Nat.lt_of_lt_of_le (Heap.lt_size z) hsz) (Nat.not_lt.mpr (Nat.le_succ _))
    obtain ⟨G, g1, g2⟩ := restrict z3.heap fun b => decide (b ≠ hz.objs.size + 1)
    have gk : ∀ b, b ≠ hz.objs.size + 1 → G.get? b = z3.heap.get? b := fun b hb => g1 b (decide_eq_true hb)
    have ge : G.get? (hz.objs.size + 1) = none := g2 _ (by simp)
    have I4 := forget I3 ea s0 gk
    refine ⟨hz.objs.size + 1, _, _, { z3 with heap := G }, _, .ref C, none, rfl, I4, fun b o z => ?_, ge, hoe, ⟨rfl, rfl⟩, rfl, rfl, del_same, rfl, I3.bare, raises_own T.exC T.tyC, q3⟩
    have n : b ≠ hz.objs.size + 1 := fun y => by rw [y, ge] at z; cases z
    exact (gk b n).symm.trans z
/-- isinstance of a caught exception without a dict -/
def rIs0 (K : PySem.W.Frag) (a : Addr) (cls : Value) (d : Option Addr) : List V → Hp → VK → Prop := fun xs H Q => ∃ (D : Addr) (c : V) (cv : Value) (b : Bool), cls = .ref D ∧ d = none ∧ ExcC K D ∧ xs = [.ref a, c] ∧ (∀ u, RelV c u → u = cv) ∧ PySem.W.kitOne K (.ref D) cv = some b ∧ Q (.bl b) H
theorem call_is0 {a : Addr} {cls : Value} {d : Option Addr} {oe : Obj} {pn : List (Addr × Obj)} (hz : Zc cls d oe) (hf : ∃ vs, oe.data = .fields vs) : CallR (X.suite a ((a, oe) :: pn)) (.builtin "isinstance") (rIs0 X.K a cls d) := by
  intro pins s σ H xs us Q I r h
  obtain ⟨D, c, cv, b, rfl, rfl, ec, rfl, hcv, e, q⟩ := h
  exact call_isE (X := X) (a := a) (D := D) (oe := oe) (pn := pn) ec hz hf pins s σ H _ us Q I r ⟨c, cv, b, rfl, hcv, e, q⟩
end
end UW

set_option Elab.async false
set_option linter.all false
set_option maxRecDepth 100000
set_option maxHeartbeats 4000000
/-! match of a list of texts against sequences of words and names, the last one with a star -/
namespace UX
open PySem PySem.Spec PyProof.Rows L2 UL UV UW
/-- an item of a sequence pattern: a word, or a name (by its place among the locals) -/
inductive Itm where
  | wd (c : Str)
  | nm (i : Nat)
def NmOk (X : Cx) (i : Nat) (x : Str) : Prop := X.N[i]? = some x ∧ Loc X.env.scope x ∧ (X.fn x = true ∨ X.env.scope.names.lookup x = some .local)
def ItOk (X : Cx) : Itm → Pattern → Prop
  | .wd c, p => ∃ k q q', p = .MatchValue (.Constant (.str c) k q) q'
  | .nm i, p => ∃ x q, p = .MatchAs none (some x) q ∧ NmOk X i x
inductive ItsOk (X : Cx) : List Itm → List Pattern → Prop
  | nil : ItsOk X [] []
  | cons {i p is ps} : ItOk X i p → ItsOk X is ps → ItsOk X (i :: is) (p :: ps)
/-- what the words bind, or none -/
def mt : List Itm → List Str → Option (List (Nat × V))
  | [], [] => some []
  | .wd c :: r, s :: ss => if s = c then mt r ss else none
  | .nm i :: r, s :: ss => match mt r ss with
    | none => none
    | some bs => some ((i, .str s) :: bs)
  | _, _ => none
def puts (σ : L2.St) : List (Nat × V) → L2.St
  | [] => σ
  | (i, v) :: r => puts (σ.set i (some v)) r
inductive Bds (X : Cx) : List (Nat × V) → List (Str × Value) → Prop
  | nil : Bds X [] []
  | cons {i v x u bs cs} : NmOk X i x → RelV v u → Bds X bs cs → Bds X ((i, v) :: bs) ((x, u) :: cs)
theorem Bds.app {X : Cx} : ∀ {a b : List (Nat × V)} {c d : List (Str × Value)}, Bds X a c → Bds X b d → Bds X (a ++ b) (c ++ d)
  | _, _, _, _, .nil, h => h
  | _, _, _, _, .cons n r t, h => .cons n r (t.app h)
def Res (X : Cx) : Option (List (Nat × V)) → Option (List (Str × Value)) → Prop
  | none, none => True
  | some bs, some cs => Bds X bs cs
  | _, _ => False
section
variable {X : Cx} {pins : List (Addr × Obj)}
theorem each {prog : Program} {w : World} {A : Around} {E : Value → Shared → Prop} {pt : List Pattern} {ut : List Value} {bt : List (Str × Value)} (tail : ∀ (R' : Option (List (Str × Value)) → Shared → Prop) (s' : Shared), R' (some bt) s' → wpAny (model prog w) A (matchEach pt X.env ut) R' E s') :
    ∀ (its : List Itm) {ps : List Pattern} {ws : List Str} {us : List Value} {s : Shared} {R : Option (List (Str × Value)) → Shared → Prop}, ItsOk X its ps → its.length = ws.length → Vals (ws.map V.str) us →
      (∀ tk r, Res X (mt its ws) r → R (r.map (· ++ bt)) { s with toks := tk }) → wpAny (model prog w) A (matchEach (ps ++ pt) X.env (us ++ ut)) R E s
  | [], ps, ws, us, s, R, ok, hl, hv, hR => by
    cases ok
    cases ws with
    | cons _ _ => cases hl
    | nil =>
      cases hv
      exact tail R s (hR s.toks (some []) .nil)
  | .wd c :: its, ps, ws, us, s, R, ok, hl, hv, hR => by
    cases ok with
    | cons hi ht =>
      obtain ⟨k, q, q', rfl⟩ := hi
      cases ws with
      | nil => cases hl
      | cons a ws =>
        cases hv with
        | cons r rs =>
          obtain ⟨t, rfl⟩ := r
          refine wpAny_matchEach_cons (wpAny_matchPattern_Value (wpAny_Constant_str (PyProof.Rows.eq_str (wpAny_truthy_bool ?_))))
          by_cases e : a = c
          · subst e
            rw [beq_self_eq_true, if_pos rfl]
            refine each tail its (s := { s with toks := s.toks + 1 }) ht (Nat.succ.inj hl) rs fun tk r hr => ?_
            have := hR tk r (by show Res X (if a = a then mt its ws else none) r; rw [if_pos rfl]; exact hr)
            cases r with
            | none => exact this
            | some cs => exact this
          · rw [if_neg (by simpa using e)]
            exact hR (s.toks + 1) none (by show Res X (if a = c then mt its ws else none) none; rw [if_neg e]; trivial)
  | .nm i :: its, ps, ws, us, s, R, ok, hl, hv, hR => by
    cases ok with
    | cons hi ht =>
      obtain ⟨x, q, rfl, hn⟩ := hi
      cases ws with
      | nil => cases hl
      | cons a ws =>
        cases hv with
        | cons r rs =>
          refine wpAny_matchEach_cons (wpAny_matchPattern_Capture ?_)
          refine each tail its ht (Nat.succ.inj hl) rs fun tk r' hr => ?_
          cases e : mt its ws with
          | none =>
            rw [e] at hr
            cases r' with
            | none => exact hR tk none (by show Res X (match mt its ws with | none => none | some bs => some ((i, V.str a) :: bs)) none; rw [e]; trivial)
            | some cs => exact hr.elim
          | some bs =>
            rw [e] at hr
            cases r' with
            | none => exact hr.elim
            | some cs => exact hR tk (some ((x, _) :: cs)) (by show Res X (match mt its ws with | none => none | some bs => some ((i, V.str a) :: bs)) _; rw [e]; exact .cons hn r hr)
/-- the names are bound one after another -/
theorem binds {prog : Program} {w : World} {A : Around} {E : Value → Shared → Prop} (hN : X.N.Nodup) : ∀ {bs : List (Nat × V)} {cs : List (Str × Value)} {σ : L2.St} {H : Hp} {s : Shared} {Q : Unit → Shared → Prop}, Bds X bs cs → Inv X pins σ H s → (∀ s', Inv X pins (puts σ bs) H s' → Q () s') →
    wpAny (model prog w) A (assignInOrder (cs.map fun (n, _) => bindName X.env n) (cs.map (·.2))) Q E s
  | _, _, σ, H, s, Q, .nil, I, h => wpAny_assignInOrder_none (h s I)
  | _, _, σ, H, s, Q, .cons hn r t, I, h => by
    refine wpAny_assignInOrder_more (wpAny_bindName (store_ok I hN hn.1 hn.2.1 r (fun s1 I1 => ?_) hn.2.2))
    exact binds hN t I1 h
/-- cases, of a list of texts -/
structure PM (X : Cx) (cs : List MatchCase) (t : List Str → TS) : Prop where
  run : ∀ (pins : List (Addr × Obj)) (s : Shared) (σ : L2.St) (H : Hp) (D : Ends) (p : Addr) (ws : List Str) (b : Bool), Inv X pins σ H s → SqL X.K H p (ws.map V.str) → t ws D σ H → wpAny (model X.prog X.w) X.A (matchCases cs X.env (.ref p) b) (SP X pins D) X.xe s
theorem pm_nil : PM X [] (fun _ D σ H => D.nx σ H) := ⟨fun pins s σ H D p ws b I _ h => wpAny_matchCases_nil ⟨σ, H, I, h⟩⟩
theorem pm_any {body : List Stmt} {cs : List MatchCase} {q : Pos} {tb : TS} (hb : PSs X body tb) : PM X (⟨.MatchAs none none q, none, body⟩ :: cs) (fun _ => tb) :=
  ⟨fun pins s σ H D p ws b I _ h => wpAny_matchCases_cons (wpAny_matchPattern_Capture (wpAny_assignInOrder_none (hb.run pins s σ H D I h)))⟩
theorem mt_len : ∀ {its : List Itm} {ws : List Str} {bs : List (Nat × V)}, mt its ws = some bs → its.length = ws.length
  | [], [], _, _ => rfl
  | [], _ :: _, _, h => by cases h
  | .wd _ :: _, [], _, h => by cases h
  | .nm _ :: _, [], _, h => by cases h
  | .wd c :: r, a :: ss, bs, h => by
    have h : (if a = c then mt r ss else none) = some bs := h
    by_cases e : a = c
    · rw [if_pos e] at h
      exact congrArg Nat.succ (mt_len h)
    · rw [if_neg e] at h; cases h
  | .nm i :: r, a :: ss, bs, h => by
    have h : (match mt r ss with | none => none | some bs => some ((i, V.str a) :: bs)) = some bs := h
    cases e : mt r ss with
    | none => rw [e] at h; cases h
    | some cs => exact congrArg Nat.succ (mt_len e)
theorem its_len {X : Cx} : ∀ {its : List Itm} {ps : List Pattern}, ItsOk X its ps → its.length = ps.length
  | _, _, .nil => rfl
  | _, _, .cons _ t => congrArg Nat.succ (its_len t)
/-- a sequence without a star -/
def sSeq (its : List Itm) (tb : TS) (tn : List Str → TS) : List Str → TS := fun ws D σ H => match mt its ws with
  | some bs => tb D (puts σ bs) H
  | none => tn ws D σ H
theorem pm_seq {its : List Itm} {ps : List Pattern} {body : List Stmt} {cs : List MatchCase} {q : Pos} {tb : TS} {tn : List Str → TS} (hN : X.N.Nodup) (hc : X.calm = true) (ok : ItsOk X its ps) (hb : PSs X body tb) (hn : PM X cs tn)
    (hst : ps.findIdx? (·.isStar) = none := by rfl) (hw : (ps.all fun p => p.isWildcard || (p.isStar && p.names.isEmpty)) = false := by rfl) : PM X (⟨.MatchSequence ps q, none, body⟩ :: cs) (sSeq its tb tn) := by
  refine ⟨fun pins s σ H D p ws b I hp h => ?_⟩
  obtain ⟨us, rv, pl, hz⟩ := I.list hp
  have lu : ws.length = us.length := by rw [← List.length_map (f := V.str)]; exact rv.length
  have zs : sizeLine < 2 ^ 63 := by rw [sizeLine_eq]; decide
  rw [List.length_map] at hz
  refine wpAny_matchCases_cons (wpAny_matchPattern_Sequence (wpAny_collectionFlag pl.isList.typeIs flag_seq_list ?_) hst hw)
  rw [if_pos rfl]
  refine pyLen_list pl.isList (by simp only [List.size_toArray]; omega) ?_
  have lp := its_len ok
  have no : ∀ {tk : Nat} {hh : Heap}, (∀ b o, s.heap.get? b = some o → hh.get? b = some o) → mt its ws = none → wpAny (model X.prog X.w) X.A (matchCases cs X.env (.ref p) false) (SP X pins D) X.xe { s with heap := hh, toks := tk } := fun {tk hh} k e => by
    have h : (match mt its ws with | some bs => tb D (puts σ bs) H | none => tn ws D σ H) := h
    rw [e] at h
    exact hn.run pins _ σ H D p ws false (I.kept k) hp h
  by_cases e : us.length = ps.length
  · rw [if_neg (by simp [e])]
    have e' : ps.length = us.toArray.size := by rw [List.size_toArray, e]
    rw [e']
    refine PySem.W.kun_itemsOf (I.ok.hd hc) pl.isList fun h' hx => ?_
    have kp : ∀ b o, s.heap.get? b = some o → h'.get? b = some o := fun b o z => hx b o (Nat.ne_of_lt (Heap.lt_size z)) z
    have go := each (X := X) (prog := X.prog) (w := X.w) (A := X.A) (E := X.xe) (pt := []) (ut := []) (bt := []) (fun R' s' z => wpAny_matchEach_nil z) its (ps := ps) (ws := ws) (us := us) (s := { s with heap := h', toks := s.toks + 1 + 1 }) ok (by omega) rv
      (R := fun r s₁ => match r with
        | none => wpAny (model X.prog X.w) X.A (matchCases cs X.env (.ref p) false) (SP X pins D) X.xe s₁
        | some bs => wpAny (model X.prog X.w) X.A (assignInOrder (bs.map fun (n, _) => bindName X.env n) (bs.map (·.2))) (fun _ s₂ => wpAny (model X.prog X.w) X.A (execs body X.env) (SP X pins D) X.xe s₂) X.xe s₁) (fun tk r hr => ?_)
    · rw [List.append_nil, List.append_nil] at go
      exact go
    · have h : (match mt its ws with | some bs => tb D (puts σ bs) H | none => tn ws D σ H) := h
      cases em : mt its ws with
      | none =>
        rw [em] at hr
        cases r with
        | some _ => exact hr.elim
        | none => exact no kp em
      | some bs =>
        rw [em] at hr h
        cases r with
        | none => exact hr.elim
        | some cs' =>
          show wpAny _ _ (assignInOrder ((cs' ++ []).map _) ((cs' ++ []).map _)) _ _ _
          rw [List.append_nil]
          exact binds hN hr (I.kept kp) fun s' I' => hb.run pins s' (puts σ bs) H D I' h
  · have e2 : mt its ws = none := by
      cases em : mt its ws with
      | none => rfl
      | some bs => exact absurd (mt_len em) (by omega)
    rw [if_pos (by simp only [List.size_toArray, bne_iff_ne, ne_eq]; omega)]
    exact no (fun _ _ z => z) e2
theorem unpackS {prog : Program} {w : World} {A : Around} {E : Value → Shared → Prop} {s : Shared} {l : Addr} {items : Array Value} {i : Nat} {Q : List Value → Shared → Prop} (hl : s.heap.IsList l items) (hh : A.handled = none) (hn : i ≤ items.size) (hz : items.size ≤ sizeLine)
    (h : ∀ (h' : Heap) (tk : Nat), (∀ b o, s.heap.get? b = some o → h'.get? b = some o) → Q (items.toList.take i ++ [.ref h'.objs.size]) { s with heap := h'.push { cls := .type "list", data := .seq (items.toList.drop i).toArray }, toks := tk }) : wpAny (model prog w) A (unpackItems (.ref l) (i + 1) (some i)) Q E s := by
  have hl' := hl
  obtain ⟨o0, e0, _⟩ := hl'
  have hlt : l < s.heap.objs.size := Heap.lt_size e0
  have hne : l ≠ s.heap.objs.size := Nat.ne_of_lt hlt
  unfold unpackItems notIterableAtAll
  refine wpAny_bind (wpAny_bind (wpAny_specialOf hl.typeIs slot_list_iter.lookup (wpAny_pure ?_)))
  rw [if_neg (by simp)]
  refine wpAny_bind (wpAny_holding (wpAny_pyIter_list hl (wpAny_bind (wpAny_holding (PySem.W.kun_draw hne i 0 _ _ ⟨_, Heap.get?_push_size _ rfl, rfl, rfl⟩ (hl.push _) (by omega) fun h₁ hit hs => ?_)))))
  rw [Nat.zero_add] at hit
  have L1 : h₁.IsList l items := (hl.push _).extBut hs.extBut hne
  have hit' := hit
  have L1' := L1
  obtain ⟨oi, ei, _⟩ := hit'
  obtain ⟨ol, el, _⟩ := L1'
  rw [List.drop_zero]
  have f1 : (items.toList.take i).length = i := by rw [List.length_take, Array.length_toList]; omega
  rw [f1, if_neg (Nat.lt_irrefl i)]
  refine wpAny_bind (wpAny_holding (PySem.W.kun_collect (s := { s with heap := h₁ }) (T := "list_iterator") (.inr (.inr (.inl rfl))) (PySem.Walks.list (A := A.in1) hh s.heap.objs.size l hne items) (fun j u st => st.1.typeIs) (k := i) hn ⟨hit, L1⟩ (Heap.lt_size ei) (Heap.lt_size el) (fun h₂ tk hk => ?_) hz))
  have z0 : i + 1 - 1 - i = 0 := by omega
  rw [z0]
  show wpAny _ _ (if (items.toList.drop i).length < 0 then _ else _) _ _ _
  rw [if_neg (Nat.not_lt_zero _)]
  show wpAny _ _ (newList ((items.toList.drop i).take ((items.toList.drop i).length - 0)) >>= fun d => pure (items.toList.take i ++ [d] ++ (items.toList.drop i).drop ((items.toList.drop i).length - 0))) _ _ _
  rw [Nat.sub_zero, List.take_length, List.drop_length]
  refine wpAny_bind (wpAny_newList (wpAny_pure ?_) (by rw [List.length_drop, Array.length_toList]; omega))
  rw [List.append_nil]
  exact h h₂ tk fun b o e => hk b o (Nat.ne_of_lt (Heap.lt_size e)) (hs.extBut b o (Nat.ne_of_lt (Heap.lt_size e)) (Heap.get?_push_of_some _ e))
/-- a sequence with a star at its end -/
def sStar (its : List Itm) (i : Nat) (tb : TS) (tn : List Str → TS) : List Str → TS := fun ws D σ H => if its.length ≤ ws.length then (match mt its (ws.take its.length) with
  | some bs => ∀ r, H r = none → tb D (puts σ (bs ++ [(i, .ref r)])) (upd H r (.lst ((ws.drop its.length).map V.str)))
  | none => tn ws D σ H) else tn ws D σ H
theorem pm_star {its : List Itm} {i : Nat} {x : Str} {q' : Pos} {ps : List Pattern} {body : List Stmt} {cs : List MatchCase} {q : Pos} {tb : TS} {tn : List Str → TS} (hN : X.N.Nodup) (hc : X.calm = true) (ok : ItsOk X its ps) (hx : NmOk X i x) (hb : PSs X body tb) (hn : PM X cs tn)
    (h0 : ps.length ≠ 0) (hst : (ps ++ [Pattern.MatchStar (some x) q']).findIdx? (·.isStar) = some ps.length) (hw : ((ps ++ [Pattern.MatchStar (some x) q']).all fun p => p.isWildcard || (p.isStar && p.names.isEmpty)) = false) :
    PM X (⟨.MatchSequence (ps ++ [.MatchStar (some x) q']) q, none, body⟩ :: cs) (sStar its i tb tn) := by
  refine ⟨fun pins s σ H D p ws b I hp h => ?_⟩
  obtain ⟨us, rv, pl, hz⟩ := I.list hp
  have lu : ws.length = us.length := by rw [← List.length_map (f := V.str)]; exact rv.length
  have zs : sizeLine < 2 ^ 63 := by rw [sizeLine_eq]; decide
  rw [List.length_map] at hz
  have lp := its_len ok
  have lps : (ps ++ [Pattern.MatchStar (some x) q']).length = ps.length + 1 := by rw [List.length_append] <;> rfl
  have h : (if its.length ≤ ws.length then (match mt its (ws.take its.length) with | some bs => ∀ r, H r = none → tb D (puts σ (bs ++ [(i, .ref r)])) (upd H r (.lst ((ws.drop its.length).map V.str))) | none => tn ws D σ H) else tn ws D σ H) := h
  by_cases hl : its.length ≤ ws.length
  · rw [if_pos hl] at h
    refine wpAny_matchCases_cons (PySem.W.kun_seqL pl.isList (by simp only [List.size_toArray]; omega) hst hw (by rw [List.getElem?_append_right (Nat.le_refl _), Nat.sub_self] <;> rfl) (by rw [lps]; omega) (by rw [lps]; simp only [List.size_toArray]; omega) ?_)
    rw [lps]
    refine unpackS pl.isList (I.ok.hd hc) (by simp only [List.size_toArray]; omega) (by simp only [List.size_toArray]; omega) fun h' tk kp => ?_
    have tk1 : Vals ((ws.take its.length).map V.str) (us.take ps.length) := by rw [← lp, List.map_take]; exact rv.take _
    have dr1 : Vals ((ws.drop its.length).map V.str) (us.drop ps.length) := by rw [← lp, List.map_drop]; exact rv.drop _
    have I1 : Inv X pins σ H { s with heap := h', toks := tk } := I.kept kp
    show wpAny _ _ (matchEach (ps ++ [Pattern.MatchStar (some x) q']) X.env (us.take ps.length ++ [Value.ref h'.objs.size])) _ _ _
    refine each (X := X) (bt := [(x, Value.ref h'.objs.size)]) (fun R' s' z => PySem.W.kun_each (name := some x) (wpAny_matchEach_nil z)) its ok (by rw [List.length_take]; omega) tk1 fun tk2 r hr => ?_
    cases em : mt its (ws.take its.length) with
    | none =>
      rw [em] at hr h
      cases r with
      | some _ => exact hr.elim
      | none => exact hn.run pins _ σ H D p ws false (I.kept fun b o e => Heap.get?_push_of_some _ (kp b o e)) hp h
    | some bs =>
      rw [em] at hr h
      cases r with
      | none => exact hr.elim
      | some cs' =>
        have hf : H h'.objs.size = none := I1.hok.fresh (Nat.le_refl _)
        have I2 : Inv X pins σ (upd H h'.objs.size (.lst ((ws.drop its.length).map V.str))) { s with heap := h'.push { cls := .type "list", data := .seq (us.drop ps.length).toArray }, toks := tk2 } :=
          I1.laid (t' := tk2) (fun b o e => Heap.get?_push_of_some _ e) (Nat.le_refl _) ⟨by rw [List.length_map, List.length_drop]; omega, _, _, dr1, Heap.get?_push_size _ rfl⟩
        exact binds hN (hr.app (.cons (v := V.ref h'.objs.size) hx rfl .nil)) I2 fun s' I' => hb.run pins s' _ _ D I' (h _ hf)
  · rw [if_neg hl] at h
    refine wpAny_matchCases_cons (PySem.W.kun_fewL pl.isList (by simp only [List.size_toArray]; omega) hst (by rw [lps]; omega) (by rw [lps]; simp only [List.size_toArray]; omega) ?_)
    exact hn.run pins _ σ H D p ws false (I.kept fun _ _ z => z) hp h
/-- match e: .. of a list of texts -/
def sMatch (K : PySem.W.Frag) (te : TE) (tc : List Str → TS) : TS := fun D σ H => te σ H fun x H1 => ∃ p ws, x = .ref p ∧ SqL K H1 p (ws.map V.str) ∧ tc ws D σ H1
theorem ps_match {e : Expr} {cs : List MatchCase} {pos : Pos} {te : TE} {tc : List Str → TS} (he : PE X e te) (hm : PM X cs tc) : PS X (.Match e cs pos) (sMatch X.K te tc) := by
  refine ⟨fun pins s σ H D I h => wpAny_Match (thn (he.run pins s σ H _ I h) fun u s1 ⟨x, H1, I1, r1, p, ws, ex, hp, q⟩ => ?_)⟩
  subst ex
  obtain rfl : u = Value.ref p := r1
  exact hm.run pins s1 σ H1 D p ws true I1 hp q
end
end UX

set_option Elab.async false
set_option linter.all false
set_option maxRecDepth 100000
set_option maxHeartbeats 4000000
/-! C.m(self, ..): a def read off a class; cls(..): the call of a local name that holds a class -/
namespace UX
open PySem PySem.Spec PyProof.Rows L2 UL UV UW ClX
/-- m, read off the class at C, is the def at f -/
structure CFn (K : PySem.W.Frag) (C : Addr) (m : Str) (f : Addr) : Prop where
  at_ : PySem.W.findCls K (.ref C) (.type "type") m = some (.val (.ref f))
  rd : CRead K C (.type "type")
  kp : PySem.W.keepIn K (.ref f) = true
/-- e.m(..), e the class at C, m a def -/
def tBMeth (C : Addr) (sp : Sp) (ta : TE) (t : TA) : TE := fun σ H Q => ta σ H fun x H1 => x = .ref C ∧ t σ H1 fun vs H2 => sp vs H2 Q (fun _ _ _ => False)
/-- cls(..), cls the class at C -/
def tMakeL (i : Nat) (C : Addr) (sp : Sp) (t : TA) : TE := fun σ H Q => σ[i]? = some (some (.ref C)) ∧ t σ H fun vs H1 => ∀ x dx, H1 x = none → H1 dx = none → dx ≠ x → sp (.ref x :: vs) (upd (upd H1 dx (.own x)) x (.ins C dx [])) (fun v H2 => v = .non ∧ Q (.ref x) H2) (fun _ _ _ => False)
section
variable {X : Cx} {k i : Nat} {C f : Addr} {fd : FuncData} {ps : List Str} {sp : Sp} {o e : Expr} {es : List Expr} {m x : Str} {p pos apos : Pos} {ta : TE} {t : TA} {pl : Sem Bool}
theorem pe_bmeth (he : PE X o ta) (c : CFn X.K C m f) (F : FnOk X.prog X.w X.K X.mg X.base (fun _ _ _ _ _ _ => False) k f fd ps sp) (hr : Room k X.A) (hb : Binds X.K fd ps []) (ha : PA X (e :: es) t)
    (hst : starEach (e :: es) X.env = (false, eval e X.env) :: starEach es X.env := by rfl) (hpl : (backTo pos (starEach es X.env)).any (·.1) = false := by rfl)
    (ht : eval (.Call (.Attribute o m apos) (e :: es) [] pos) X.env = (do
      let ov ← eval o X.env
      standAt apos.atName
      let (f, first) ← holding [ov] (getMethod ov m pl)
      callWith pos f first (backTo pos (starEach (e :: es) X.env)) (backToKw pos (keywordEach [] X.env))) := by rfl) :
    PE X (.Call (.Attribute o m apos) (e :: es) [] pos) (tBMeth C sp ta t) := by
  refine ⟨fun pins s σ H Q I h => ?_⟩
  refine PySem.W.methodCall_KW (pl := pl) (thn (he.run pins s σ H _ I h) fun u s1 ⟨x, H1, I1, rx, ex, q⟩ => ?_) ht
  subst ex
  obtain rfl : u = Value.ref C := rx
  refine PySem.W.method_cls I1.kIn c.rd.ga (PySem.W.cls_value I1.kIn c.rd.rd c.at_ (handed_of (v := V.ref f) (u := Value.ref f) rfl) ?_)
  refine PySem.W.callWith_K (first := []) (h₀ := X.base) I.ok.mod.kin c.kp (thn (ha.run pos pins _ σ H1 _ (I1.tok _) q) fun us s2 ⟨vs, H2, I2, r, q2⟩ => ⟨I2.kIn, ?_⟩) hst hpl
  exact run_fn (dvs := []) F hr hb .nil (fun _ _ _ _ _ _ _ z => z.elim) I2 r (by rw [List.append_nil]; exact q2)
theorem pe_makeL (M : Mk X.K C f) (F : FnOk X.prog X.w X.K X.mg X.base (fun _ _ _ _ _ _ => False) k f fd ps sp) (hr : Room (k + 1) X.A) (hN : X.N[i]? = some x) (hv : Vis X.env.scope x) (hb : Binds X.K fd ps []) (ha : PA X (e :: es) t)
    (hdb : (x == ("__debug__" : Str)) = false := by decide) (hcd : (x == ("__classdict__" : Str)) = false := by decide)
    (he : starEach (e :: es) X.env = (false, eval e X.env) :: starEach es X.env := by rfl) (hpl : (backTo pos (starEach es X.env)).any (·.1) = false := by rfl) : PE X (.Call (.Name x p) (e :: es) [] pos) (tMakeL i C sp t) := by
  refine ⟨fun pins s σ H Q I h => ?_⟩
  obtain ⟨hs, ht⟩ := h
  refine wpAny_Call_Name_kw (thn ((pe_var (pos := p) hN hv hdb hcd).run pins s σ H (fun v H1 => v = .ref C ∧ H1 = H) I ⟨.ref C, hs, rfl, rfl⟩) fun u s1 ⟨v, H1, I1, r1, q1⟩ => ?_)
  obtain ⟨rfl, rfl⟩ := q1
  cases r1
  refine PySem.W.callWith_K (h₀ := X.base) I.ok.mod.kin M.kp (thn (ha.run pos pins s1 σ _ _ I1 ht) fun us s2 ⟨vs, H2, I2, r, q⟩ => ⟨I2.kIn, ?_⟩) he hpl
  have q' : ∀ x dx, H2 x = none → H2 dx = none → dx ≠ x → sp (.ref x :: (vs ++ [])) (upd (upd H2 dx (.own x)) x (.ins C dx [])) (fun v H3 => v = .non ∧ Q (.ref x) H3) (fun _ _ _ => False) := fun x dx h1 h2 h3 => by
    rw [List.append_nil]
    exact q x dx h1 h2 h3
  exact run_make (dvs := []) (E := fun _ _ _ => False) M F hr hb .nil (fun _ _ _ _ _ _ _ z => z.elim) I2 r q'
end
end UX

set_option Elab.async false
set_option linter.all false
set_option maxRecDepth 100000
set_option maxHeartbeats 4000000
/-! for n, x in enumerate(list, start=k) -/
namespace UX
open PySem PySem.Spec PyProof.Rows L2 UL UV UW
theorem draws_from {prog : Program} {w : World} {A : Around} {it : Addr} {fp : List Addr} {n : Nat} {P : Nat → Value → Prop} {St : Nat → Heap → Prop} (D : Draws prog w A it fp n P St) (k : Nat) : Draws prog w A it fp (n + k) (fun j v => k ≤ j ∧ P (j - k) v) (fun j h => k ≤ j ∧ St (j - k) h) where
  live := fun _ _ st => D.live _ _ st.2
  frame := fun _ _ _ st hk => ⟨st.1, D.frame _ _ _ st.2 hk⟩
  item := fun j s Q E hj st hQ => D.item (j - k) s Q E (by have := st.1; omega) st.2 fun x h' tk p s1 sb => hQ x h' tk ⟨st.1, p⟩ ⟨by have := st.1; omega, by have := st.1; rw [show j + 1 - k = j - k + 1 by omega]; exact s1⟩ sb
  done := fun s Q E st hE => D.done s Q E (by have := st.2; rw [Nat.add_sub_cancel] at this; exact this) hE
/-- the list at a as it stands at each turn, each item in a new pair, counted from k -/
def IteS (K : PySem.W.Frag) (k : Nat) (a : Addr) : L2.It :=
  ⟨fun i H => ∃ (xs : List V) (x : V), SqL K H a xs ∧ xs[i]? = some x, fun i H v H' => ∃ T x, v = .ref T ∧ H T = none ∧ H' = upd H T (.tup [.int (i + k : Nat), x]) ∧ ∀ xs, SqL K H a xs → xs[i]? = some x, fun i H => ∃ xs : List V, SqL K H a xs ∧ xs.length ≤ i⟩
theorem turn_enumS {P : Program} {w : World} {K : PySem.W.Frag} {elts : List Expr} {kk : Nat} {tpos : Pos} (k : Nat) (a e it : Addr) :
    Turn P w K (.Tuple elts kk tpos) (IteS K k a) [e, it] e (fun i h => (∃ old, IsEnum h e it ((i + k : Nat) : Int) old) ∧ h.IsListIter it a i ∧ e ≠ it ∧ a ≠ it ∧ a ≠ e) where
  mem := by simp
  obj := fun i h st b hb => by
    obtain ⟨⟨old, he⟩, ⟨o, ho, hc, hd⟩, _⟩ := st
    have e' : b = e ∨ b = it := by simpa using hb
    rcases e' with z | z
    · rw [z]; exact ⟨_, he, fun v q => nomatch q⟩
    · rw [z]; exact ⟨o, ho, fun v q => by rw [hd] at q; cases q⟩
  keep := fun i h h' st kp => let ⟨⟨old, he⟩, hi, hne⟩ := st; ⟨⟨old, kp e (by simp) _ he⟩, hi.at fun o q => kp it (by simp) o q, hne⟩
  item := by
    intro X hP hw hK hc i pins s σ H E I hf st hg
    subst hP hw hK
    obtain ⟨⟨old, he⟩, hit, hne, hai, hae⟩ := st
    obtain ⟨xs, x, hq, hx⟩ := hg
    obtain ⟨its, rv, p, hz⟩ := I.list hq
    obtain ⟨u, hu, ru⟩ := rv.get hx
    have hel : e < s.heap.objs.size := Heap.lt_size he
    have hil : it < s.heap.objs.size := by obtain ⟨_, q, _⟩ := hit; exact Heap.lt_size q
    have hix : i < its.toArray.size := by have := (List.getElem?_eq_some_iff.mp hu).1; simpa using this
    have D := draws_from (Draws.list (prog := X.prog) (w := X.w) (A := X.A.in1) (I.ok.hd hc) it a hai its.toArray) k
    refine wpAny_pyNext_enum_itemD (i := i + k) D he ⟨by omega, by rw [Nat.add_sub_cancel]; exact ⟨hit, p.isList⟩⟩ (by omega) hne (by simp only [List.mem_cons, List.not_mem_nil, or_false]; exact fun z => z.elim hne fun z => hae z.symm) fun x' h' tk px ho hst hT hsz hk => ?_
    have hxu : x' = u := by
      have z := px.2
      rw [Nat.add_sub_cancel] at z
      have z2 : its[i]? = some x' := by simpa using z
      exact Option.some.inj (z2.symm.trans hu)
    subst hxu
    have hit' : h'.IsListIter it a (i + 1) := by
      have z := hst.2.1
      rw [show i + k + 1 - k = i + 1 by omega] at z
      exact z
    refine ⟨_, rfl, wpAny_letOwnedTupleGo_enum (s := { s with heap := h', toks := tk + 1 }) ho fun h'' he' sb => ?_⟩
    have hT2 : h''.get? s.heap.objs.size = some { cls := .type "tuple", data := .seq #[.int (i + k : Nat) tk, x'] } := (sb.2 _ (Nat.ne_of_gt hel)).trans hT
    have new : ObjOk X.prog X.w (upd H s.heap.objs.size (.tup [.int (i + k : Nat), x])) h'' s.heap.objs.size (.tup [.int (i + k : Nat), x]) :=
      ⟨by show 2 ≤ sizeLine; decide, [.int (i + k : Nat) tk, x'], .cons ⟨_, rfl⟩ (.cons ru .nil), ⟨_, hT2, rfl, _, rfl⟩⟩
    have I1 : Inv X pins σ (upd H s.heap.objs.size (.tup [.int (i + k : Nat), x])) { s with heap := h'', toks := tk + 1 } :=
      I.turnedNew (ch := [e, it]) (fun b ob hb q => (sb.2 b (fun z => hb (by simp [z]))).trans (hk b ob (fun z => hb (by simp [z])) (fun z => hb (by simp [z])) q)) hf (Nat.le_refl _) new
    refine ⟨.ref s.heap.objs.size, _, I1, rfl, ⟨_, x, rfl, I.hok.fresh (Nat.le_refl _), rfl, fun ys hy => by rw [I.list_inj hy hq]; exact hx⟩, ⟨⟨x', ?_⟩, hit'.at fun o q => (sb.2 it (Ne.symm hne)).trans q, hne, hai, hae⟩, fun b hb => ?_⟩
    · have e1 : ((i + 1 + k : Nat) : Int) = ((i + k : Nat) : Int) + 1 := by omega
      rw [e1]; exact he'
    · have hb' : b < s.heap.objs.size := by
        have e' : b = e ∨ b = it := by simpa using hb
        rcases e' with z | z
        · rw [z]; exact hel
        · rw [z]; exact hil
      rw [upd_ne (Nat.ne_of_lt hb')]
      exact (hf b hb).1
  done := by
    intro X hP hw hK hc i pins s σ H E I hf st hg
    subst hP hw hK
    obtain ⟨⟨old, he⟩, hit, hne, hai, hae⟩ := st
    obtain ⟨xs, hq, hx⟩ := hg
    obtain ⟨its, rv, p, hz⟩ := I.list hq
    obtain ⟨f0, f1, f2, f3, f4, f5⟩ := hf it (by simp)
    have hl := rv.length
    have D : Draws X.prog X.w X.A.in1 it [it, a] (i + k) (fun _ _ => False) (fun j h => j = i + k ∧ h.IsListIter it a i ∧ h.IsList a its.toArray) := {
      live := fun _ _ st => let ⟨o, ho, _⟩ := st.2.1; ⟨o, ho⟩
      frame := fun _ _ _ st kp => ⟨st.1, st.2.1.at fun o q => kp it (by simp) o q, st.2.2.at fun o q => kp a (by simp) o q⟩
      item := fun j s Q E hj st hQ => absurd st.1 (Nat.ne_of_lt hj)
      done := fun s Q E st hE => wpAny_nextOf_list_end (I.ok.hd hc) st.2.1 st.2.2 (by simp; omega) hE }
    exact wpAny_pyNext_enum_endD D he ⟨rfl, hit, p.isList⟩ fun h' eb => ⟨rfl, I.turned (t' := s.toks) (fun b o hb q => eb b o hb q) f0 f1 f3 f4 f5⟩
  self := fun A i s Q E st h => let ⟨⟨_, he⟩, _⟩ := st; wpAny_pyIter_enum he h
theorem cw_typeK {M : Model} {A : Around} {E : Value → Shared → Prop} {s : Shared} {pos : Pos} {T : String} {args : List (Bool × Sem Value)} {kws : List (Option Str × Sem Value)} {Q : Value → Shared → Prop} (hp : (args.any (·.1) || kws.any (·.1.isNone)) = false)
    (h : wpAny M A (evalArgs (.type T) true args kws) (fun a s₁ => wpAny M A (call (.type T) ([] ++ a.pos) a.kw) Q E s₁) E s) : wpAny M A (callWith pos (.type T) [] args kws) Q E s := by
  unfold callWith
  refine wpAny_bind (wpAny_holding (wpAny_mono h (fun a s₁ h₁ => wpAny_bind (wpAny_standAt ?_)) fun _ _ z => z))
  simp only [hp]
  exact wpAny_bind (wpAny_pure (wpAny_bind (wpAny_mono h₁ (fun r s₂ hr => wpAny_bind (wpAny_holding (wpAny_point (wpAny_pure hr)))) fun _ _ z => z)))
def iEnumS (K : PySem.W.Frag) (k : Nat) (ta : TA) : TI := fun σ H R => ta σ H fun vs H1 => ∃ a xs, vs = [.ref a] ∧ SqL K H1 a xs ∧ R (IteS K k a) H1
theorem pi_enumS {X : Cx} {e : Expr} {ta : TA} {p pos tpos cpos kpos : Pos} {elts : List Expr} {kk ck k : Nat} (hk : (k : Int) < 2 ^ 63) (hg : Gl X "enumerate") (hm : X.mg "enumerate" = none) (ha : PA X [e] ta)
    (hs : starEach [e] X.env = [(false, eval e X.env)] := by rfl) : PI X (.Tuple elts kk tpos) (.Call (.Name "enumerate" p) [e] [⟨some "start", .Constant (.int k) ck cpos, kpos⟩] pos) (iEnumS X.K k ta) := by
  refine ⟨fun pins s σ H R I h => ?_⟩
  refine wpAny_Call_Name_kw (ld_blt I hg hm boot_enumerate ?_)
  refine cw_typeK (by rw [hs]; rfl) (evalArgs_kw2 rfl (thn (ha.run pos pins s σ H _ I h) fun us s1 ⟨vs, H1, I1, r1, q1⟩ => ?_) hs)
  refine thn ((pk_cons (nm := some "start") (kpos := kpos) (pe_int (X := X) (i := (k : Int)) (j := ck) (pos := cpos)) pk_nil).run pos pins s1 σ H1 (fun zs H2 => zs = [.int k] ∧ H2 = H1) I1 (show _ ∧ _ from ⟨rfl, rfl⟩)) fun ws s2 ⟨zs, H2, I2, rz, e1, e2⟩ => ?_
  subst e1 e2
  obtain ⟨a, xs, ev, hq, q⟩ := q1
  subst ev
  obtain rfl := Vals.ref1 r1
  cases rz with
  | cons rk rn =>
    cases rn
    obtain ⟨tk, rfl⟩ := rk
    obtain ⟨its, rv, pl, hz⟩ := I2.list hq
    refine enum_begins_start (begins_list a its.toArray) pl.isList (by omega) hk fun h' he hit hsz hkp => wpAny_pyIter_enum he ?_
    have hlt : a < s2.heap.objs.size := by obtain ⟨o, z, _⟩ := pl.isList; exact Heap.lt_size z
    have I3 : Inv X pins σ H2 { s2 with heap := h' } := I2.kept (t' := s2.toks) hkp
    refine ⟨s2.heap.objs.size + 1, [s2.heap.objs.size + 1, s2.heap.objs.size], _, _, H2, rfl, I3, turn_enumS k a (s2.heap.objs.size + 1) s2.heap.objs.size, ⟨⟨.none, by rw [Nat.zero_add]; exact he⟩, ⟨_, hit, rfl, rfl⟩, Nat.succ_ne_self _, Nat.ne_of_lt hlt, Nat.ne_of_lt (Nat.lt_succ_of_lt hlt)⟩, fun b hb => ?_, q⟩
    have hle : s2.heap.objs.size ≤ b := by
      have e' : b = s2.heap.objs.size + 1 ∨ b = s2.heap.objs.size := by simpa using hb
      rcases e' with z | z
      · rw [z]; exact Nat.le_add_right _ _
      · rw [z]; exact Nat.le_refl _
    exact I2.fpOk hle (I2.hok.fresh hle)
theorem walk_enumS {K : PySem.W.Frag} {k : Nat} {a : Addr} {xs : List V} : L2.Walk (IteS K k a) xs.length (fun H => SqL K H a xs) (L2.YPair (fun i => some (.int (i + k : Nat))) (fun i => xs[i]?)) := by
  refine ⟨fun i _ hi q => ⟨xs, xs[i], q, by simp [hi]⟩, fun _ q => ⟨xs, q, Nat.le_refl _⟩, fun i H v H' _ q y => ?_⟩
  obtain ⟨T, x, h1, h2, h3, h4⟩ := y
  exact ⟨T, .int (i + k : Nat), x, h1, h2, h3, rfl, h4 xs q⟩
end UX

set_option Elab.async false
set_option linter.all false
set_option maxRecDepth 100000
set_option maxHeartbeats 4000000
/-! a base's def called by its class's name; a method of one of several classes; a classmethod by its promise -/
namespace UX
open PySem PySem.Spec PyProof.Rows L2 UL UV UW ClX
/-- C.m(self, ..) -/
structure Bn (P : Program) (w : World) (K : PySem.W.Frag) (mg : Str → Option Value) (base : Heap) (k : Nat) (C : Addr) (x m : Str) (sp : Sp) : Prop where
  ex : ∃ (f : Addr) (fd : FuncData) (ps : List Str), FnOk P w K mg base CX0 k f fd ps sp ∧ CFn K C m f ∧ Binds K fd ps [] ∧ mg x = some (.ref C)
/-- C.m(..), m a classmethod -/
structure CMn (P : Program) (w : World) (K : PySem.W.Frag) (mg : Str → Option Value) (base : Heap) (k : Nat) (C : Addr) (x m : Str) (sp : Sp) : Prop where
  ex : ∃ (q g : Addr) (mc : Value), CRead K C mc ∧ CMet K C mc m q g ∧ FnR P w K mg base CX0 k g sp ∧ mg x = some (.ref C)
def tBC (sp : Sp) (t : TA) : TE := fun σ H Q => t σ H fun vs H2 => sp vs H2 Q (fun _ _ _ => False)
/-- the i-th slot holds an object of one of the classes -/
def tMethA (i : Nat) (m : Str) (S : Addr → Sp → Prop) : TE := fun σ H Q => ∃ C sp, S C sp ∧ tMeth C m sp [] (fun _ _ _ => False) (tVar i) tNil σ H Q
section
variable {X : Cx} {k j i : Nat} {C : Addr} {sp : Sp} {e : Expr} {es : List Expr} {m x : Str} {p pos apos : Pos} {t : TA} {pl : Sem Bool}
theorem pe_b (d : Bn X.prog X.w X.K X.mg X.base k C x m sp) (hr : Room j X.A) (hk : k ≤ j) (hg : Gl X x) (ha : PA X (e :: es) t) (hdb : (x == ("__debug__" : Str)) = false := by decide)
    (hst : starEach (e :: es) X.env = (false, eval e X.env) :: starEach es X.env := by rfl) (hpl : (backTo pos (starEach es X.env)).any (·.1) = false := by rfl)
    (ht : eval (.Call (.Attribute (.Name x p) m apos) (e :: es) [] pos) X.env = (do
      let ov ← eval (.Name x p) X.env
      standAt apos.atName
      let (f, first) ← holding [ov] (getMethod ov m pl)
      callWith pos f first (backTo pos (starEach (e :: es) X.env)) (backToKw pos (keywordEach [] X.env))) := by rfl) : PE X (.Call (.Attribute (.Name x p) m apos) (e :: es) [] pos) (tBC sp t) := by
  obtain ⟨f, fd, ps, F, c, hb, hm⟩ := d.ex
  have g : PE X (.Name x p) (tC (.ref C)) := C8.pe_gc (v := .ref C) hg ⟨_, hm, rfl⟩ hdb
  refine ⟨fun pins s σ H Q I h => ?_⟩
  exact (pe_bmeth (pl := pl) g c F (hr.mono hk) hb ha hst hpl ht).run pins s σ H Q I ⟨rfl, h⟩
theorem pe_cm (d : CMn X.prog X.w X.K X.mg X.base k C x m sp) (hr : Room j X.A) (hk : k ≤ j) (hg : Gl X x) (ha : PA X (e :: es) t) (hdb : (x == ("__debug__" : Str)) = false := by decide)
    (hst : starEach (e :: es) X.env = (false, eval e X.env) :: starEach es X.env := by rfl) (hpl : (backTo pos (starEach es X.env)).any (·.1) = false := by rfl)
    (ht : eval (.Call (.Attribute (.Name x p) m apos) (e :: es) [] pos) X.env = (do
      let ov ← eval (.Name x p) X.env
      standAt apos.atName
      let (f, first) ← holding [ov] (getMethod ov m pl)
      callWith pos f first (backTo pos (starEach (e :: es) X.env)) (backToKw pos (keywordEach [] X.env))) := by rfl) : PE X (.Call (.Attribute (.Name x p) m apos) (e :: es) [] pos) (tBC (fun vs H Q E => sp (.ref C :: vs) H Q E) t) := by
  obtain ⟨q, g, mc, r, c, F, hm⟩ := d.ex
  have gl : PE X (.Name x p) (tC (.ref C)) := C8.pe_gc (v := .ref C) hg ⟨_, hm, rfl⟩ hdb
  refine ⟨fun pins s σ H Q I h => ?_⟩
  exact (pe_cmeth (pl := pl) (E := fun _ _ _ => False) gl r c F (hr.mono hk) (fun _ _ _ _ _ _ _ z => z.elim) ha hst hpl ht).run pins s σ H Q I ⟨rfl, h⟩
theorem pe_mA {S : Addr → Sp → Prop} (A : ∀ C sp, S C sp → Mn X.prog X.w X.K X.mg X.base CX0 k C m sp ∧ Cls X.K C) (hr : Room j X.A) (hk : k ≤ j) (he : PE X (.Name x p) (tVar i))
    (ht : eval (.Call (.Attribute (.Name x p) m apos) [] [] pos) X.env = (do
      let ov ← eval (.Name x p) X.env
      standAt apos.atName
      let (f, first) ← holding [ov] (getMethod ov m pl)
      callWith pos f first (backTo pos (starEach [] X.env)) (backToKw pos (keywordEach [] X.env))) := by rfl) : PE X (.Call (.Attribute (.Name x p) m apos) [] [] pos) (tMethA i m S) := by
  refine ⟨fun pins s σ H Q I h => ?_⟩
  obtain ⟨C, sp, hS, h⟩ := h
  obtain ⟨d, c⟩ := A C sp hS
  exact (pe_m' (pl := pl) (E := fun _ _ _ => False) d c hr hk (fun _ _ _ _ _ _ _ z => z.elim) he ht).run pins s σ H Q I h
theorem pe_makeLK {x0 : Str} (d : Kn X.prog X.w X.K X.mg X.base CX0 k C x0 sp) (hr : Room j X.A) (hk : k + 1 ≤ j) (hN : X.N[i]? = some x) (hv : Vis X.env.scope x) (ha : PA X (e :: es) t) (hdb : (x == ("__debug__" : Str)) = false := by decide) (hcd : (x == ("__classdict__" : Str)) = false := by decide)
    (he : starEach (e :: es) X.env = (false, eval e X.env) :: starEach es X.env := by rfl) (hpl : (backTo pos (starEach es X.env)).any (·.1) = false := by rfl) : PE X (.Call (.Name x p) (e :: es) [] pos) (tMakeL i C sp t) := by
  obtain ⟨f, fd, ps, F, M, hb, hm⟩ := d.ex
  exact pe_makeL M F (hr.mono hk) hN hv hb ha hdb hcd he hpl
theorem pm_starL {its : List Itm} {i : Nat} {x : Str} {q' q : Pos} {qs : List Pattern} {body : List Stmt} {cs : List MatchCase} {tb : TS} {tn : List Str → TS} (hN : X.N.Nodup) (hc : X.calm = true) (hq : qs = qs.dropLast ++ [Pattern.MatchStar (some x) q']) (ok : ItsOk X its qs.dropLast) (hx : NmOk X i x)
    (hb : PSs X body tb) (hn : PM X cs tn) (h0 : qs.dropLast.length ≠ 0) (hst : (qs.dropLast ++ [Pattern.MatchStar (some x) q']).findIdx? (·.isStar) = some qs.dropLast.length)
    (hw : ((qs.dropLast ++ [Pattern.MatchStar (some x) q']).all fun p => p.isWildcard || (p.isStar && p.names.isEmpty)) = false) : PM X (⟨.MatchSequence qs q, none, body⟩ :: cs) (sStar its i tb tn) := by
  rw [hq]
  exact pm_star hN hc ok hx hb hn h0 hst hw
end
section
variable {X : Cx}
/-- a tuple as tuple(..) lays it: no dict, no slots -/
def FT (H : Hp) (a : Addr) (xs : List V) : Prop := ∃ o, H a = some (.frz o (.tup xs)) ∧ o.dict = none ∧ o.slots = #[]
def cTupG (K : PySem.W.Frag) : List V → Hp → VK → Prop := fun xs H Q => ∃ p ys, xs = [.ref p] ∧ ((SqL K H p ys ∧ ∀ l o, H l = none → o.dict = none → o.slots = #[] → Q (.ref l) (upd H l (.frz o (.tup ys)))) ∨ (SqT K H p ys ∧ Q (.ref p) H))
theorem call_tupG : CallR X (.type "tuple") (cTupG X.K) := by
  intro pins s σ H xs us Q I r h
  obtain ⟨p, ys, rfl, h⟩ := h
  rcases h with ⟨hq, q⟩ | ⟨hq, q⟩
  · obtain rfl := Vals.ref1 r
    obtain ⟨its, r', pl, hz⟩ := I.list hq
    have hlen := r'.length
    refine call_tuple_list pl.isList (fun h' kp => ?_) (by simp only [List.size_toArray]; omega)
    have I1 : Inv X pins σ H { s with heap := h' } := I.kept (t' := s.toks) kp
    exact ⟨.ref h'.objs.size, _, I1.laid (t' := s.toks) (fun b o e => Heap.get?_push_of_some _ e) (Nat.le_refl _) (show ObjOk X.prog X.w _ _ _ (.frz { cls := .type "tuple", data := .seq its.toArray } (.tup ys)) from ⟨Heap.get?_push_size _ rfl, hz, its, r', IsTup.new _ _⟩), rfl, q _ _ (I1.hok.fresh (Nat.le_refl _)) rfl rfl⟩
  · exact call_tupA pins s σ H _ us Q I r ⟨p, ys, rfl, .inr ⟨hq, q⟩⟩
def rExtendT : V → List V → Hp → VK → Prop := fun x vs H Q => ∃ l b xs zs, x = .ref l ∧ vs = [.ref b] ∧ H l = some (.lst xs) ∧ FT H b zs ∧ xs.length + zs.length ≤ sizeLine ∧ Q .non (upd H l (.lst (xs ++ zs)))
theorem mt_extendT : MtM X "list.extend" rExtendT := by
  intro pins s σ H x vs v us Q I rx rv h
  obtain ⟨l, b, xs, zs, rfl, rfl, hH, ⟨o, hB, hd, hs⟩, hz, q⟩ := h
  cases rx
  obtain ⟨u, rfl, ru⟩ := rv.one
  cases ru
  obtain ⟨z, its, n, r, hl, e⟩ := I.lstM hH
  obtain ⟨e1, hl2, its2, r2, ht⟩ := I.hok b _ hB
  obtain ⟨o2, e2, hc2, n2, hd2⟩ := ht
  cases e1.symm.trans e2
  have r2l := r2.length
  obtain ⟨oc, od, dt, sl⟩ := o
  simp only at hd hs hc2 hd2
  subst hd hs hc2 hd2
  have hsz : its.toArray.size + its2.toArray.size ≤ sizeLine := by rw [List.size_toArray, List.size_toArray]; omega
  have hlong : ¬ (!its.toArray.isEmpty && Builtin.List.listTooLong (its.toArray.size + its2.toArray.size)) = true := by
    rw [notLongL hsz, Bool.and_false]
    exact Bool.false_ne_true
  refine call_meets F.slot_list_extend ⟨_, e, rfl⟩ F.entry_list_extend (F.args_list_extend_2 _ _) (AutoSeq1.list_extend_list_tuple_0 l its.toArray n b its2.toArray n2 hlong (by rw [List.size_toArray]; omega) (by omega)) ⟨e, e1, ?_⟩
  refine ⟨.non, _, I.lset (its' := its ++ its2) hH e (by simp) (r.append r2) (by rw [List.length_append]; omega), rfl, q⟩
end
end UX

set_option Elab.async false
set_option linter.all false
set_option maxRecDepth 100000
set_option maxHeartbeats 4000000
/-! k01: what the top leaves, by names -/
namespace U
open PySem L2 UL
def top (i : Nat) : Stmt := PySem.Challenge.pw_untoldrule_k28_formulas_have_numbers.main.body.getD i (.Pass ⟨0, 0, 0, 0⟩)
local macro_rules | `(tactic| walk_at "rd") => `(tactic| simp only [tSeq, tAsg, tOp, tCB, tCons, tNil, tVar, tC, rI, rI0, gName, tRet, L2.start, List.length_cons, List.length_nil, List.map_cons, List.map_nil, List.replicate, List.cons_append, List.nil_append, List.getElem?_cons_zero, List.getElem?_cons_succ, List.set_cons_zero, List.set_cons_succ, Option.some.injEq, exists_eq_left', exists_eq_left, V.int.injEq, V.bl.injEq, V.str.injEq, V.ref.injEq, V.ty.injEq, List.cons.injEq, and_true, true_and, reduceCtorEq, false_and, exists_false, or_false, false_or, exists_and_left, exists_and_right])
/-- names that the module does not take -/
structure Nm (mg : Str → Option Value) : Prop where
  n_int : mg "int" = none
  n_bool : mg "bool" = none
  n_str : mg "str" = none
  n_list : mg "list" = none
  n_tuple : mg "tuple" = none
  n_set : mg "set" = none
  n_len : mg "len" = none
  n_abs : mg "abs" = none
  n_all : mg "all" = none
  n_iter : mg "iter" = none
  n_range : mg "range" = none
  n_zip : mg "zip" = none
  n_isinstance : mg "isinstance" = none
/-- list or tuple -/
def ItA : Kd → PySem.W.Frag → Addr → It
  | .l, K, a => Itl K a
  | .t, K, a => Itt K a
def iAny (K : PySem.W.Frag) (te : TE) : TI := fun σ H R => iList K te σ H R ∨ iTup K te σ H R
theorem pi_any {X : Cx} {tg l : Expr} {tl : TE} (hl : PE X l tl) : PI X tg l (iAny X.K tl) :=
  ⟨fun pins s σ H R I h => h.elim (fun z => (pi_list hl).run pins s σ H R I z) fun z => (pi_tup hl).run pins s σ H R I z⟩
def SqA (K : PySem.W.Frag) (H : Hp) (a : Addr) (xs : List V) : Prop := ∃ k : Kd, k.Sq K H a xs
theorem iAny_var {K : PySem.W.Frag} {i : Nat} {σ : L2.St} {H : Hp} {R : It → Hp → Prop} : iAny K (tVar i) σ H R ↔ ∃ v a k, σ[i]? = some (some v) ∧ v = .ref a ∧ (∃ xs, Kd.Sq k K H a xs) ∧ R (ItA k K a) H := by
  constructor
  · rintro (⟨v, h, a, e, x, r⟩ | ⟨v, h, a, e, x, r⟩)
    · exact ⟨v, a, .l, h, e, x, r⟩
    · exact ⟨v, a, .t, h, e, x, r⟩
  · rintro ⟨v, a, k, h, e, x, r⟩
    cases k
    · exact .inl ⟨v, h, a, e, x, r⟩
    · exact .inr ⟨v, h, a, e, x, r⟩
theorem walk_any {K : PySem.W.Frag} {a : Addr} {xs : List V} : ∀ k : Kd, L2.Walk (ItA k K a) xs.length (fun H => k.Sq K H a xs) (L2.YAt xs)
  | .l => L2.walk_list
  | .t => L2.walk_tup
theorem Kd.same {k : Kd} {K : PySem.W.Frag} {a : Addr} {H H' : Hp} {xs : List V} (s : Same H H') (h : k.Sq K H a xs) : k.Sq K H' a xs := match k, h with
  | .l, h => UL.Same.sqL s h
  | .t, h => UL.Same.sqT s h
theorem Kd.len {k : Kd} {K : PySem.W.Frag} {a : Addr} {H : Hp} {Q : VK} {xs : List V} (h : k.Sq K H a xs) (q : Q (.int xs.length) H) : cLen K [.ref a] H Q := match k, h with
  | .l, h => lenL h q
  | .t, h => lenT h q
theorem Kd.or {k : Kd} {K : PySem.W.Frag} {a : Addr} {H : Hp} {xs : List V} (h : k.Sq K H a xs) : SqL K H a xs ∨ SqT K H a xs := match k, h with
  | .l, h => .inl h
  | .t, h => .inr h
theorem fj_any {K : PySem.W.Frag} {a : Addr} {xs : List V} {g : TG} {tb : TS} {D : Ends} {σ : L2.St} {H : Hp} (k : Kd) (Pv : Nat → L2.St → Hp → Prop) (h0 : Pv 0 σ H) (hl : ∀ i σ H, i ≤ xs.length → Pv i σ H → k.Sq K H a xs)
    (hs : ∀ i x σ H, xs[i]? = some x → Pv i σ H → g x σ H fun σ2 H2 => tb { D with nx := Pv (i + 1), ct := Pv (i + 1), bk := D.nx } σ2 H2) (hd : ∀ σ H, Pv xs.length σ H → D.nx σ H) : FJ (ItA k K a) g tb D σ H := match k, hl with
  | .l, hl => FJ.list Pv h0 hl hs hd
  | .t, hl => FJ.tup Pv h0 hl hs hd
/-- what isinstance asks of an own class -/
structure CI (K : PySem.W.Frag) (C : Addr) : Prop where
  ha : PySem.W.findIn K (.ref C) "__class__" = some (some (.builtin "object.__class__"))
  hn : PySem.W.specialIn K (.builtin "object.__class__") "__get__" = some (some (.builtin "getset_descriptor.__get__"))
  ht : PySem.W.takesIn K (.builtin "object.__class__") = some true
  hm : PySem.W.mroIn K C (.type "object") = some true
theorem CI.ty {K : PySem.W.Frag} {C a dx : Addr} {fs : List (Str × V)} {H : Hp} (i : CI K C) (c : Cls K C) (e : H a = some (.ins C dx fs)) : TyX K H (.ref a) (.ref C) := .base (.ins e c i.ha i.hn i.ht i.hm)
end U

set_option Elab.async false
set_option linter.all false
set_option maxRecDepth 100000
set_option maxHeartbeats 4000000
set_option pp.deepTerms true
set_option pp.maxSteps 400000
namespace U
open PySem PySem.Spec PyProof.Rows L2 UL UX
local macro_rules | `(tactic| walk_at "rd") => `(tactic| simp only [sMatch, tJs, tFmt, tBC, tMethA, tMakeL, iEnumS, tSeq, tAsg, tOp, tCB, tCons, tNil, tVar, tC, tB, tTest, tNot, tIfS, tNext, tYes, tUn, rU, tM0, tGFrom, tGThen, tG0, tYfLst, gcxK, tSubO, tProp, tListG, tMethG, tBMF, tFld, sFld, tMeth, tMake, tSl, tNoPart, tPart, tM1, gTup, gCons, gNil, tDrop, tFor_eq, tLc_eq, tLc2_eq, iRng1_eq, StX.tStar, iList, iTup, iStr, iAny_var, iZipB, tLenSetS, wipe, tVar, tAndV, tOrV, tNotV, tOr, tAnd, tLst, tTup, tBM, tBM0, tChain, tCall, cxK, noxK, addII, addSS, mulII, eqII, neII, neSS, cIntI, cAbsI, rI, rI0, rLt, rLe, rGt_, rGe_, rSub_, rMod, rPow, rDivW, rNeg, gName, tRet, L2.start, List.length_cons, List.length_nil, List.map_cons, List.map_nil, List.replicate, List.cons_append, List.nil_append, List.getElem?_cons_zero, List.getElem?_cons_succ, List.set_cons_zero, List.set_cons_succ, Option.some.injEq, exists_eq_left', exists_eq_left, V.int.injEq, V.bl.injEq, V.str.injEq, V.ref.injEq, V.ty.injEq, List.cons.injEq, and_true, true_and, reduceCtorEq, false_and, exists_false, or_false, false_or, exists_and_left, exists_and_right, List.append_nil, forall_eq, decide_eq_true_eq, Bool.not_eq_true, Nat.reduceAdd, Nat.reduceSub, List.replicate_zero, List.replicate_succ, Nat.zero_le, ite_true, ite_false, if_true, if_false])
section
variable {P : Program} {w : World} {K : PySem.W.Frag} {mg : Str → Option Value} {base : Heap}

abbrev abc : Str := "abcdefghijklmnopqrstuvwxyz"
def nmB (z : Str) : Bool := decide (1 ≤ z.length) && decide (z.length ≤ 8) && z.cps.toList.all fun c => decide (c ∈ abc.cps.toList)
theorem len_app (x y : Str) : (x ++ y).length = x.length + y.length := by show (x.cps ++ y.cps).size = _; simp; rfl
theorem nil_app (x : Str) : Str.empty ++ x = x := by
  show (⟨#[] ++ x.cps⟩ : Str) = x
  simp
def wrT (t f : Str) (xs : List Str) : List Str := (("write" : Str) :: t :: ("by" : Str) :: f :: (if xs = [] then [] else ("of" : Str) :: xs))
theorem sum_le {m : Nat} : ∀ {l : List Str}, (∀ x ∈ l, x.length ≤ m) → (l.map (·.length)).sum ≤ l.length * m
  | [], _ => by simp
  | x :: r, h => by
    have h1 := h x List.mem_cons_self
    have h2 := sum_le (l := r) fun y hy => h y (List.mem_cons_of_mem _ hy)
    rw [List.map_cons, List.sum_cons, List.length_cons, Nat.add_mul]
    omega
theorem FT.sq {H : Hp} {a : Addr} {xs : List V} (h : FT H a xs) : SqT K H a xs := let ⟨o, e, _⟩ := h; .inl (.inr ⟨o, e⟩)
theorem FT.same {H H' : Hp} {a : Addr} {xs : List V} (s : Same H H') (h : FT H a xs) : FT H' a xs := let ⟨o, e, d⟩ := h; ⟨o, s _ _ e, d⟩
theorem FT.but {H H' : Hp} {a p : Addr} {xs : List V} (s : But p H H') (n : a ≠ p) (h : FT H a xs) : FT H' a xs := let ⟨o, e, d⟩ := h; ⟨o, s _ _ e n, d⟩
theorem FT.ne {H : Hp} {a p : Addr} {xs : List V} (h : FT H a xs) (hp : H p = none) : a ≠ p := let ⟨_, e, _⟩ := h; ne_of_none e hp
theorem l_write : ("write" : Str).length = 5 := by decide +kernel
theorem l_by : ("by" : Str).length = 2 := by decide +kernel
theorem l_of : ("of" : Str).length = 2 := by decide +kernel
theorem l_sp : (" " : Str).length = 1 := by decide +kernel
theorem wr_len {t f : Str} {xs : List Str} (ht : t.length ≤ 1000) (hf : f.length ≤ 1000) (hx : ∀ x ∈ xs, x.length ≤ 1000) : ∀ x ∈ wrT t f xs, x.length ≤ 1000 := by
  intro x h
  unfold wrT at h
  rcases List.mem_cons.mp h with rfl | h
  · rw [l_write]; omega
  rcases List.mem_cons.mp h with rfl | h
  · exact ht
  rcases List.mem_cons.mp h with rfl | h
  · rw [l_by]; omega
  rcases List.mem_cons.mp h with rfl | h
  · exact hf
  by_cases e : xs = []
  · rw [if_pos e] at h; cases h
  · rw [if_neg e] at h
    rcases List.mem_cons.mp h with rfl | h
    · rw [l_of]; omega
    · exact hx x h
theorem wr_many {t f : Str} {xs : List Str} : (wrT t f xs).length ≤ xs.length + 5 := by
  unfold wrT
  by_cases e : xs = []
  · rw [if_pos e]; simp
  · rw [if_neg e]; simp
end
end U

set_option Elab.async false
set_option linter.all false
set_option maxRecDepth 100000
set_option maxHeartbeats 4000000
namespace U
open PySem PySem.Spec PyProof.Rows L2 UL UV UW NdefX
section
variable {P : Program} {w : World} {K : PySem.W.Frag} {mg : Str → Option Value} {base : Heap}
theorem ncK {CX : CXT} {N : List Str} {F : NF} {f : Addr} {A : Around} {outer : List Env} {s : Shared} {H : Hp} {E : XK} : (ncx CX P w K mg base N F f A outer s H E).K = K := rfl
end
local macro_rules | `(tactic| walk_at "rdx") => `(tactic| simp only [tCons, tNil, tJs, tC, tFmt, tFmtN, tVar, tOst, tSeq, startF, L2.start, List.length_cons, List.length_nil, List.map_cons, List.map_nil, List.replicate, List.cons_append, List.nil_append, List.getElem?_cons_zero, List.getElem?_cons_succ, Option.some.injEq, exists_eq_left', exists_eq_left, V.str.injEq, V.int.injEq, V.ref.injEq, reduceCtorEq, false_and, exists_false, or_false, false_or, and_true, true_and, exists_and_left, exists_and_right, Nat.reduceAdd, Nat.reduceSub, Nat.reduceLeDiff, ncK])
section
variable {P : Program} {w : World} {K : PySem.W.Frag} {mg : Str → Option Value} {base : Heap}
/-- an exception class as it stands, with its __init__ -/
structure XD (P : Program) (K : PySem.W.Frag) (mg : Str → Option Value) (C : Addr) (x qual : Str) (st : Stmt) : Prop where
  ex : ∃ (f c cc : Addr) (oc kV doc pm ct : Value) (od an : Option Addr) (osl : Array (Option Value)), K.lookup f = some ⟨oc, od, .func (PySem.W.fnX "__init__" qual (defArgs st) (defBody st) (defScope st) [("__class__", cc)] .none kV doc pm an (.ref c) ct), osl⟩ ∧ PySem.W.codeIn K (.ref c) qual = true ∧
    SupF P K mg C f c cc (PySem.W.fnX "__init__" qual (defArgs st) (defBody st) (defScope st) [("__class__", cc)] .none kV doc pm an (.ref c) ct) ∧ PySem.W.findIn K (.ref C) "__init__" = some (some (.ref f)) ∧ PySem.W.typeIn K (.ref f) = some (.type "function")
  ox : OexC K C
  gc : mg x = some (.ref C)
/-- .. and what its __init__ promises -/
structure Xn (P : Program) (w : World) (K : PySem.W.Frag) (mg : Str → Option Value) (base : Heap) (k : Nat) (C : Addr) (x : Str) (sp : Sp) : Prop where
  ex : ∃ (f : Addr) (fd : FuncData) (ps : List Str), FnOk P w K mg base CX0 k f fd ps sp ∧ PySem.W.findIn K (.ref C) "__init__" = some (some (.ref f)) ∧ PySem.W.typeIn K (.ref f) = some (.type "function") ∧ Binds K fd ps []
  ox : OexC K C
  gc : mg x = some (.ref C)
theorem pmk_x {X : Cx} {C : Addr} {x : Str} {sp : Sp} {k j : Nat} {e : Expr} {es : List Expr} {ta : TA} {p pos : Pos} (d : Xn X.prog X.w X.K X.mg X.base k C x sp) (hr : Room j X.A) (hk : k + 1 ≤ j) (hg : Gl X x) (ha : PA X (e :: es) ta)
    (hdb : (x == ("__debug__" : Str)) = false := by decide) (he : starEach (e :: es) X.env = (false, eval e X.env) :: starEach es X.env := by rfl) (hpl : (backTo pos (starEach es X.env)).any (·.1) = false := by rfl) : PMk X (.Call (.Name x p) (e :: es) [] pos) (tMkO C sp [] ta) := by
  obtain ⟨f, fd, ps, F, h1, h2, B⟩ := d.ex
  exact pmk_oex d.ox h1 h2 F (hr.mono hk) B .nil (fun _ _ _ _ _ _ _ h => h.elim) hg d.gc ha hdb he hpl
theorem log64 {i : Int} (h0 : -(2 ^ 64) < i) (h1 : i < 2 ^ 64) : i.natAbs.log2 < 1920 := by
  by_cases e : i.natAbs = 0
  · rw [e]; decide
  · have : i.natAbs < 2 ^ 64 := by omega
    have := (Nat.log2_lt e).mpr this
    omega
/-- the exception's record is gone, its dict stands -/
theorem exg1 {H : Hp} {a d : Addr} {o1 o2 o3 o4 : HO} (ha : H a = none) : upd (del (upd (upd (upd H a o1) d o2) a o3) a) d o4 = upd H d o4 := by
  funext b
  by_cases hb : b = d
  · rw [hb, upd_same, upd_same]
  · rw [upd_ne hb, upd_ne hb]
    by_cases h2 : b = a
    · rw [h2, del_same, ha]
    · rw [del_ne h2, upd_ne h2, upd_ne hb, upd_ne h2]
theorem isX {H : Hp} {Q : VK} {D a dx : Addr} {fs : List (Str × V)} {c : V} {cv : Value} {b : Bool} (ec : ExcC K D) (hd : H dx = some (.xd fs)) (hc : ∀ u, RelV c u → u = cv) (hk : PySem.W.kitOne K (.ref D) cv = some b) (q : Q (.bl b) H) : rIsX K a (.ref D) (some dx) [.ref a, c] H Q := ⟨D, dx, fs, c, cv, b, rfl, rfl, hd, ec, rfl, hc, hk, q⟩
end
end U

set_option Elab.async false
set_option linter.all false
set_option maxRecDepth 100000
set_option maxHeartbeats 4000000
/-! a classmethod that may raise, called in a try's body -/
namespace UX
open PySem PySem.Spec PyProof.Rows L2 UL UV UW ClX
/-- C.m(..), m a classmethod that may raise -/
structure CMnX (P : Program) (w : World) (K : PySem.W.Frag) (mg : Str → Option Value) (base : Heap) (CX : CXT) (k : Nat) (C : Addr) (x m : Str) (sp : Sp) : Prop where
  ex : ∃ (q g : Addr) (mc : Value), CRead K C mc ∧ CMet K C mc m q g ∧ FnR P w K mg base CX k g sp ∧ mg x = some (.ref C)
def tBCX (sp : Sp) (E : L2.St → XK) (t : TA) : TE := fun σ H Q => t σ H fun vs H2 => sp vs H2 Q (E σ)
section
variable {X : Cx} {CX : CXT} {k j i : Nat} {C : Addr} {sp : Sp} {E : L2.St → XK} {e : Expr} {es : List Expr} {m x : Str} {p pos apos : Pos} {t : TA} {pl : Sem Bool}
theorem run_fnRS {pins : List (Addr × Obj)} {σ : L2.St} {H : Hp} {s : Shared} {Q : VK} {f : Addr} {us : List Value} {vs : List V} {E0 : XK} (F : FnR X.prog X.w X.K X.mg X.base CX k f sp) (hr : Room k X.A) (hx : ∀ (s' : Shared) (e : Value), CX X.stack H s E0 e s' → X.xe e s')
    (I : L2.Inv X pins σ H s) (r : Vals vs us) (h : sp vs H Q E0) :
    codeAny (model X.prog X.w) X.A (.call (.ref f) ⟨us, []⟩) (fun r s' => match r with | .ok (.ret v) => EP X pins σ Q v s' | .ok _ => False | .error e => X.xe e s') s := by
  refine codeAny_mono (F X.A X.stack s H us vs Q E0 hr I.env0 r h) fun r s' hq => ?_
  cases r with
  | error e => exact hx s' e hq
  | ok fl =>
    cases fl with
    | ret u => exact I.after hq
    | next => exact False.elim hq
    | brk => exact False.elim hq
    | cont => exact False.elim hq
theorem pe_cmX (d : CMnX X.prog X.w X.K X.mg X.base CX k C x m sp) (hr : Room j X.A) (hk : k ≤ j) (hx : ∀ σ, PassesAt CX X σ (E σ)) (hg : Gl X x) (ha : PA X (e :: es) t) (hdb : (x == ("__debug__" : Str)) = false := by decide)
    (hst : starEach (e :: es) X.env = (false, eval e X.env) :: starEach es X.env := by rfl) (hpl : (backTo pos (starEach es X.env)).any (·.1) = false := by rfl)
    (ht : eval (.Call (.Attribute (.Name x p) m apos) (e :: es) [] pos) X.env = (do
      let ov ← eval (.Name x p) X.env
      standAt apos.atName
      let (f, first) ← holding [ov] (getMethod ov m pl)
      callWith pos f first (backTo pos (starEach (e :: es) X.env)) (backToKw pos (keywordEach [] X.env))) := by rfl) : PE X (.Call (.Attribute (.Name x p) m apos) (e :: es) [] pos) (tBCX (fun vs H Q E => sp (.ref C :: vs) H Q E) E t) := by
  obtain ⟨q, g, mc, r, c, F, hm⟩ := d.ex
  have gl : PE X (.Name x p) (tC (.ref C)) := C8.pe_gc (v := .ref C) hg ⟨_, hm, rfl⟩ hdb
  refine ⟨fun pins s σ H Q I h => ?_⟩
  refine PySem.W.methodCall_KW (pl := pl) (thn (gl.run pins s σ H (fun x H1 => x = V.ref C ∧ H1 = H) I ⟨rfl, rfl⟩) fun u s1 ⟨x, H1, I1, rx, ex, eH⟩ => ?_) ht
  subst ex eH
  obtain rfl : u = Value.ref C := rx
  refine getmethcm_ok I1 r c fun s2 I2 => ?_
  refine callwith_cm I2 (base_none I1 (Nat.le_refl _)) c.fi (thn (ha.run pos _ s2 σ _ _ I2 h) fun us s3 ⟨vs, H2, I3, rv, q2⟩ => ⟨⟨pin_at I3, I3.kIn⟩, ?_⟩) hst hpl
  have z : wpAny (model X.prog X.w) X.A (call (.ref s1.heap.objs.size) us) (EP X ((s1.heap.objs.size, PySem.W.methodObj (.ref g) (.ref C)) :: pins) σ Q) X.xe s3 :=
    wpAny_call (PySem.W.method_call (pin_at I3) (run_fnRS (us := .ref C :: us) (vs := .ref C :: vs) F (hr.mono hk) (fun s' e c => hx σ _ H2 s3 e s' I3 c) I3 (.cons rfl rv) q2))
  exact thn z fun _ _ y => unpinE y
end
/-- xs.insert(i, y) -/
def rInsert : V → List V → Hp → VK → Prop := fun x vs H Q => ∃ (l : Addr) (xs : List V) (i : Int) (y : V), x = .ref l ∧ vs = [.int i, y] ∧ H l = some (.lst xs) ∧ xs.length < sizeLine ∧ 0 ≤ i ∧ i < 2 ^ 63 ∧ Q .non (upd H l (.lst (xs.take i.toNat ++ [y] ++ xs.drop i.toNat)))
theorem mt_insertM {X : Cx} : MtR X "list.insert" rInsert := mt_insert
end UX

set_option Elab.async false
set_option linter.all false
set_option maxRecDepth 100000
set_option maxHeartbeats 4000000
/-! tuple(d); a class made in a try; what is never reached -/
namespace UX
open PySem PySem.Spec PyProof.Rows L2 UL UV UW PySem.W
section
variable {prog : Program} {w : World} {A : Around} {E : Value → Shared → Prop} {s : Shared} {r d : Addr} {n : Nat} {T : String} {P : Nat → Value → Prop} {OK : Heap → Prop}
theorem collect_kdl {Q : List Value → Shared → Prop} (K : KdlSrc prog w T r d n P OK) (hh : A.handled = none) (hok : OK s.heap) (hlen : n ≤ sizeLine)
    (hQ : ∀ (h' : Heap) (tk : Nat) (acc : Array Value), (∀ b o, s.heap.get? b = some o → h'.get? b = some o) → ItemsOf P acc n → Q acc.toList { s with heap := h', toks := tk }) :
    wpAny (model prog w) A (collect (.ref r)) Q E s := by
  unfold collect
  refine wpAny_bind (wpAny_runValue (codeAny_builtin F.entry_proto_collect ?_))
  rw [Around.under_plainId F.plain_proto_collect _]
  show wpAny _ A.in1 (newList [] >>= fun l => again (.builtin "list.__iadd__" ⟨[l, .ref r], []⟩)) _ _ s
  refine wpAny_bind (wpAny_newObj_type ?_)
  refine wpAny_pure ⟨plainId_quiet F.plain_list_iadd _, codeAny_builtin F.entry_list_iadd ?_⟩
  rw [Around.under_plainId F.plain_list_iadd _]
  show wpAny _ A.in1 (Builtin.List.listExtendWith (.ref s.heap.objs.size) (.ref r) (.ref s.heap.objs.size)) _ _ _
  have hS : (s.heap.push { cls := .type "list", data := .seq ([] : List Value).toArray }).get? s.heap.objs.size = some { cls := .type "list", data := .seq #[] 0 } := Heap.get?_push_size _ rfl
  have hok2 : OK (s.heap.push { cls := .type "list", data := .seq ([] : List Value).toArray }) := K.keep _ _ hok fun b _ o e => Heap.get?_push_of_some _ e
  obtain ⟨t1, t2⟩ := K.there _ hok
  refine wpAny_mono (kdl_extend (A := A) (R := fun rr s' => rr = .ok (.ret (.ref s.heap.objs.size)) ∧ ∃ (h' : Heap) (tk : Nat) (acc : Array Value) (c' : Nat), s' = { s with heap := h', toks := tk } ∧
      (∀ b o, s.heap.get? b = some o → h'.get? b = some o) ∧ h'.get? s.heap.objs.size = some { cls := .type "list", dict := none, data := .seq acc c', slots := #[] } ∧ ItemsOf P acc n)
    (s := { s with heap := s.heap.push { cls := .type "list", data := .seq ([] : List Value).toArray } }) K hh hok2 s.heap.objs.size (Nat.ne_of_gt t1) (Nat.ne_of_gt t2) _ 0 hS
    (fun h' tk acc c' hk e hi => ⟨rfl, h', tk, acc, c', rfl, fun b o q => hk b o (Nat.ne_of_lt (Heap.lt_size q)) (Heap.get?_push_of_some _ q), e, hi⟩) hlen) (fun fin s' h => ?_) (fun e s' h => ?_)
  · cases fin with
    | done f =>
      obtain ⟨e, h', tk, acc, c', rfl, hk, hS', hi⟩ := h
      cases e
      show wpAny _ A (load s.heap.objs.size >>= _) _ _ _
      exact wpAny_bind (wpAny_load hS' (wpAny_pure (hQ h' tk acc hk hi)))
    | again c' =>
      refine ⟨h.1, codeAny_mono h.2 fun rr s'' hr' => ?_⟩
      obtain ⟨rfl, h', tk, acc, c', rfl, hk, hS', hi⟩ := hr'
      show wpAny _ A (load s.heap.objs.size >>= _) _ _ _
      exact wpAny_bind (wpAny_load hS' (wpAny_pure (hQ h' tk acc hk hi)))
  · exact absurd h.1 (by simp)
theorem code_tuple_new_kdl {Q₁ : Value → Shared → Prop} (K : KdlSrc prog w T r d n P OK) (hh : A.handled = none) (hok : OK s.heap) (hlen : n ≤ sizeLine)
    (h : ∀ (h' : Heap) (tk : Nat) (acc : Array Value), (∀ b o, s.heap.get? b = some o → h'.get? b = some o) → ItemsOf P acc n →
      Q₁ (.ref h'.objs.size) { s with heap := h'.push { cls := .type "tuple", data := .seq acc }, toks := tk }) :
    codeAny (model prog w) A (.call (.builtin "tuple.__new__") ⟨[.type "tuple", .ref r], []⟩) (wants Q₁ E) s := by
  refine codeAny_of_tree ?_
  show wpAny _ A.in1 (do checkBuiltinCall "tuple.__new__" ⟨[.type "tuple", .ref r], []⟩; again (.builtin "tuple.__new__" ⟨[.type "tuple", .ref r], []⟩)) _ _ s
  refine wpAny_bind (wpAny_of_eq (F.newCall_tuple_1 _) (wpAny_pure ⟨plainId_quiet F.plain_tuple_new _, codeAny_builtin F.entry_tuple_new ?_⟩))
  rw [Around.under_plainId F.plain_tuple_new _]
  have hsub := sub_tuple_self
  have hinit := init_tuple_lookup
  have hmh := madeHere_tuple
  have hTI : s.TypeIs (.ref r) T := K.type s hok
  have hh1 : A.in1.handled = none := hh
  have hnt := K.notTuple
  wp_walk using wpAny_typeOf hTI, collect_kdl (A := A.in1) K hh1 hok hlen
  intro h' tk acc hk hacc
  show wpAny _ _ (Builtin.Tuple.tupleExact acc.toList.toArray >>= fun v => ret v) _ _ _
  unfold Builtin.Tuple.tupleExact
  refine wpAny_bind (wpAny_newObj_type ?_ (by show acc.toList.toArray.size ≤ sizeLine; simp only [Array.toArray_toList]; rw [hacc.1]; exact hlen))
  refine wpAny_pure ?_
  have e : acc.toList.toArray = acc := by simp
  rw [e]
  exact h h' tk acc hk hacc
theorem call_tuple_kdl {Q : Value → Shared → Prop} (K : KdlSrc prog w T r d n P OK) (hh : A.handled = none) (hok : OK s.heap) (hlen : n ≤ sizeLine)
    (hQ : ∀ (h' : Heap) (tk : Nat) (acc : Array Value), (∀ b o, s.heap.get? b = some o → h'.get? b = some o) → ItemsOf P acc n →
      Q (.ref h'.objs.size) { s with heap := h'.push { cls := .type "tuple", data := .seq acc }, toks := tk }) :
    wpAny (model prog w) A (call (.type "tuple") [.ref r]) Q E s := by
  refine callType_codes (Q₁ := fun obj s₁ => s₁.TypeIs obj "tuple" ∧ Q obj s₁) F.called_tuple (F.typeCall_tuple_1 _) F.entry_object_init
    (code_tuple_new_kdl (A := A.in1) K hh hok hlen fun h' tk acc hk hacc => ⟨⟨_, Heap.get?_push_size _ rfl, rfl⟩, hQ h' tk acc hk hacc⟩) fun obj s₁ h₁ => ?_
  exact ⟨h₁.1, F.args_object_init_2 obj _, object_init_meets F.called_tuple.init.lookup F.called_tuple.made (by decide) prog w A.in1 _ s₁ ⟨h₁.1, rfl, h₁.2⟩⟩
end
section
variable {X : Cx}
/-- tuple(d), d with plain keys: no dict, no slots -/
def cTupD : List V → Hp → VK → Prop := fun xs H Q => ∃ (a : Addr) (kvs : List (Key × V)), xs = [.ref a] ∧ Rd H a (.dK kvs) ∧ ∀ p o, H p = none → o.dict = none → o.slots = #[] → Q (.ref p) (upd H p (.frz o (.tup (kvs.map fun kv => kV kv.1))))
theorem call_tupD (hcalm : X.calm = true) : CallR X (.type "tuple") cTupD := by
  intro pins s σ H xs us Q I r q
  obtain ⟨a, kvs, ex, hd, q⟩ := q
  subst ex
  obtain ⟨u, eu, rx⟩ := vals1 r
  subst eu
  cases rx
  obtain ⟨z, lo, vs, rel, dd⟩ := dk_rd I.hok hd
  obtain ⟨ep, hat⟩ := dd.dictAt
  have ek : (kvs.map fun kv => kV kv.1) = vs.map fun p => kV p.1 := by
    have e := congrArg (List.map kV) rel.keys
    rw [List.map_map, List.map_map] at e
    exact e
  refine call_tuple_kdl (kdl_dict (knd := mixKind X.prog X.w) (kvs := vs) (ep := ep) lo) (I.ok.hd hcalm) hat (by rw [← rel.length]; exact z) fun h' tk acc hk hacc => ?_
  have hv : Vals (vs.map fun p => kV p.1) acc.toList := keys_at (by rw [Array.length_toList]; exact hacc.1) fun j v e => hacc.2 j v (by rw [← Array.getElem?_toList]; exact e)
  have I1 : Inv X pins σ H { s with heap := h', toks := tk } := I.kept (t' := tk) hk
  refine ⟨.ref h'.objs.size, _, I1.laid (t' := tk) (fun b o e => Heap.get?_push_of_some _ e) (Nat.le_refl _) (show ObjOk X.prog X.w _ _ _ (.frz { cls := .type "tuple", data := .seq acc } (.tup (kvs.map fun kv => kV kv.1))) from
    ⟨Heap.get?_push_size _ rfl, by rw [List.length_map]; exact z, acc.toList, by rw [ek]; exact hv, ?_⟩), rfl, q _ _ (I1.hok.fresh (Nat.le_refl _)) rfl rfl⟩
  have e : acc = acc.toList.toArray := by simp
  exact e ▸ IsTup.new _ _
end
section
variable {X : Cx}
theorem pe_never {e : Expr} : PE X e (fun _ _ _ => False) := ⟨fun _ _ _ _ _ _ h => h.elim⟩
variable {CX : CXT} {k j : Nat} {C f : Addr} {fd : FuncData} {ps : List Str} {sp : Sp} {E : L2.St → XK} {x : Str} {p pos : Pos} {e : Expr} {es : List Expr} {t : TA}
/-- C(e, ..) in a try's body -/
def tMakeX (C : Addr) (sp : Sp) (E : L2.St → XK) (t : TA) : TE := fun σ H Q => t σ H fun vs H1 => ∀ x dx, H1 x = none → H1 dx = none → dx ≠ x → sp (.ref x :: vs) (upd (upd H1 dx (.own x)) x (.ins C dx [])) (fun v H2 => v = .non ∧ Q (.ref x) H2) (E σ)
theorem pe_kX (d : Kn X.prog X.w X.K X.mg X.base CX k C x sp) (hr : Room j X.A) (hk : k + 1 ≤ j) (hx : ∀ σ, PassesAt CX X σ (E σ)) (hg : Gl X x) (ha : PA X (e :: es) t) (hdb : (x == ("__debug__" : Str)) = false := by decide)
    (he : starEach (e :: es) X.env = (false, eval e X.env) :: starEach es X.env := by rfl) (hpl : (backTo pos (starEach es X.env)).any (·.1) = false := by rfl) : PE X (.Call (.Name x p) (e :: es) [] pos) (tMakeX C sp E t) := by
  obtain ⟨f, fd, ps, F, M, hb, hm⟩ := d.ex
  refine ⟨fun pins s σ H Q I h => ?_⟩
  refine wpAny_Call_Name_kw (ld_glob I hg hm ?_ hdb)
  refine PySem.W.callWith_K (h₀ := X.base) I.ok.mod.kin M.kp (thn (ha.run pos pins s σ H _ I h) fun us s1 ⟨vs, H1, I1, r, q⟩ => ⟨I1.kIn, ?_⟩) he hpl
  have hq := q (s1.heap.objs.size + 1) s1.heap.objs.size (I1.hok.fresh (Nat.le_succ _)) (I1.hok.fresh (Nat.le_refl _)) (Nat.ne_of_lt (Nat.lt_succ_self _))
  have I2 := Inv.made (C := C) I1
  have r2 : Vals (V.ref (s1.heap.objs.size + 1) :: vs) (Value.ref (s1.heap.objs.size + 1) :: us) := .cons rfl r
  have hl : (Value.ref (s1.heap.objs.size + 1) :: us).length = ps.length := by
    rw [← r2.length]; exact F.len _ _ _ _ hq
  have bb := hb _ (Value.ref (s1.heap.objs.size + 1) :: us) I2.kIn (by rw [List.append_nil]; exact hl)
  rw [List.append_nil] at bb
  refine wpAny_call (make_map (f := f) I1.kIn M.makes M.init (beq_iff_eq.mp M.fn) (codeAny_mono (F.run _ X.stack _ _ ⟨Value.ref (s1.heap.objs.size + 1) :: us, []⟩ (Value.ref (s1.heap.objs.size + 1) :: us) _ _ (E σ) ((hr.mono hk).make C us [])
    (I2.env0.make C us []) bb r2 hq) fun r s' hq' => ?_))
  cases r with
  | error e => exact hx σ _ _ _ e s' I2 hq'
  | ok fl =>
    cases fl with
    | ret u =>
      obtain ⟨v, H', I3, rv, ev, q3⟩ := I2.after hq'
      subst ev
      exact ⟨rv, ⟨V.ref (s1.heap.objs.size + 1), H', I3, rfl, q3⟩⟩
    | next => exact False.elim hq'
    | brk => exact False.elim hq'
    | cont => exact False.elim hq'
end
/-- what a dict comprehension over J wants of its dict at D -/
def DJ (J : It) (g : TG) (tt : TT) (tk tv : TE) (vs : List Nat) (σ : L2.St) (D : Addr) (Qd : Hp → Prop) (H1 : Hp) : Prop := ∃ W : Nat → Nat → Hp → Prop, (∃ m, W 0 m (upd H1 D (.dK []))) ∧ ∀ i m H, W i m H →
  (J.stop i H ∧ Qd H) ∨ (J.go i H ∧ ∃ Nx : Hp → Prop, (∀ H', Nx H' → ∃ m', m' < m ∧ W (i + 1) m' H') ∧ ∀ x H', J.yld i H x H' → g x (wipe σ vs) H' fun σ2 H2 => wipe σ2 vs = wipe σ vs ∧ tt σ2 H2 fun b H3 =>
    if b = true then tk σ2 H3 fun y H4 => tv σ2 H4 fun z H5 => ∃ kvs k, y = kV k ∧ H5 D = some (.dK kvs) ∧ kvs.length < sizeLine ∧ Nx (upd H5 D (.dK (putK kvs k z))) else Nx H3)
theorem tDc_eq {wi : TI} {g : TG} {tt : TT} {tk tv : TE} {vs : List Nat} {σ : L2.St} {H : Hp} {Q : VK} : tDc wi g tt tk tv vs σ H Q = wi σ H fun J H1 => ∀ D, H1 D = none → DJ J g tt tk tv vs σ D (fun H2 => Q (.ref D) H2) H1 := rfl
theorem DJ.tup {K : PySem.W.Frag} {a : Addr} {xs : List V} {g : TG} {tt : TT} {tk tv : TE} {vs : List Nat} {σ : L2.St} {H1 : Hp} {D : Addr} {Qd : Hp → Prop} (Pv : Nat → Hp → Prop) (h0 : Pv 0 (upd H1 D (.dK []))) (hl : ∀ i H, i ≤ xs.length → Pv i H → SqT K H a xs)
    (hs : ∀ i x H, xs[i]? = some x → Pv i H → g x (wipe σ vs) H fun σ2 H2 => wipe σ2 vs = wipe σ vs ∧ tt σ2 H2 fun b H3 =>
      if b = true then tk σ2 H3 fun y H4 => tv σ2 H4 fun z H5 => ∃ kvs k, y = kV k ∧ H5 D = some (.dK kvs) ∧ kvs.length < sizeLine ∧ Pv (i + 1) (upd H5 D (.dK (putK kvs k z))) else Pv (i + 1) H3) (hd : ∀ H, Pv xs.length H → Qd H) : DJ (Itt K a) g tt tk tv vs σ D Qd H1 := dc_tup Pv h0 hl hs hd
/-- isinstance of a pinned exception without a dict -/
theorem call_isP0 {X : Cx} {a : Addr} {oe : Obj} {cls : Value} {d : Option Addr} (hp : (a, oe) ∈ X.pn) (hz : Zc cls d oe) (hf : ∃ vs, oe.data = .fields vs) : CallR X (.builtin "isinstance") (rIs0 X.K a cls d) := by
  intro pins s σ H xs us Q I r h
  obtain ⟨D, c, cv, b, rfl, rfl, ec, rfl, hcv, e, q⟩ := h
  obtain ⟨u1, u2, rfl, ru1, ru2⟩ := vals2 r
  cases ru1
  have e2 := hcv _ ru2
  subst e2
  obtain ⟨hget, _⟩ := I.pin (a, oe) (List.mem_append_left _ hp)
  obtain ⟨vs, hv⟩ := hf
  have J : PySem.W.InstAt s.heap a oe D none := by
    obtain ⟨oc, od, oda, osl⟩ := oe
    obtain ⟨h1, h2⟩ := hz
    dsimp only at h1 h2 hv
    subst h1 h2 hv
    exact ⟨hget, rfl, rfl, trivial⟩
  exact PySem.W.kia_one (PySem.W.handS_kitx_exc ec.hg ec.hk ec.hs ec.hd ec.ha ec.hn ec.ht ec.hm) I.kIn J e (fun z => nomatch z) fun tk => ⟨.bl b, H, I.kept (t' := tk) fun _ _ z => z, rfl, q⟩
theorem is0 {K : PySem.W.Frag} {H : Hp} {Q : VK} {D a : Addr} {c : V} {cv : Value} {b : Bool} (ec : ExcC K D) (hc : ∀ u, RelV c u → u = cv) (hk : PySem.W.kitOne K (.ref D) cv = some b) (q : Q (.bl b) H) : rIs0 K a (.ref D) none [.ref a, c] H Q := ⟨D, c, cv, b, rfl, rfl, ec, rfl, hc, hk, q⟩
end UX

set_option Elab.async false
set_option linter.all false
set_option maxRecDepth 100000
set_option maxHeartbeats 4000000
/-! a classmethod without arguments; own + and |; a classmethod with a star parameter -/
namespace UX
open PySem PySem.Spec PyProof.Rows L2 UL UV UW ClX
section
variable {X : Cx} {CX : CXT} {k j i : Nat} {C : Addr} {sp : Sp} {E : L2.St → XK} {ea eb : Expr} {op : Operator} {m x : Str} {p pos apos : Pos} {ta tb : TE} {pl : Sem Bool}
/-- C.m() -/
theorem pe_cmX0 (d : CMnX X.prog X.w X.K X.mg X.base CX k C x m sp) (hr : Room j X.A) (hk : k ≤ j) (hx : ∀ σ, PassesAt CX X σ (E σ)) (hg : Gl X x) (hdb : (x == ("__debug__" : Str)) = false := by decide)
    (ht : eval (.Call (.Attribute (.Name x p) m apos) [] [] pos) X.env = (do
      let ov ← eval (.Name x p) X.env
      standAt apos.atName
      let (f, first) ← holding [ov] (getMethod ov m pl)
      callWith pos f first (backTo pos (starEach [] X.env)) (backToKw pos (keywordEach [] X.env))) := by rfl) : PE X (.Call (.Attribute (.Name x p) m apos) [] [] pos) (tBCX (fun vs H Q E => sp (.ref C :: vs) H Q E) E tNil) := by
  obtain ⟨q, g, mc, r, c, F, hm⟩ := d.ex
  have gl : PE X (.Name x p) (tC (.ref C)) := C8.pe_gc (v := .ref C) hg ⟨_, hm, rfl⟩ hdb
  refine ⟨fun pins s σ H Q I h => ?_⟩
  refine PySem.W.methodCall_KW (pl := pl) (thn (gl.run pins s σ H (fun x H1 => x = V.ref C ∧ H1 = H) I ⟨rfl, rfl⟩) fun u s1 ⟨x, H1, I1, rx, ex, eH⟩ => ?_) ht
  subst ex eH
  obtain rfl : u = Value.ref C := rx
  refine getmethcm_ok I1 r c fun s2 I2 => ?_
  refine PySem.W.callWith_M0 (first := []) (K := X.K) (g := g) (self := .ref C) ⟨pin_at I2, I2.kIn⟩ c.fi ?_
  have z : wpAny (model X.prog X.w) X.A (call (.ref s1.heap.objs.size) []) (EP X ((s1.heap.objs.size, PySem.W.methodObj (.ref g) (.ref C)) :: pins) σ Q) X.xe s2 :=
    wpAny_call (PySem.W.method_call (pin_at I2) (run_fnRS (us := [.ref C]) (vs := [.ref C]) F (hr.mono hk) (fun s' e c => hx σ _ H1 s2 e s' I2 c) I2 (.cons rfl .nil) h))
  exact thn z fun _ _ y => unpinE y
/-- cls(..), cls the class at C, which may raise -/
def tMakeLX (i : Nat) (C : Addr) (sp : Sp) (E : XK) (t : TA) : TE := fun σ H Q => σ[i]? = some (some (.ref C)) ∧ t σ H fun vs H1 => ∀ x dx, H1 x = none → H1 dx = none → dx ≠ x → sp (.ref x :: vs) (upd (upd H1 dx (.own x)) x (.ins C dx [])) (fun v H2 => v = .non ∧ Q (.ref x) H2) E
theorem pe_makeLX {y : Str} {E : XK} {e : Expr} {es : List Expr} {t : TA} (d : Kn X.prog X.w X.K X.mg X.base CX k C y sp) (hr : Room j X.A) (hk : k + 1 ≤ j) (hN : X.N[i]? = some x) (hv : Vis X.env.scope x) (hx : Passes CX X E) (ha : PA X (e :: es) t)
    (hdb : (x == ("__debug__" : Str)) = false := by decide) (hcd : (x == ("__classdict__" : Str)) = false := by decide)
    (he : starEach (e :: es) X.env = (false, eval e X.env) :: starEach es X.env := by rfl) (hpl : (backTo pos (starEach es X.env)).any (·.1) = false := by rfl) : PE X (.Call (.Name x p) (e :: es) [] pos) (tMakeLX i C sp E t) := by
  obtain ⟨f, fd, ps, F, M, hb, hm⟩ := d.ex
  refine ⟨fun pins s σ H Q I h => ?_⟩
  obtain ⟨hs, ht⟩ := h
  refine wpAny_Call_Name_kw (thn ((pe_var (pos := p) hN hv hdb hcd).run pins s σ H (fun v H1 => v = .ref C ∧ H1 = H) I ⟨.ref C, hs, rfl, rfl⟩) fun u s1 ⟨v, H1, I1, r1, q1⟩ => ?_)
  obtain ⟨rfl, rfl⟩ := q1
  cases r1
  refine PySem.W.callWith_K (h₀ := X.base) I.ok.mod.kin M.kp (thn (ha.run pos pins s1 σ _ _ I1 ht) fun us s2 ⟨vs, H2, I2, r, q⟩ => ⟨I2.kIn, ?_⟩) he hpl
  have q' : ∀ x dx, H2 x = none → H2 dx = none → dx ≠ x → sp (.ref x :: (vs ++ [])) (upd (upd H2 dx (.own x)) x (.ins C dx [])) (fun v H3 => v = .non ∧ Q (.ref x) H3) E := fun x dx h1 h2 h3 => by
    rw [List.append_nil]
    exact q x dx h1 h2 h3
  exact run_make (dvs := []) M F (hr.mono hk) hb .nil hx I2 r q'
/-- inside a comprehension -/
theorem call_lenK (K : PySem.W.Frag) (h : X.K = K) : CallR X (.builtin "len") (cLen K) := h ▸ call_lenA
theorem ix_seqK (K : PySem.W.Frag) (h : X.K = K) : IxR X (rIx K) := h ▸ ix_seq
theorem op_eqK (K : PySem.W.Frag) (h : X.K = K) (hu : X.A.units + 64 < cLine) : OpR X (compareOp .Eq) (rEqA K) := h ▸ op_eqA hu
theorem op_neK (K : PySem.W.Frag) (h : X.K = K) (hu : X.A.units + 64 < cLine) : OpR X (compareOp .NotEq) (rNeA K) := h ▸ op_neA hu
/-- C.f, a constant of the class -/
structure CVn (K : PySem.W.Frag) (mg : Str → Option Value) (x f : Str) (v : V) : Prop where
  ex : ∃ (C : Addr) (mc u : Value), mg x = some (.ref C) ∧ CRead K C mc ∧ CVal K C mc f v u
theorem pe_cv {f : Str} {v : V} (d : CVn X.K X.mg x f v) (hg : Gl X x) (hdb : (x == ("__debug__" : Str)) = false := by decide) (hb : attributeBase (.Name x p) f X.env (eval (.Name x p) X.env) = eval (.Name x p) X.env := by rfl) : PE X (.Attribute (.Name x p) f pos) (tC v) := by
  obtain ⟨C, mc, u, hm, r, k⟩ := d.ex
  have gl : PE X (.Name x p) (tC (.ref C)) := C8.pe_gc (v := .ref C) hg ⟨_, hm, rfl⟩ hdb
  exact ⟨fun pins s σ H Q I h => (pe_cval (pos := pos) gl hb).run pins s σ H Q I ⟨C, mc, v, u, rfl, r, k, h⟩⟩
/-- own binary operator -/
structure BiO (K : PySem.W.Frag) (C f : Addr) (op : Operator) : Prop where
  sf : PySem.W.selfFirst K C = true
  at_ : PySem.W.findIn K (.ref C) (PySem.dunder op.info.2) = some (some (.ref f))
  is : PySem.W.isFn K (.ref f) = true
structure BOn (P : Program) (w : World) (K : PySem.W.Frag) (mg : Str → Option Value) (base : Heap) (CX : CXT) (k : Nat) (C : Addr) (op : Operator) (sp : Sp) : Prop where
  ex : ∃ (f : Addr) (fd : FuncData) (ps : List Str), FnOk P w K mg base CX k f fd ps sp ∧ BiO K C f op ∧ Binds K fd ps []
def tBinX (C : Addr) (sp : Sp) (E : L2.St → XK) (ta tb : TE) : TE := fun σ H Q => ta σ H fun x H1 => tb σ H1 fun y H2 => ∃ a dx fs b dy gs, x = .ref a ∧ y = .ref b ∧ H2 a = some (.ins C dx fs) ∧ H2 b = some (.ins C dy gs) ∧ sp [.ref a, .ref b] H2 Q (E σ)
theorem pe_binX (d : BOn X.prog X.w X.K X.mg X.base CX k C op sp) (hr : Room j X.A) (hk : k ≤ j) (hx : ∀ σ, PassesAt CX X σ (E σ)) (ha : PE X ea ta) (hb : PE X eb tb) : PE X (.BinOp ea op eb pos) (tBinX C sp E ta tb) := by
  obtain ⟨f, fd, ps, F, c, B⟩ := d.ex
  refine ⟨fun pins s σ H Q I h => wpAny_BinOp (binT ha hb I h fun v u s2 x y H2 I2 rx ry q => ?_)⟩
  obtain ⟨a, dx, fs, b, dy, gs, rfl, rfl, e1, e2, q⟩ := q
  cases rx
  cases ry
  obtain ⟨od, J⟩ := inst_of I2 e1
  obtain ⟨od', J'⟩ := inst_of I2 e2
  obtain ⟨m, hF⟩ := I2.fr
  refine PySem.W.binop_K hF I2.ok.mod.kin J J'.type c.sf c.at_ c.is ?_
  refine wpAny_mono (run_fnS (us := [.ref a, .ref b]) (vs := [.ref a, .ref b]) F (hr.mono hk) B (hx σ) I2 (.cons rfl (.cons rfl .nil)) q) (fun w s' z => ?_) fun _ _ x => x
  obtain ⟨z', H', I', rz, qz⟩ := z
  exact SlX.cmpback rz ⟨z', H', I', rz, qz⟩
end
section
variable {P : Program} {w : World} {K : PySem.W.Frag} {mg : Str → Option Value} {base : Heap}
/-- def f(p1, *pv), which may raise -/
theorem fun_starX {x qual : Str} {st : Stmt} {f : Addr} {fd : FuncData} {N : List Str} {p1 pv : Str} {k : Nat} {sp : Sp} (F : Fun K x qual st f fd) (S : FnScope N ([p1] ++ [pv]) (defScope st))
    (hb : ∀ (kV doc pm : Value) (an : Option Addr) (cdv ct : Value), (∀ a, bindArgs (PySem.W.fnOf x qual (defArgs st) (defBody st) (defScope st) .none kV doc pm an cdv ct) ⟨[a], []⟩ = (newTuple [] >>= fun t => pure [(p1, a), (pv, t)])) ∧
      (∀ a r rs, bindArgs (PySem.W.fnOf x qual (defArgs st) (defBody st) (defScope st) .none kV doc pm an cdv ct) ⟨a :: r :: rs, []⟩ = (newTuple (r :: rs) >>= fun t => pure [(p1, a), (pv, t)])))
    (hbody : ∀ (cdv : Value) (A : Around) (outer : List Env) (s : Shared) (H : Hp) (vs : List V) (Q : VK) (E : XK), Room k (A.deeper (envOfC qual (defScope st) s.heap.objs.size f cdv)) → sp vs H Q E →
      ∃ t, PSs (cxOf (L2.CX P w) P w K mg base N qual (defScope st) f cdv A outer s H E) (defBody st) t ∧ t { nx := fun _ H' => Q .non H', rt := Q } (start N vs) H) :
    FnR P w K mg base (L2.CX P w) (k + 1) f (fun vs H Q E => ∃ ws rest, vs = ws ++ rest ∧ ws.length = 1 ∧ rest.length ≤ sizeLine ∧ ∀ p, H p = Option.none → sp (ws ++ [V.ref p]) (upd H p (.tup rest)) Q E) := by
  obtain ⟨oc, od, kV, doc, pm, an, cdv, ct, osl, rfl, lk, hcd⟩ := F.ex
  exact StX.fn_star (ps := [p1]) lk hcd S StX.cxUp (fun us rest hl => StX.bind_star1 (B := fun l => bindArgs (PySem.W.fnOf x qual (defArgs st) (defBody st) (defScope st) .none kV doc pm an cdv ct) ⟨l, []⟩) (hb kV doc pm an cdv ct).1 (hb kV doc pm an cdv ct).2 us rest hl) fun A outer s H vs Q E hr hsp => hbody cdv A outer s H vs Q E hr hsp
end
end UX

set_option Elab.async false
set_option linter.all false
set_option maxRecDepth 100000
set_option maxHeartbeats 4000000
/-! d.setdefault(k, v) -/
namespace UX
open PySem PySem.Spec PyProof.Rows L2 UL UV UW ClX
theorem mt_setd {X : Cx} : MtR X "dict.setdefault" rSetd := by
  intro pins s σ H x vs u us Q I rx rv h
  obtain ⟨a, kvs, k, v, rfl, rfl, ea, hl, w1, w2⟩ := h
  cases rx
  obtain ⟨u1, u2, rfl, ry, rd⟩ := rv.two
  obtain ⟨z, hd, vs0, rel, dd⟩ := dk_of I.hok ea
  have hz : vs0.length ≤ sizeLine := by rw [← rel.length]; exact z
  refine call_meetsIn F.slot_dict_setdefault dd.typeIs F.entry_dict_setdefault (F.args_dict_setdefault_3 _ _ _) (kt_meets_setdefault (mixKind X.prog X.w) _ (kV_is ry) hd _) ⟨vs0, dd, hz, fun u hu => ?_, fun hn h' dd' hs => ?_⟩
  · have rr := rel.val k
    rw [hu] at rr
    cases hv : valV kvs k with
    | none => rw [hv] at rr; exact False.elim rr
    | some x =>
      rw [hv] at rr
      exact (⟨x, H, I.tok _, rr, w1 x hv⟩ : EP X pins σ Q u _)
  · have rr := rel.val k
    rw [hn] at rr
    cases hv : valV kvs k with
    | some x => rw [hv] at rr; exact False.elim rr
    | none =>
      have hl2 : (putK kvs k v).length ≤ sizeLine := by have := length_putK kvs k v; omega
      exact (⟨v, _, d_write (t' := s.toks + 1) I (by rw [ea]; exact True.intro) hs (let ⟨q, _, _, hq, _⟩ := dd'; ⟨q, hq⟩) (dk_new hl2 hd (rel.put k rd) dd'), rd, w2 hv⟩ : EP X pins σ Q _ _)
/-- len(d) -/
def cLenD : List V → Hp → VK → Prop := fun xs H Q => ∃ (a : Addr) (kvs : List (Key × V)), xs = [.ref a] ∧ Rd H a (.dK kvs) ∧ Q (.int kvs.length) H
theorem call_lenF {X : Cx} : CallR X (.builtin "len") cLenD := by
  intro pins s σ H xs us Q I r h
  obtain ⟨a, kvs, rfl, hd, q⟩ := h
  obtain ⟨u, rfl, ru⟩ := r.one
  cases ru
  exact d_len I hd fun t s' I' => ⟨.int kvs.length, H, I', ⟨t, rfl⟩, q⟩
theorem un1 {n k : Nat} (h : n + 64 < k) : n + 1 < k := by omega
end UX

set_option Elab.async false
set_option linter.all false
set_option maxRecDepth 100000
set_option maxHeartbeats 4000000
/-! all but some addresses -/
namespace UX
open PySem PySem.Spec PyProof.Rows L2 UL UV UW ClX
def SmS (S : List Addr) (H H' : Hp) : Prop := ∀ c o, H c = some o → c ∉ S → H' c = some o
theorem SmS.same {S : List Addr} {H H' : Hp} (s : ∀ b u, H b = some u → H' b = some u) : SmS S H H' := fun c o e _ => s c o e
theorem SmS.tr {S : List Addr} {H H1 H2 : Hp} (a : SmS S H H1) (b : SmS S H1 H2) : SmS S H H2 := fun c o e n => b c o (a c o e n) n
theorem SmS.at_ {S : List Addr} {p : Addr} {H : Hp} {o : HO} (h : p ∈ S) : SmS S H (upd H p o) := fun c u e n => by rw [upd_ne fun z => n (by rw [z]; exact h)]; exact e
theorem SmS.refl {S : List Addr} {H : Hp} : SmS S H H := fun c o e _ => e
theorem SmS.to {S : List Addr} {H H1 H2 : Hp} (a : ∀ b u, H b = some u → H1 b = some u) (b : SmS S H1 H2) (h : ∀ c ∈ S, H c = none) : ∀ b u, H b = some u → H2 b = some u := fun c o e => b c o (a c o e) fun z => by rw [h c z] at e; cases e
end UX

set_option Elab.async false
set_option linter.all false
set_option maxRecDepth 100000
set_option maxHeartbeats 4000000
/-! own __contains__, __len__, a comparison's own method; d[tuple]; a dict comprehension whose keys are tuples -/
namespace UX
open PySem PySem.Spec PyProof.Rows L2 UL UV UW ClX
section
variable {X : Cx} {CX : CXT} {k j : Nat} {C : Addr} {sp : Sp} {E : XK}
/-- x in o -/
structure Ctn (P : Program) (w : World) (K : PySem.W.Frag) (mg : Str → Option Value) (base : Heap) (CX : CXT) (k : Nat) (C : Addr) (sp : Sp) : Prop where
  ex : ∃ (f : Addr) (fd : FuncData) (ps : List Str), FnOk P w K mg base CX k f fd ps sp ∧ PySem.W.findIn K (.ref C) "__contains__" = some (some (.ref f)) ∧ PySem.W.isFn K (.ref f) = true ∧ Binds K fd ps []
theorem Mn.ctn {P : Program} {w : World} {K : PySem.W.Frag} {mg : Str → Option Value} {base : Heap} (d : Mn P w K mg base CX k C "__contains__" sp) : Ctn P w K mg base CX k C sp :=
  let ⟨f, fd, ps, F, M, B⟩ := d.ex
  ⟨f, fd, ps, F, M.at_, M.fn, B⟩
def rInO (C : Addr) (sp : Sp) (E : XK) (n : Bool) : R2 := fun x y H Q => ∃ a dx fs, y = .ref a ∧ H a = some (.ins C dx fs) ∧ sp [.ref a, x] H (fun r H' => ∃ b, r = .bl b ∧ Q (.bl (if n = true then !b else b)) H') E
theorem op_inO (d : Ctn X.prog X.w X.K X.mg X.base CX k C sp) (hr : Room j X.A) (hk : k ≤ j) (hx : Passes CX X E) : OpR X (compareOp .In) (rInO C sp E false) := by
  obtain ⟨f, fd, ps, F, at_, fn, B⟩ := d.ex
  intro pins s σ H x y v u Q I rx ry h
  obtain ⟨a, dx, fs, rfl, e, q⟩ := h
  cases ry
  obtain ⟨od, J⟩ := inst_of I e
  obtain ⟨m, hF⟩ := I.fr
  refine PySem.W.in_K hF I.ok.mod.kin J at_ fn (thn (run_fn (us := [.ref a, v]) (vs := [.ref a, x]) F (hr.mono hk) B .nil hx I (.cons rfl (.cons rx .nil)) q) fun r s1 z => ?_)
  obtain ⟨r', H', I', rr, b, rfl, q'⟩ := z
  cases rr
  exact wpAny_truthy_bool ⟨.bl b, H', I', rfl, q'⟩
theorem op_ninO (d : Ctn X.prog X.w X.K X.mg X.base CX k C sp) (hr : Room j X.A) (hk : k ≤ j) (hx : Passes CX X E) : OpR X (compareOp .NotIn) (rInO C sp E true) := by
  obtain ⟨f, fd, ps, F, at_, fn, B⟩ := d.ex
  intro pins s σ H x y v u Q I rx ry h
  obtain ⟨a, dx, fs, rfl, e, q⟩ := h
  cases ry
  obtain ⟨od, J⟩ := inst_of I e
  obtain ⟨m, hF⟩ := I.fr
  refine PySem.W.notIn_K hF I.ok.mod.kin J at_ fn (thn (run_fn (us := [.ref a, v]) (vs := [.ref a, x]) F (hr.mono hk) B .nil hx I (.cons rfl (.cons rx .nil)) q) fun r s1 z => ?_)
  obtain ⟨r', H', I', rr, b, rfl, q'⟩ := z
  cases rr
  exact wpAny_truthy_bool ⟨.bl (!b), H', I', rfl, q'⟩
/-- len(o) -/
structure Lnn (P : Program) (w : World) (K : PySem.W.Frag) (mg : Str → Option Value) (base : Heap) (CX : CXT) (k : Nat) (C : Addr) (sp : Sp) : Prop where
  ex : ∃ (f : Addr) (fd : FuncData) (ps : List Str), FnOk P w K mg base CX k f fd ps sp ∧ PySem.W.findIn K (.ref C) "__len__" = some (some (.ref f)) ∧ PySem.W.isFn K (.ref f) = true ∧ Binds K fd ps []
theorem Mn.lnn {P : Program} {w : World} {K : PySem.W.Frag} {mg : Str → Option Value} {base : Heap} (d : Mn P w K mg base CX k C "__len__" sp) : Lnn P w K mg base CX k C sp :=
  let ⟨f, fd, ps, F, M, B⟩ := d.ex
  ⟨f, fd, ps, F, M.at_, M.fn, B⟩
def cLenO (C : Addr) (sp : Sp) (E : XK) : List V → Hp → VK → Prop := fun xs H Q => ∃ a dx fs, xs = [.ref a] ∧ H a = some (.ins C dx fs) ∧ sp [.ref a] H (fun r H' => ∃ n : Int, r = .int n ∧ 0 ≤ n ∧ n < 2 ^ 63 ∧ Q (.int n) H') E
theorem call_lenO (d : Lnn X.prog X.w X.K X.mg X.base CX k C sp) (hr : Room j X.A) (hk : k + 1 ≤ j) (hx : Passes CX X E) : CallR X (.builtin "len") (cLenO C sp E) := by
  obtain ⟨f, fd, ps, F, at_, fn, B⟩ := d.ex
  intro pins s σ H xs us Q I r h
  obtain ⟨a, dx, fs, rfl, e, q⟩ := h
  obtain rfl := Vals.ref1 r
  obtain ⟨od, J⟩ := inst_of I e
  obtain ⟨m, hF⟩ := I.fr
  refine PySem.W.len_K hF I.ok.mod.kin J at_ fn (thn (run_in1 (us := [.ref a]) (vs := [.ref a]) F (hr.mono hk) B hx I (.cons rfl .nil) q) fun r s1 z => ?_)
  obtain ⟨r', H', I', rr, n, rfl, h0, h1, q'⟩ := z
  obtain ⟨t, rfl⟩ := rr
  exact ⟨⟨h0, h1⟩, .int n, H', I'.tok _, ⟨_, rfl⟩, q'⟩
/-- x <= y and its like, both of the class -/
structure Cpn (P : Program) (w : World) (K : PySem.W.Frag) (mg : Str → Option Value) (base : Heap) (CX : CXT) (k : Nat) (C : Addr) (op : CmpOp) (sp : Sp) : Prop where
  ex : ∃ (f : Addr) (fd : FuncData) (ps : List Str), FnOk P w K mg base CX k f fd ps sp ∧ PySem.W.findIn K (.ref C) (cmpInfo op).2.1 = some (some (.ref f)) ∧ PySem.W.isFn K (.ref f) = true ∧ Binds K fd ps []
theorem Mn.cpn {P : Program} {w : World} {K : PySem.W.Frag} {mg : Str → Option Value} {base : Heap} {m : Str} {op : CmpOp} (d : Mn P w K mg base CX k C m sp) (e : (cmpInfo op).2.1 = m) : Cpn P w K mg base CX k C op sp :=
  let ⟨f, fd, ps, F, M, B⟩ := d.ex
  ⟨f, fd, ps, F, e ▸ M.at_, M.fn, B⟩
def rCmpO (C : Addr) (sp : Sp) (E : XK) : R2 := fun x y H Q => ∃ a dx fs b dy gs, x = .ref a ∧ y = .ref b ∧ H a = some (.ins C dx fs) ∧ H b = some (.ins C dy gs) ∧ sp [.ref a, .ref b] H Q E
theorem op_cmpO {op : CmpOp} (hop : ∀ a b, compareOp op a b = richCompare op a b) (d : Cpn X.prog X.w X.K X.mg X.base CX k C op sp) (hr : Room j X.A) (hk : k ≤ j) (hx : Passes CX X E) : OpR X (compareOp op) (rCmpO C sp E) := by
  obtain ⟨f, fd, ps, F, at_, fn, B⟩ := d.ex
  intro pins s σ H x y v u Q I rx ry h
  obtain ⟨a, dx, fs, b, dy, gs, rfl, rfl, e1, e2, q⟩ := h
  cases rx
  cases ry
  obtain ⟨od, J⟩ := inst_of I e1
  obtain ⟨od', J'⟩ := inst_of I e2
  obtain ⟨m, hF⟩ := I.fr
  rw [hop]
  refine PySem.W.cmp_K (op := op) (tb := .ref C) hr.units0 hF I.ok.mod.kin J J'.type (by simp [PySem.W.notFirst]) at_ fn (thn (run_fn (us := [.ref a, .ref b]) (vs := [.ref a, .ref b]) F (hr.mono hk) B .nil hx I (.cons rfl (.cons rfl .nil)) q) fun r s1 z => ?_)
  obtain ⟨z', H', I', rz, qz⟩ := z
  exact SlX.cmpback rz ⟨z', H', I', rz, qz⟩
end
end UX

set_option Elab.async false
set_option linter.all false
set_option maxRecDepth 100000
set_option maxHeartbeats 4000000
/-! a dict comprehension whose keys are tuples -/
namespace UX
open PySem PySem.Spec PyProof.Rows L2 UL UV UW ClX
section
variable {X : Cx} {pins : List (Addr × Obj)} {σ : L2.St} {s : Shared}
/-- what D takes by a comprehension -/
theorem put_comp {H H' : Hp} {D : Addr} {y v : V} {u r : Value} {Q : Unit → Shared → Prop} {E : Value → Shared → Prop} (hu : X.A.units + 1 < cLine) (I : Inv X pins σ H s) (g : DPut H D y v H') (ry : RelV y u) (rv : RelV v r)
    (h : ∀ s', Inv X pins σ H' s' → Q () s') : wpAny (model X.prog X.w) X.A (dictSet D u r) Q E s := by
  rcases g with ⟨kvs, k, e, rfl, l, rfl⟩ | ⟨kvs, k, b, e, rfl, eb, l, rfl⟩
  · exact d_dictSet I e l ry rv h
  · cases (show u = Value.ref b from ry)
    obtain ⟨z, hd, xs, rel, dd⟩ := dt_of I.hok e
    have lp := length_putK kvs k v
    have lx := Paired.length rel
    refine wpAny_dictSet_heap (hsz := by rw [← lx]; exact z) (show X.A.units < cLine by omega) (key_of I.hok eb) dd fun h2 dd2 sb => h _ ?_
    obtain ⟨ob, es, ep, g1, g2, g3, g4, _, g6⟩ := dd2
    refine d_write I (show Mut (H D) by rw [e]; trivial) sb ⟨ob, g1⟩ ⟨by omega, hd, _, (rel.put k eb rv).keeps fun c ys ec => ?_, ob, es, ep, g1, g2, g3, g4, g6⟩
    rw [upd_ne fun z => by rw [z, e] at ec; cases ec]
    exact ec
/-- what the comprehension wants of its dict at D -/
def DT (J : It) (g : TG) (tt : TT) (tk tv : TE) (vs : List Nat) (σ : L2.St) (D : Addr) (Qd : Hp → Prop) (H1 : Hp) : Prop := ∃ W : Nat → Nat → Hp → Prop, (∃ m, W 0 m (upd H1 D (.dT []))) ∧ ∀ i m H, W i m H →
  (J.stop i H ∧ Qd H) ∨ (J.go i H ∧ ∃ Nx : Hp → Prop, (∀ H', Nx H' → ∃ m', m' < m ∧ W (i + 1) m' H') ∧ ∀ x H', J.yld i H x H' → g x (wipe σ vs) H' fun σ2 H2 => wipe σ2 vs = wipe σ vs ∧ tt σ2 H2 fun b H3 =>
    if b = true then tk σ2 H3 fun y H4 => tv σ2 H4 fun z H5 => ∃ H6, DPut H5 D y z H6 ∧ Nx H6 else Nx H3)
theorem DT.it {n : Nat} {G : Hp → Prop} {Y : Nat → Hp → V → Hp → Prop} {J : It} {g : TG} {tt : TT} {tk tv : TE} {vs : List Nat} {σ : L2.St} {D : Addr} {Qd : Hp → Prop} {H1 : Hp} (w : Walk J n G Y) (Pv : Nat → Hp → Prop) (h0 : Pv 0 (upd H1 D (.dT []))) (hG : ∀ i H, i ≤ n → Pv i H → G H)
    (hs : ∀ i x H H', i < n → Pv i H → Y i H x H' → g x (wipe σ vs) H' fun σ2 H2 => wipe σ2 vs = wipe σ vs ∧ tt σ2 H2 fun b H3 => if b = true then tk σ2 H3 fun y H4 => tv σ2 H4 fun z H5 => ∃ H6, DPut H5 D y z H6 ∧ Pv (i + 1) H6 else Pv (i + 1) H3)
    (hd : ∀ H, Pv n H → Qd H) : DT J g tt tk tv vs σ D Qd H1 := by
  refine ⟨fun i m H => m = n - i ∧ i ≤ n ∧ Pv i H, ⟨n, by simp, Nat.zero_le _, h0⟩, ?_⟩
  rintro i m H ⟨rfl, hi, p⟩
  have q := hG i H hi p
  by_cases hlt : i < n
  · exact .inr ⟨w.goes i H hlt q, Pv (i + 1), fun H' p' => ⟨n - (i + 1), by omega, rfl, hlt, p'⟩, fun x H' y => hs i x H H' hlt p (w.yields i H x H' hlt q y)⟩
  · have e : i = n := by omega
    subst e
    exact .inl ⟨w.stops H q, hd H p⟩
def tDcT (wi : TI) (g : TG) (tt : TT) (tk tv : TE) (vs : List Nat) : TE := fun σ H Q => wi σ H fun J H1 => ∀ D, H1 D = none → DT J g tt tk tv vs σ D (fun H2 => Q (.ref D) H2) H1
theorem pe_dcT {kx vx tg iter : Expr} {ifs : List Expr} {scope : Scope} {own : List (Str × Nat)} {pos : Pos} {wi : TI} {g : TG} {tt : TT} {tk tv : TE} (hu : X.A.units + 1 < cLine) (hc : X.calm = true) (hN : X.N.Nodup) (hi : PI X tg iter wi) (ok : BlkOk X.N X.env.scope scope own)
    (hg : ∀ (s : Shared) (H : Hp) (C : Addr) (cl : List (Str × Addr)) (fp : List Addr), PG (X.blk s H scope (compEnvC scope cl C X.env) fp) tg g)
    (ht : ∀ (s : Shared) (H : Hp) (C : Addr) (cl : List (Str × Addr)) (fp : List Addr), PTs (X.blk s H scope (compEnvC scope cl C X.env) fp) ifs tt)
    (hk : ∀ (s : Shared) (H : Hp) (C : Addr) (cl : List (Str × Addr)) (fp : List Addr), PE (X.blk s H scope (compEnvC scope cl C X.env) fp) kx tk)
    (he : ∀ (s : Shared) (H : Hp) (C : Addr) (cl : List (Str × Addr)) (fp : List Addr), PE (X.blk s H scope (compEnvC scope cl C X.env) fp) vx tv)
    (hs : ∀ x, foldedSetIterable iter X.env x = pure x := by intro _; rfl) : PE X (.DictComp kx vx [⟨tg, iter, ifs, 0⟩] scope pos) (tDcT wi g tt tk tv (own.map (·.2))) := by
  refine ⟨fun pins s0 σ H0 Q I0 h0 => ?_⟩
  rw [arm_eval_DictComp]
  have closes : ∀ y ∈ scope.names, y.2 = .free → ∃ c, X.env.cells.lookup y.1 = some c := fun y hy e => I0.ok.has _ (ok.free y hy e)
  refine wpAny_comprehension_free (use := none) rfl hs (closure_ok closes) ok.kind (fun y hy e => by rw [ok.uniq y hy, e]) (thn (hi.run pins s0 σ H0 _ I0 h0) fun _ s1 hx => thn hx fun _ s2 got => ?_)
  obtain ⟨it, fp, tn, J, H2, rfl, I2, T, at0, fpok, want⟩ := got
  refine wpAny_newObj_type (newEnv_comp ?_)
  have free : H2 s2.heap.objs.size = none := I2.hok.fresh (Nat.le_refl _)
  obtain ⟨W, ⟨m0, start⟩, turn⟩ := want _ free
  obtain ⟨D, eD⟩ : ∃ D, D = s2.heap.objs.size := ⟨_, rfl⟩
  rw [← eD] at free start turn ⊢
  obtain ⟨s3, e3⟩ : ∃ s3 : Shared, s3 = { s2 with heap := s2.heap.push { cls := .type "dict", data := .dict #[] } } := ⟨_, rfl⟩
  have hp3 : s3.heap = s2.heap.push { cls := .type "dict", data := .dict #[] } := by rw [e3]
  have I3 : Inv X pins σ (upd H2 D (.dT [])) s3 := by
    rw [e3, eD]
    exact I2.laid (t' := s2.toks) (fun _ _ e => Heap.get?_push_of_some _ e) (Nat.le_refl _) (dt_empty s2.heap I2.big)
  have fp3 : ∀ b ∈ fp, FpOk X pins (upd H2 D (.dT [])) b ∧ b < s3.heap.objs.size := fun b hb => by
    obtain ⟨o, eo, _⟩ := T.obj _ _ at0 b hb
    have lt := Heap.lt_size eo
    refine ⟨⟨?_, (fpok b hb).2⟩, ?_⟩
    · rw [upd_ne (Nat.ne_of_lt (eD ▸ lt))]; exact (fpok b hb).1
    · rw [hp3, Heap.size_push]; exact Nat.lt_succ_of_lt lt
  have tn3 : tn 0 s3.heap := T.keep _ _ _ at0 fun b _ o e => hp3 ▸ Heap.get?_push_of_some _ e
  have I4 := block_start I3 ok hN fp3
  have none3 : ∀ b ∈ fp, (upd H2 D (.dT [])) b = none := fun b hb => (fp3 b hb).1.1
  obtain ⟨L, eL⟩ : ∃ L, L = cellsFrom (s3.heap.objs.size + 1) scope.names (cloFrom X.env.cells scope.names []) := ⟨_, rfl⟩
  rw [← eL] at I4
  have pg := hg s3 (upd H2 D (.dT [])) s3.heap.objs.size L fp
  have pt := ht s3 (upd H2 D (.dT [])) s3.heap.objs.size L fp
  have pk := hk s3 (upd H2 D (.dT [])) s3.heap.objs.size L fp
  have pv := he s3 (upd H2 D (.dT [])) s3.heap.objs.size L fp
  show codeAny _ _ (.compStart (.DictComp kx vx [⟨tg, iter, ifs, 0⟩] scope pos) 0 (.ref it) (.ref D) (compEnvC scope (cellsFrom ((s2.heap.push { cls := .type "dict", data := .dict #[] }).objs.size + 1) scope.names (cloFrom X.env.cells scope.names [])) (s2.heap.push { cls := .type "dict", data := .dict #[] }).objs.size X.env))
    (compPost (model X.prog X.w) X.A X.xe none _ (.ref D) (s2.heap.push { cls := .type "dict", data := .dict #[] }).objs.size) { s2 with heap := pushCells ((s2.heap.push { cls := .type "dict", data := .dict #[] }).push { cls := .type "dict", data := .dict #[] }) scope.names }
  rw [← hp3, ← eL]
  obtain ⟨ce, ece⟩ : ∃ ce, ce = compEnvC scope L s3.heap.objs.size X.env := ⟨_, rfl⟩
  have cloc : ce.locals = s3.heap.objs.size := by rw [ece]; rfl
  rw [← ece] at I4 pg pt pk pv ⊢
  obtain ⟨s4, e4⟩ : ∃ s4 : Shared, s4 = { s2 with heap := pushCells (s3.heap.push { cls := .type "dict", data := .dict #[] }) scope.names } := ⟨_, rfl⟩
  have e4' : ({ s3 with heap := pushCells (s3.heap.push { cls := .type "dict", data := .dict #[] }) scope.names } : Shared) = s4 := by rw [e4, e3]
  rw [e4'] at I4
  rw [← e4]
  have tn4 : tn 0 s4.heap := T.keep _ _ _ tn3 fun b _ o e => by rw [e4]; exact pushCells_keeps _ _ _ _ (Heap.get?_push_of_some _ e)
  generalize hH3 : upd H2 D (.dT []) = H3 at I3 I4 pg pt pk pv start none3 fp3
  have still : ∀ {σ1 : L2.St} {H1 : Hp} {t : Shared}, Inv (X.blk s3 H3 scope ce fp) [] σ1 H1 t → (∀ b ∈ fp, H1 b = none) → ∀ b ∈ fp, FpOk (X.blk s3 H3 scope ce fp) [] H1 b := fun {σ1 H1 t} J1 nn b hb =>
    ⟨nn b hb, (J1.ok.exf b hb).1, J1.ok.exfs b hb, .inl hb, fun x c e => (J1.ok.exf b hb).2 x c e, fun p hp => absurd (show p ∈ ([] : List (Addr × Obj)) ++ [] from hp) (by simp)⟩
  suffices loop : codeAny (model X.prog X.w) X.A (.compLoop (.DictComp kx vx [⟨tg, iter, ifs, 0⟩] scope pos) 0 (.ref it) (.ref D) ce) (compPost (model X.prog X.w) X.A X.xe none (EP X pins σ Q) (.ref D) s3.heap.objs.size) s4 from
    codeAny_compStart_dict loop (T.self X.A 0 _ _ _ tn4 loop)
  refine compLoop_anyD (fun n t => ∃ i H1, Inv (X.blk s3 H3 scope ce fp) [] (wipe σ (own.map (·.2))) H1 t ∧ tn i t.heap ∧ (∀ b ∈ fp, H1 b = none) ∧ W i n H1) ?_ m0 ⟨0, H3, I4, tn4, none3, start⟩
  rintro n s5 ⟨i, H5, I5, tn5, none5, w5⟩
  rcases turn i n H5 w5 with ⟨stop, fin⟩ | ⟨go, Nx, less, step⟩
  · refine thnF (T.done (X.blk s3 H3 scope ce fp) rfl rfl rfl hc i [] s5 _ H5 (fun _ _ => False) I5 (still I5 none5) tn5 stop) fun r s6 ⟨er, I6⟩ => ?_
    subst er
    have I7 : Inv X pins σ H5 s6 := I3.call' (ch := fp) I6.os I6.base I6.hok I6.bare fun b hb => let q := (fp3 b hb).1; ⟨q.2.2.2.1, q.2.1, q.2.2.2.2.1, q.2.2.2.2.2⟩
    have nf : H5 s3.heap.objs.size = none := cloc ▸ (show H5 ce.locals = none from I6.free)
    obtain ⟨m, hn, _⟩ := I6.loc
    refine ⟨m, cloc ▸ (show s6.heap.Ns ce.locals m from hn), fun h2 sb => ?_⟩
    obtain ⟨f0, f1, f2, f3, f4, f5⟩ := I3.fpOk (Nat.le_refl _) nf
    exact ⟨.ref D, H5, I7.turned (t' := s6.toks) (fun b o hb e => (sb.2 b hb).trans e) f0 f1 f3 f4 f5, rfl, fin⟩
  · refine thnF (T.item (X.blk s3 H3 scope ce fp) rfl rfl rfl hc i [] s5 _ H5 (fun _ _ => False) I5 (still I5 none5) tn5 go) fun r s6 ⟨u, er, h6⟩ => ?_
    subst er
    refine thnF h6 fun _ s7 ⟨x, H7, I7, r7, y7, tn7, none7⟩ => ?_
    refine thnF (pg.run _ s7 _ H7 x u _ (I7.pinned (still I7 none7) (T.obj _ _ tn7)) r7 (step x H7 y7)) fun _ s8 ⟨σ8, H8, I8, hw, q8⟩ => ?_
    refine thnF (pt.run _ s8 σ8 H8 _ I8 q8) fun b s9 ⟨H9, I9, q9⟩ => ?_
    have close : ∀ {t : Shared} {H1 : Hp}, Inv (X.blk s3 H3 scope ce fp) ([] ++ pinsAt fp s7.heap) σ8 H1 t → Nx H1 → ∃ m, m < n ∧ ∃ i H1, Inv (X.blk s3 H3 scope ce fp) [] (wipe σ (own.map (·.2))) H1 t ∧ tn i t.heap ∧ (∀ b ∈ fp, H1 b = none) ∧ W i m H1 := fun {t H1} J1 nx => by
      obtain ⟨m1, lt, w1⟩ := less H1 nx
      have pinned : ∀ b ∈ fp, ∀ o, s7.heap.get? b = some o → t.heap.get? b = some o ∧ H1 b = none := fun b hb o e => let z := J1.pin (b, o) (List.mem_append_right _ (List.mem_append_right _ (mem_pinsAt hb e))); ⟨z.1, z.2.1⟩
      refine ⟨m1, lt, i + 1, H1, (J1.unpinned (pins := [])).weak (by rw [← hw, wipe_length]) (fun j v e => (wipe_some (hw ▸ e)).1), T.keep _ _ _ tn7 fun b hb o e => (pinned b hb o e).1, fun b hb => ?_, w1⟩
      obtain ⟨o, e, _⟩ := T.obj _ _ tn7 b hb
      exact (pinned b hb o e).2
    cases b with
    | false => exact close I9 (by simpa using q9)
    | true =>
      rw [if_pos rfl] at q9 ⊢
      refine thnF (pk.run _ s9 σ8 H9 _ I9 q9) fun _ s10 ⟨yk, H10, I10, r10, q10⟩ => ?_
      refine thnF (pv.run _ s10 σ8 H10 _ I10 q10) fun _ s11 ⟨yv, H11, I11, r11, H12, put, nx⟩ => ?_
      exact put_comp (X := X.blk s3 H3 scope ce fp) hu I11 put r10 r11 fun s12 I12 => close I12 nx
end
end UX

set_option Elab.async false
set_option linter.all false
set_option maxRecDepth 100000
set_option maxHeartbeats 4000000
/-! plain data at a later heap; data compared -/
namespace UX
open PySem PySem.Spec PyProof.Rows L2 UL UV UW ClX
variable {K : PySem.W.Frag} {H H' : Hp}
mutual
theorem dp_same (s : Same H H') : ∀ {v : V} {d : PyData}, Dp K H v d → Dp K H' v d
  | _, _, .non => .non
  | _, _, .bl b => .bl b
  | _, _, .int i => .int i
  | _, _, .str x => .str x
  | _, _, .lst h a => .lst (UL.Same.sqL s h) (dpa_same s a)
  | _, _, .tup h a => .tup (UL.Same.sqT s h) (dpa_same s a)
theorem dpa_same (s : Same H H') : ∀ {vs : List V} {ds : List PyData}, DpAll K H vs ds → DpAll K H' vs ds
  | _, _, .nil => .nil
  | _, _, .cons h r => .cons (dp_same s h) (dpa_same s r)
end
theorem dpa_strs : ∀ {xs : List Str}, DpAll K H (xs.map V.str) (xs.map PyData.str)
  | [] => .nil
  | x :: r => .cons (.str x) dpa_strs
theorem dpa_ints : ∀ {xs : List Int}, DpAll K H (xs.map V.int) (xs.map PyData.int)
  | [] => .nil
  | x :: r => .cons (.int x) dpa_ints
/-- may stand in a comparison, at most n deep -/
def Sh (n : Nat) (d : PyData) : Prop := PyData.canLay0 d = true ∧ PyData.depth d ≤ n
theorem Sh.shaped {n : Nat} {d : PyData} (h : Sh n d) (hn : n ≤ 64) : SeqAt.shaped d = true := by
  show (_ && _) = true
  rw [h.1, decide_eq_true (Nat.le_trans h.2 hn)]; rfl
theorem Sh.int (i : Int) : Sh 0 (.int i) := ⟨by simp [PyData.canLay0], by simp [PyData.depth]⟩
theorem Sh.non : Sh 0 .none := ⟨by simp [PyData.canLay0], by simp [PyData.depth]⟩
theorem Sh.bl (b : Bool) : Sh 0 (.bool b) := ⟨by simp [PyData.canLay0], by simp [PyData.depth]⟩
theorem Sh.str {x : Str} (h : PyData.strOk x = true) : Sh 0 (.str x) := ⟨by simpa [PyData.canLay0] using h, by simp [PyData.depth]⟩
theorem Sh.all {n : Nat} : ∀ {ds : List PyData}, (∀ d ∈ ds, Sh n d) → PyData.canLayAll0 ds = true ∧ PyData.depthAll ds ≤ n
  | [], _ => by simp [PyData.canLayAll0, PyData.depthAll]
  | d :: r, h => by
    have h1 := h d List.mem_cons_self
    have h2 := Sh.all (n := n) (ds := r) fun x hx => h x (List.mem_cons_of_mem _ hx)
    simp only [PyData.canLayAll0, PyData.depthAll, h1.1, h2.1, Bool.and_self, true_and]
    have := h1.2
    have := h2.2
    omega
theorem Sh.tup {n : Nat} {ds : List PyData} (h : ∀ d ∈ ds, Sh n d) : Sh (n + 1) (.tuple ds) := by
  have h := Sh.all h
  refine ⟨by rw [PyData.canLay0]; exact h.1, by rw [PyData.depth]; have := h.2; omega⟩
theorem Sh.lst {n : Nat} {ds : List PyData} (h : ∀ d ∈ ds, Sh n d) : Sh (n + 1) (.list ds) := by
  have h := Sh.all h
  refine ⟨by rw [PyData.canLay0]; exact h.1, by rw [PyData.depth]; have := h.2; omega⟩
theorem Sh.mono {n m : Nat} {d : PyData} (h : Sh n d) (l : n ≤ m) : Sh m d := ⟨h.1, Nat.le_trans h.2 l⟩
theorem sh_strs {xs : List Str} (h : ∀ x ∈ xs, PyData.strOk x = true) : ∀ d ∈ xs.map PyData.str, Sh 0 d := fun d hd => by
  obtain ⟨x, hx, rfl⟩ := List.mem_map.mp hd
  exact Sh.str (h x hx)
theorem sh_ints {xs : List Int} : ∀ d ∈ xs.map PyData.int, Sh 0 d := fun d hd => by
  obtain ⟨x, _, rfl⟩ := List.mem_map.mp hd
  exact Sh.int x
/-- == and != of data -/
theorem eqDD {n m : Nat} {x y : V} {d e : PyData} {Q : VK} (h1 : Dp K H x d) (h2 : Dp K H y e) (s1 : Sh n d) (s2 : Sh m e) (hn : n ≤ 64 := by decide) (hm : m ≤ 64 := by decide) (q : Q (.bl (PyData.eqv d e)) H) : rEqA K x y H Q := .inr ⟨d, e, h1, h2, s1.shaped hn, s2.shaped hm, q⟩
theorem neDD {n m : Nat} {x y : V} {d e : PyData} {Q : VK} (h1 : Dp K H x d) (h2 : Dp K H y e) (s1 : Sh n d) (s2 : Sh m e) (hn : n ≤ 64 := by decide) (hm : m ≤ 64 := by decide) (q : Q (.bl (!PyData.eqv d e)) H) : rNeA K x y H Q := .inr ⟨d, e, h1, h2, s1.shaped hn, s2.shaped hm, q⟩
theorem eqv_same {n : Nat} {d : PyData} (h : Sh n d) : PyData.eqv d d = true := SeqAt.eqv_refl d h.1
theorem cut_from (xs : List V) (n : Nat) : cutV xs (some (n : Int)) none = xs.drop n := by
  unfold cutV
  rw [HT.sIx_nat, HT.sIx_none]
  by_cases h : n ≤ xs.length
  · rw [Nat.min_eq_left h]; exact List.take_of_length_le (by rw [List.length_drop]; omega)
  · rw [Nat.min_eq_right (by omega), List.drop_eq_nil_of_le (Nat.le_refl _), List.drop_eq_nil_of_le (by omega)]; simp
theorem cut_to (xs : List V) (n : Nat) : cutV xs none (some (n : Int)) = xs.take n := by
  unfold cutV
  rw [HT.sIx_nat, HT.sIx_none, List.drop_zero, Nat.sub_zero]
  by_cases h : n ≤ xs.length
  · rw [Nat.min_eq_left h]
  · rw [Nat.min_eq_right (by omega), List.take_of_length_le (Nat.le_refl _), List.take_of_length_le (by omega)]
/-- two lists put together -/
theorem catL {H : Hp} {Q : VK} {a b : Addr} {xs ys : List V} (ha : H a = some (.lst xs)) (hb : H b = some (.lst ys)) (hl : xs.length + ys.length ≤ sizeLine) (q : ∀ r, H r = none → Q (.ref r) (upd H r (.lst (xs ++ ys)))) : rAddA K (.ref a) (.ref b) H Q :=
  .inr (.inr (.inr ⟨a, b, xs, ys, rfl, rfl, ha, hb, hl, q⟩))
/-! a block in two parts, by what holds between them -/
section
variable {t1 t2 t3 t4 t5 tb : TS} {D : Ends} {σ : L2.St} {H : Hp}
theorem seq_cut (M : L2.St → Hp → Prop) (h1 : ∀ tl : L2.St → Hp → Prop, (∀ σ H, M σ H → tl σ H) → t1 { D with nx := tl } σ H) (h2 : ∀ σ H, M σ H → tb D σ H) : tSeq t1 tb D σ H := h1 (tb D) h2
theorem seq_cut2 (M : L2.St → Hp → Prop) (h1 : ∀ tl : L2.St → Hp → Prop, (∀ σ H, M σ H → tl σ H) → tSeq t1 t2 { D with nx := tl } σ H) (h2 : ∀ σ H, M σ H → tb D σ H) : tSeq t1 (tSeq t2 tb) D σ H := h1 (tb D) h2
theorem seq_cut3 (M : L2.St → Hp → Prop) (h1 : ∀ tl : L2.St → Hp → Prop, (∀ σ H, M σ H → tl σ H) → tSeq t1 (tSeq t2 t3) { D with nx := tl } σ H) (h2 : ∀ σ H, M σ H → tb D σ H) : tSeq t1 (tSeq t2 (tSeq t3 tb)) D σ H := h1 (tb D) h2
theorem seq_cut4 (M : L2.St → Hp → Prop) (h1 : ∀ tl : L2.St → Hp → Prop, (∀ σ H, M σ H → tl σ H) → tSeq t1 (tSeq t2 (tSeq t3 t4)) { D with nx := tl } σ H) (h2 : ∀ σ H, M σ H → tb D σ H) : tSeq t1 (tSeq t2 (tSeq t3 (tSeq t4 tb))) D σ H := h1 (tb D) h2
theorem seq_cut5 (M : L2.St → Hp → Prop) (h1 : ∀ tl : L2.St → Hp → Prop, (∀ σ H, M σ H → tl σ H) → tSeq t1 (tSeq t2 (tSeq t3 (tSeq t4 t5))) { D with nx := tl } σ H) (h2 : ∀ σ H, M σ H → tb D σ H) : tSeq t1 (tSeq t2 (tSeq t3 (tSeq t4 (tSeq t5 tb)))) D σ H := h1 (tb D) h2
end
end UX

set_option Elab.async false
set_option linter.all false
set_option maxRecDepth 100000
set_option maxHeartbeats 4000000
/-! iter(a list); list(o), where o's own __iter__ hands back an iterator over a list and o has its own __len__ -/
namespace UX
open PySem PySem.Spec PyProof.Rows L2 UL UV UW ClX
section
variable {X : Cx} {k j : Nat} {C fi fl a dx : Addr} {fs : List (Str × V)} {spI spL : Sp} {pins : List (Addr × Obj)} {σ : L2.St} {H : Hp} {s : Shared}
def rIterL (K : PySem.W.Frag) : List V → Hp → VK → Prop := fun xs H Q => ∃ (l : Addr) (zs : List V), xs = [.ref l] ∧ SqL K H l zs ∧ ∀ it, H it = none → Q (.ref it) (upd H it (ItO l it 0))
theorem call_iterLL : CallR X (.builtin "iter") (rIterL X.K) := call_iterL
/-- a list's iterator at its end -/
theorem lst_end {A : Around} {E' : Value → Shared → Prop} {it t : Addr} {i : Nat} {items : Array Value} {Q : Option Value → Shared → Prop} (hh : A.handled = none) (hit : s.heap.IsListIter it t i) (ht : s.heap.IsList t items) (hx : items[i]? = none)
    (hQ : ∀ h', Heap.ExtBut it s.heap h' → (∃ o, h'.get? it = some o) → Q none { s with heap := h' }) : wpAny (model X.prog X.w) A (pyNext (.ref it)) Q E' s := by
  have ⟨o, ho, hc, hd⟩ := hit; have ⟨ol, hol, _, nl, hdl⟩ := ht
  have e0 : ¬ ((Value.ref t == Value.none) = true) := Bool.false_ne_true
  unfold pyNext
  refine wpAny_bind (wpAny_attempt (wpAny_callSpecial?_slot (name := Str.ofString "__next__") hit.typeIs slot_listiter_next (wpAny_call_entry slot_listiter_next hit.typeIs entry_listiter_next ?_ (args_listiter_next _))))
  refine wpAny_bind (m := field (.ref it) 0) (wpAny_field ho hd (x := .ref t) rfl ?_)
  show wpAny _ _ (if (Value.ref t == Value.none) = true then _ else _) _ _ s; rw [if_neg e0]
  refine wpAny_bind (m := field (.ref it) 1) (wpAny_field ho hd (x := .int i 0) rfl (wpAny_bind (m := seqItems? (.ref t)) (wpAny_seqItems hol hdl ?_)))
  simp only [Int.toNat_natCast, hx]
  refine wpAny_bind (wpAny_rule (wpAny_bind (wpAny_setField ho hd (by simp) (wpAny_bind (m := newExc (.type "StopIteration") []) ?_))))
  simp only [newExc, newTuple]
  refine wpAny_bind (wpAny_newObj_type (wpAny_bind (m := firstArgMember _ _) (wpAny_of_eq (a := Value.none) (by first | rfl | (simp only [firstArgMember]; rfl)) (wpAny_newObj_type ?_ (by size_fits)))) (by size_fits))
  simp only [raiseNew]; refine wpAny_bind (wpAny_handled ?_); rw [show A.in1.handled = none from hh]
  refine wpAny_bind (wpAny_pure (wpAny_throw ?_)); refine wpAny_bind (wpAny_isInstance (T := "StopIteration") (b := true) ⟨_, Heap.get?_push_size _ rfl, rfl⟩ isSubtype_stop (wpAny_pure (hQ _ (((Heap.SameBut.update ..).extBut.push _).push _) ?_)))
  exact ⟨_, Heap.get?_push_of_some _ (Heap.get?_push_of_some _ (Heap.get?_update_self _ ho (by obtain ⟨c, d, dt, sl⟩ := o; simp only at hd; subst hd; rfl)))⟩
/-- the next item of a list's iterator -/
theorem next_lst {A : Around} {E' : Value → Shared → Prop} {it t : Addr} {i : Nat} {items : Array Value} {x : Value} {Q : Option Value → Shared → Prop} (ho : s.heap.get? it = some (GNX.itObj t i)) (ht : s.heap.IsList t items) (hx : items[i]? = some x)
    (hQ : ∀ h', h'.get? it = some (GNX.itObj t (i + 1)) → Heap.SameBut it s.heap h' → Q (some x) { s with heap := h' }) : wpAny (model X.prog X.w) A (pyNext (.ref it)) Q E' s := by
  have hit : s.heap.IsListIter it t i := ⟨_, ho, rfl, rfl⟩
  unfold pyNext
  refine wpAny_bind (wpAny_attempt (wpAny_callSpecial?_slot (name := Str.ofString "__next__") hit.typeIs slot_listiter_next (wpAny_call_entry slot_listiter_next hit.typeIs entry_listiter_next ?_ (args_listiter_next _))))
  refine wpAny_mono (GNX.next_item (Q := fun v s' => v = x ∧ Q (some x) s') ho ht hx fun h' e sb => ⟨rfl, hQ h' e sb⟩) (fun fin s' h => ?_) fun _ _ z => z
  obtain ⟨v, rfl, rfl, q⟩ := h
  exact ⟨_, rfl, wpAny_pure q⟩
/-- the list's items go onto the list at q -/
theorem push_lst {A1 : Around} {q it t : Addr} {zs : List V} {Rs : Result → Shared → Prop} (hA : A1.in1.handled = none) (hq0 : q ≠ it) (hne : t ≠ it) (hz : zs.length ≤ sizeLine)
    (h : ∀ s' H', Inv X pins σ (upd (upd H' it Gone) q (.lst zs)) s' → (∀ b, b ≠ it → b ≠ q → H' b = H b) → Rs (.ok (.ret .none)) s') (ht : ∀ H', (∀ b, b ≠ it → b ≠ q → H' b = H b) → SqL X.K H' t zs) :
    ∀ (d i : Nat) (s : Shared) (H' : Hp), i + d = zs.length → (∀ b, b ≠ it → b ≠ q → H' b = H b) → Inv X pins σ H' s → H' q = some (.lst (zs.take i)) → H' it = some (ItO t it i) → codeAny (model X.prog X.w) A1 (.builtin "list.extend.loop" ⟨[.ref q, .ref it, .none], []⟩) Rs s := by
  intro d
  induction d with
  | zero =>
    intro i s H' e same I hq hi
    obtain ⟨its, rv, pl, _⟩ := I.list (ht H' same)
    have hlen := rv.length
    have hit : s.heap.IsListIter it t i := ⟨_, itO_get I hi, rfl, rfl⟩
    refine codeAny_builtin PySem.F.entry_extend_loop ?_; rw [Around.under_plainId PySem.F.plain_extend_loop _]
    refine wpAny_bind (m := pyNext (.ref it)) (lst_end hA hit pl.isList (by simp; omega) fun h' eb ex => wpAny_pure ?_)
    have I2 : Inv X pins σ (upd H' it Gone) { s with heap := h', toks := s.toks } := I.write (by rw [hi]; exact trivial) (.inl rfl) (fun b u n z => eb b u n z) ex ⟨trivial, ex, fun _ _ _ _ => trivial⟩
    have hq2 : upd H' it Gone q = some (.lst zs) := by rw [upd_ne hq0, hq, show i = zs.length by omega, List.take_length]
    exact h _ H' (by rw [upd_self hq2]; exact I2) same
  | succ d ih =>
    intro i s H' e same I hq hi
    obtain ⟨its, rv, pl, _⟩ := I.list (ht H' same)
    have hlen := rv.length
    have lt : i < zs.length := by omega
    obtain ⟨u, hu, ru⟩ := rv.get (i := i) (x := zs[i]) (by simp [lt])
    have hit : s.heap.IsListIter it t i := ⟨_, itO_get I hi, rfl, rfl⟩
    refine codeAny_builtin PySem.F.entry_extend_loop ?_; rw [Around.under_plainId PySem.F.plain_extend_loop _]
    refine wpAny_bind (m := pyNext (.ref it)) (next_lst (itO_get I hi) pl.isList (x := u) (by simpa using hu) fun h' st' sb => ?_)
    have I2 : Inv X pins σ (upd H' it (ItO t it (i + 1))) { s with heap := h', toks := s.toks } := I.write (by rw [hi]; exact trivial) (.inl rfl) (fun b u n z => (sb.2 b n).trans z) ⟨_, st'⟩ (itO_ok st')
    have hq2 : upd H' it (ItO t it (i + 1)) q = some (.lst (zs.take i)) := by rw [upd_ne hq0, hq]
    obtain ⟨z, its2, k2, r2, hl2, e2⟩ := I2.lstM hq2
    have hl3 : its2.length = i := by rw [← hl2, List.length_take]; omega
    have ht2 : zs.take (i + 1) = zs.take i ++ [zs[i]] := by simp
    refine wpAny_bind (m := updateSeq q (·.push u)) (wpAny_updateSeq e2 rfl (wpAny_pure ⟨plainId_quiet PySem.F.plain_extend_loop _, ?_⟩) (by rw [List.size_toArray]; omega) (by show (its2.toArray.push u).size ≤ sizeLine + 1; rw [Array.size_push, List.size_toArray]; omega))
    have I3 := I2.lset (f := (·.push u)) (its' := its2 ++ [u]) (ys := zs.take i ++ [zs[i]]) (t' := s.toks) hq2 e2 (by simp) (r2.append (.cons ru .nil)) (by rw [← ht2, List.length_take]; omega)
    refine ih (i + 1) _ _ (by omega) (fun b n1 n2 => by rw [upd_ne n2, upd_ne n1]; exact same b n1 n2) I3 (by rw [upd_same, ht2]) (by rw [upd_ne (Ne.symm hq0), upd_same])
/-! ### list(o) -/
structure IterR (K : PySem.W.Frag) (C fi fl : Addr) : Prop where
  it : PySem.W.findIn K (.ref C) "__iter__" = some (some (.ref fi))
  is : PySem.W.isFn K (.ref fi) = true
  ln : PySem.W.findIn K (.ref C) "__len__" = some (some (.ref fl))
  ls : PySem.W.isFn K (.ref fl) = true
theorem next_lt : typeLookup (.type "list_iterator") "__next__" = pure (some (.builtin "list_iterator.__next__")) := by rw [typeLookup_type, builtinLookup_eq_fast]; kernel_rfl
/-- the length is asked, and nothing comes of it -/
theorem hint_len {A : Around} {E : XK} {R : Bool → Shared → Prop} (c : IterR X.K C fi fl) (FL : FnR X.prog X.w X.K X.mg X.base CX0 k fl spL) (hr : Room k A.in1) (e0 : Env0 X.prog X.w X.K X.mg X.base A.in1 X.stack s H) (I : Inv X pins σ H s) (J : ∃ od, PySem.W.InstAt s.heap a (PySem.W.instObj C dx) C (some od))
    (hl : spL [.ref a] H (fun w H2 => H2 = H ∧ ∃ n : Nat, w = .int n ∧ n ≤ sizeLine) E) (q : ∀ b s', Inv X pins σ H s' → R b s') {E' : Value → Shared → Prop} : wpAny (model X.prog X.w) A (Builtin.List.listLengthHint (.ref a)) R E' s := by
  obtain ⟨od, J⟩ := J
  obtain ⟨m0, hF⟩ := I.fr
  unfold Builtin.List.listLengthHint
  refine wpAny_bind (wpAny_bind (J.type.here ((PySem.W.looks_findIn I.kIn c.ln).here (PySem.W.KFB.if_not rfl ?_))))
  refine wpAny_ite_split (fun _ => ?_) (fun h => absurd rfl h)
  refine wpAny_bind (wpAny_rule (wpAny_bind (wpAny_attempt (PySem.W.len_K hF I.ok.mod.kin J c.ln c.ls (wpAny_call (codeAny_mono (FL A.in1 X.stack s H [.ref a] [.ref a] _ E hr e0 (.cons rfl .nil) hl) fun r s' hq => ?_))))))
  cases r with
  | error e => exact hq.elim
  | ok fl' =>
    cases fl' with
    | next => exact hq.elim
    | brk => exact hq.elim
    | cont => exact hq.elim
    | ret u =>
      obtain ⟨v, H', I', rv, rfl, n, rfl, hn⟩ := I.after hq
      obtain ⟨t, rfl⟩ := rv
      have hs := sizeLine_eq
      refine ⟨⟨by omega, by omega⟩, ?_⟩
      refine wpAny_bind (wpAny_pure ?_)
      show wpAny _ _ (if Builtin.List.listTooLong ((n : Int)).toNat = true then _ else _) _ _ _
      rw [if_neg (by show ¬ decide (((n : Int)).toNat > sizeLine) = true; simp; omega)]
      exact wpAny_pure (q _ _ (I'.tok _))
def rListR (K : PySem.W.Frag) (C : Addr) (spI spL : Sp) : List V → Hp → VK → Prop := fun xs H Q => ∃ a dx fs, xs = [.ref a] ∧ H a = some (.ins C dx fs) ∧ ∀ q, H q = none →
  spI [.ref a] (upd H q (.lst [])) (fun v H1 => ∃ it t zs, v = .ref it ∧ H1 a = some (.ins C dx fs) ∧ H1 q = some (.lst []) ∧ H1 it = some (ItO t it 0) ∧ SqL K H1 t zs ∧ it ≠ t ∧ q ≠ t ∧ zs.length ≤ sizeLine ∧
    spL [.ref a] H1 (fun w H2 => H2 = H1 ∧ ∃ n : Nat, w = .int n ∧ n ≤ sizeLine) E0 ∧ Q (.ref q) (upd (upd H1 it Gone) q (.lst zs))) E0
theorem call_listR (c : IterR X.K C fi fl) (FI : FnR X.prog X.w X.K X.mg X.base CX0 k fi spI) (FL : FnR X.prog X.w X.K X.mg X.base CX0 k fl spL) (hr : Room (k + 3) X.A) : CallR X (.type "list") (rListR X.K C spI spL) := by
  intro pins s σ H xs us Q I rv h
  obtain ⟨a, dx, fs, e, ha, hq⟩ := h
  subst e
  obtain ⟨u, rfl, ru⟩ := rv.one
  cases ru
  refine callType_codes (Q₁ := fun obj s₁ => obj = .ref s.heap.objs.size ∧ s₁ = { s with heap := s.heap.push { cls := .type "list", data := .seq #[] } }) PySem.F.called_list (PySem.F.typeCall_list_1 _) PySem.F.entry_list_init (code_list_new _ ⟨rfl, rfl⟩) fun obj s₁ h₁ => ?_
  obtain ⟨e1, e2⟩ := h₁
  subst e1 e2
  have fr : H s.heap.objs.size = none := I.fresh
  have hS : (s.heap.push { cls := .type "list", data := .seq #[] }).get? s.heap.objs.size = some { cls := .type "list", data := .seq #[] } := Heap.get?_push_size _ rfl
  refine ⟨⟨_, hS, rfl⟩, PySem.F.args_list_init_2 _ _, ?_⟩
  have I1 := Inv.lnew (its := []) (ys := []) (t' := s.toks) I .nil (Nat.zero_le _)
  show wpAny _ _ (Builtin.List.listItems (.ref s.heap.objs.size) >>= fun old => Builtin.List.listUpdate (.ref s.heap.objs.size) (fun _ => #[]) >>= fun _ => letGo old.toList.reverse >>= fun _ => Builtin.List.listExtendWith (.ref s.heap.objs.size) (.ref a) .none) _ _ _
  refine wpAny_bind (m := Builtin.List.listItems _) ?_; unfold Builtin.List.listItems; refine wpAny_bind (wpAny_seqItems hS rfl (wpAny_pure ?_))
  refine wpAny_bind (m := updateSeq s.heap.objs.size (fun _ => #[])) (wpAny_updateSeq hS rfl (wpAny_bind (wpAny_letGo ?_)))
  have I2 := I1.lset (f := fun _ => #[]) (its := []) (its' := []) (ys := []) (t' := s.toks) upd_same hS rfl .nil (Nat.zero_le _)
  rw [upd_upd] at I2
  have nq : a ≠ s.heap.objs.size := ne_of_none ha fr
  have ha2 : upd H s.heap.objs.size (.lst []) a = some (.ins C dx fs) := by rw [upd_ne nq]; exact ha
  obtain ⟨od, J⟩ := inst_of I2 ha2
  obtain ⟨m0, hF⟩ := I2.fr
  unfold Builtin.List.listExtendWith
  refine wpAny_bind (J.type.here ?_)
  have h1 : Builtin.List.listSameRef (.ref s.heap.objs.size) (.ref a) = false := by simp [Builtin.List.listSameRef, Ne.symm nq]
  have h2 : (Value.ref C == Value.type "list") = false := rfl
  have h3 : (Value.ref C == Value.type "tuple") = false := rfl
  simp only [h1, h2, h3, Bool.or_false, Bool.false_eq_true, if_false]
  have hsp := hq _ fr
  have hr2 : Room (k + 1) X.A.in1.in1 := (Room.in1 (k := k + 1) (Room.in1 (k := k + 2) hr))
  refine wpAny_bind (PySem.W.owit_iter hF I2.ok.mod.kin J c.it c.is (wpAny_call (codeAny_mono (FI X.A.in1.in1 X.stack _ _ [.ref a] [.ref a] _ E0 (hr2.mono (Nat.le_succ k)) I2.env0.in1.in1 (.cons rfl .nil) hsp) fun r s' hr' => ?_)))
  match r, hr' with
  | .error e, hr' => exact hr'.elim
  | .ok .next, hr' | .ok .brk, hr' | .ok .cont, hr' => exact hr'.elim
  | .ok (.ret u), hr' =>
    obtain ⟨v, H', I', rv2, it, t, zs, ev, ha', hq', hi', ht', hne, nqt, hz, hlen, q⟩ := I2.after hr'
    subst ev
    cases rv2
    have hit : s'.heap.IsListIter it t 0 := ⟨_, itO_get I' hi', rfl, rfl⟩
    have nqi : s.heap.objs.size ≠ it := ne_of hq' hi' (fun z => nomatch z)
    unfold PySem.W.OwitIt
    refine wpAny_specialOf hit.typeIs next_lt ?_
    obtain ⟨od', J'⟩ := inst_of I' ha'
    refine wpAny_bind (wpAny_holding (hint_len c FL hr2.in1 I'.env0.in1.in1.in1 I' ⟨od', J'⟩ hlen fun b s'' I' => ?_))
    have go : ∀ s2, Inv X pins σ H' s2 → codeAny (model X.prog X.w) X.A.in1 (.builtin "list.extend.loop" ⟨[.ref s.heap.objs.size, .ref it, .none], []⟩) (wants (fun r s₂ => r = .none ∧ EP X pins σ Q (.ref s.heap.objs.size) s₂) X.xe) s2 := fun s2 J2 => by
      refine push_lst (A1 := X.A.in1) (zs := zs) (t := t) (H := H') hr.hd nqi (Ne.symm hne) hz (fun s3 H3 I3 sm => ⟨rfl, .ref s.heap.objs.size, _, I3, rfl, ?_⟩) (fun H3 sm => ?_) zs.length 0 s2 H' (by omega) (fun _ _ _ => rfl) J2 hq' hi'
      · rcases ht' with (z | ⟨o, z⟩) | z
        · exact .inl (.inl ((sm t (Ne.symm hne) (Ne.symm nqt)).trans z))
        · exact .inl (.inr ⟨o, (sm t (Ne.symm hne) (Ne.symm nqt)).trans z⟩)
        · exact .inr z
      · have e : upd (upd H3 it Gone) s.heap.objs.size (.lst zs) = upd (upd H' it Gone) s.heap.objs.size (.lst zs) := by
          funext b
          by_cases e1 : b = s.heap.objs.size
          · rw [e1, upd_same, upd_same]
          · rw [upd_ne e1, upd_ne e1]
            by_cases e2 : b = it
            · rw [e2, upd_same, upd_same]
            · rw [upd_ne e2, upd_ne e2, sm b e2 e1]
        rw [e]
        exact q
    refine wpAny_ite_split (fun _ => ?_) (fun _ => wpAny_pure ⟨plainId_quiet PySem.F.plain_extend_loop _, go _ I'⟩)
    -- a place is made and given back
    obtain ⟨z, its, k3, r3, hl3, e3⟩ := I'.lstM hq'
    cases r3
    refine wpAny_bind (wpAny_rule (wpAny_bind (m := updateSeq _ (·.push .none) >>= fun _ => updateSeq _ (·.pop)) (wpAny_bind (wpAny_updateSeq e3 rfl ?_))))
    have I3 := I'.lset (f := (·.push Value.none)) (its' := [Value.none]) (ys := [.non]) (t' := s''.toks) hq' e3 (by simp) (.cons rfl .nil) (by rw [List.length_singleton, sizeLine_eq]; decide)
    obtain ⟨z4, its4, k4, r4, hl4, e4⟩ := I3.lstM upd_same
    obtain ⟨u4, rfl, ru4⟩ := r4.one
    refine wpAny_updateSeq e4 rfl ?_ (by show 1 ≤ sizeLine; rw [sizeLine_eq]; decide) (by show 0 ≤ sizeLine + 1; exact Nat.zero_le _)
    have I4 := I3.lset (f := (·.pop)) (its := [u4]) (its' := []) (ys := []) (t' := s''.toks) upd_same e4 (by rfl) .nil (Nat.zero_le _)
    rw [upd_upd, upd_self hq'] at I4
    exact wpAny_pure ⟨plainId_quiet PySem.F.plain_extend_loop _, go _ I4⟩
end
end UX

set_option Elab.async false
set_option linter.all false
set_option maxRecDepth 100000
set_option maxHeartbeats 4000000
/-! rules with the constants named; own + & and its like; lists of ints in order -/
namespace UX
open PySem PySem.Spec PyProof.Rows L2 UL UV UW ClX
section
variable {X : Cx} {CX : CXT} {k j : Nat} {C : Addr} {sp spI spL : Sp} {E : XK} {fi fl : Addr}
theorem rm65 {j : Nat} {A : Around} (hr : Room j A) : A.units + 65 < cLine := by have := hr.un; omega
theorem rm0 {j : Nat} {A : Around} (hr : Room j A) : A.units < cLine := by have := hr.un; omega
theorem op_inDK (K : PySem.W.Frag) (h : X.K = K) (hu : X.A.units + 65 < cLine) : OpR X (compareOp .In) (rInD K) := h ▸ op_inD hu
theorem op_ninDK (K : PySem.W.Frag) (h : X.K = K) (hu : X.A.units + 65 < cLine) : OpR X (compareOp .NotIn) (rNotInD K) := h ▸ op_notInD hu
theorem op_ltTK (K : PySem.W.Frag) (h : X.K = K) (hu : X.A.units < cLine) : OpR X (compareOp .Lt) (rLtT K) := h ▸ op_ltT hu
theorem call_listRK (K : PySem.W.Frag) (h : X.K = K) (c : IterR X.K C fi fl) (FI : FnR X.prog X.w X.K X.mg X.base CX0 k fi spI) (FL : FnR X.prog X.w X.K X.mg X.base CX0 k fl spL) (hr : Room j X.A) (hk : k + 3 ≤ j) : CallR X (.type "list") (rListR K C spI spL) := h ▸ call_listR c FI FL (hr.mono hk)
theorem call_listK (K : PySem.W.Frag) (h : X.K = K) : CallR X (.type "list") (cList K) := h ▸ call_listA
theorem call_tupK (K : PySem.W.Frag) (h : X.K = K) : CallR X (.type "tuple") (cTup K) := h ▸ call_tupA
theorem op_addK (K : PySem.W.Frag) (h : X.K = K) : OpR X (binaryOp .Add) (rAddA K) := h ▸ op_addA
theorem op_mulK (K : PySem.W.Frag) (h : X.K = K) : OpR X (binaryOp .Mult) (rMulA K) := h ▸ op_mulA
theorem pe_fldK (K : PySem.W.Frag) (h : X.K = K) {e : Expr} {f : Str} {pos : Pos} {ta : TE} (he : PE X e ta) (hab : attributeBase e f X.env (eval e X.env) = eval e X.env) : PE X (.Attribute e f pos) (tFld K ta f) := h ▸ pe_fld he hab
/-- k in d, k not in d -/
def rDIn (n : Bool) : R2 := fun x y H Q => ∃ a o, y = .ref a ∧ DGet H a x o ∧ Q (.bl (if n = true then !o.isSome else o.isSome)) H
theorem op_din (hr : Room j X.A) : OpR X (compareOp .In) (rDIn false) := by
  intro pins s σ H x y v u Q I rx ry h
  obtain ⟨a, o, rfl, g, q⟩ := h
  cases ry
  exact d_in (by have := hr.un; omega) I g rx fun s' I' => ⟨.bl o.isSome, H, I', rfl, q⟩
theorem op_dnin (hr : Room j X.A) : OpR X (compareOp .NotIn) (rDIn true) := by
  intro pins s σ H x y v u Q I rx ry h
  obtain ⟨a, o, rfl, g, q⟩ := h
  cases ry
  exact d_notIn (by have := hr.un; omega) I g rx fun s' I' => ⟨.bl (!o.isSome), H, I', rfl, q⟩
/-- an own binary operator of two of the class -/
def rBinO (C : Addr) (sp : Sp) (E : XK) : R2 := fun x y H Q => ∃ a dx fs b dy gs, x = .ref a ∧ y = .ref b ∧ H a = some (.ins C dx fs) ∧ H b = some (.ins C dy gs) ∧ sp [.ref a, .ref b] H Q E
theorem op_binO {op : Operator} (d : BOn X.prog X.w X.K X.mg X.base CX k C op sp) (hr : Room j X.A) (hk : k ≤ j) (hx : Passes CX X E) : OpR X (binaryOp op) (rBinO C sp E) := by
  obtain ⟨f, fd, ps, F, c, B⟩ := d.ex
  intro pins s σ H x y v u Q I rx ry h
  obtain ⟨a, dx, fs, b, dy, gs, rfl, rfl, e1, e2, q⟩ := h
  cases rx
  cases ry
  obtain ⟨od, J⟩ := inst_of I e1
  obtain ⟨od', J'⟩ := inst_of I e2
  obtain ⟨m, hF⟩ := I.fr
  refine PySem.W.binop_K hF I.ok.mod.kin J J'.type c.sf c.at_ c.is (thn (run_fn (us := [.ref a, .ref b]) (vs := [.ref a, .ref b]) F (hr.mono hk) B .nil hx I (.cons rfl (.cons rfl .nil)) q) fun r s1 z => ?_)
  obtain ⟨z', H', I', rz, qz⟩ := z
  exact SlX.cmpback rz ⟨z', H', I', rz, qz⟩
end
theorem eqv_all : ∀ a b : List Int, PyData.eqvAll (a.map PyData.int) (b.map PyData.int) = decide (a = b)
  | [], [] => rfl
  | [], _ :: _ => rfl
  | _ :: _, [] => rfl
  | x :: r, y :: t => by
    have e : PyData.eqv (.int x) (.int y) = decide (x = y) := by simp [PyData.eqv]; rfl
    rw [List.map_cons, List.map_cons, PyData.eqvAll, e, eqv_all r t]
    rw [Bool.eq_iff_iff]; simp
theorem eqv_ints (a b : List Int) : PyData.eqv (.tuple (a.map PyData.int)) (.tuple (b.map PyData.int)) = decide (a = b) := by rw [PyData.eqv]; exact eqv_all a b
/-! ### lists of ints, compared from the left -/
theorem lt_irr : ∀ a : List Int, HT.lexLt a a = false
  | [] => rfl
  | x :: r => by rw [HT.lexLt_cons, if_pos rfl]; exact lt_irr r
theorem lt_asym : ∀ a b : List Int, HT.lexLt a b = true → HT.lexLt b a = false
  | [], [], _ => rfl
  | [], _ :: _, _ => rfl
  | _ :: _, [], h => by cases h
  | x :: r, y :: t, h => by
    rw [HT.lexLt_cons] at h ⊢
    by_cases e : x = y
    · rw [if_pos e] at h; rw [if_pos e.symm]; exact lt_asym r t h
    · rw [if_neg e] at h; rw [if_neg (Ne.symm e)]
      have := of_decide_eq_true h
      exact decide_eq_false (by omega)
theorem lt_tri : ∀ a b : List Int, HT.lexLt a b = false → HT.lexLt b a = false → a = b
  | [], [], _, _ => rfl
  | [], _ :: _, h, _ => by cases h
  | _ :: _, [], _, h => by cases h
  | x :: r, y :: t, h, h' => by
    rw [HT.lexLt_cons] at h h'
    by_cases e : x = y
    · rw [if_pos e] at h; rw [if_pos e.symm] at h'; rw [e, lt_tri r t h h']
    · rw [if_neg e] at h; rw [if_neg (Ne.symm e)] at h'
      have := of_decide_eq_false h
      have := of_decide_eq_false h'
      omega
theorem lt_trans : ∀ a b c : List Int, HT.lexLt a b = true → HT.lexLt b c = true → HT.lexLt a c = true
  | [], [], _, h, _ => by cases h
  | [], _ :: _, [], _, h => by cases h
  | [], _ :: _, _ :: _, _, _ => rfl
  | _ :: _, [], _, h, _ => by cases h
  | _ :: _, _ :: _, [], _, h => by cases h
  | x :: r, y :: t, z :: u, h, h' => by
    rw [HT.lexLt_cons] at h h' ⊢
    by_cases e : x = y
    · rw [if_pos e] at h
      by_cases e2 : y = z
      · rw [if_pos e2] at h'; rw [if_pos (e.trans e2)]; exact lt_trans r t u h h'
      · rw [if_neg e2] at h'; rw [if_neg (e ▸ e2), e]; exact h'
    · rw [if_neg e] at h
      have := of_decide_eq_true h
      by_cases e2 : y = z
      · rw [if_neg (e2 ▸ e), ← e2]; exact h
      · rw [if_neg e2] at h'
        have := of_decide_eq_true h'
        rw [if_neg (by omega)]
        exact decide_eq_true (by omega)
/-- in order, each once -/
def Asc : List (List Int) → Prop := List.Pairwise fun a b => HT.lexLt a b = true
/-- how many come before s -/
def cntB (L : List (List Int)) (s : List Int) : Nat := (L.filter fun t => HT.lexLt t s).length
def insS (L : List (List Int)) (s : List Int) : List (List Int) := if s ∈ L then L else L.take (cntB L s) ++ s :: L.drop (cntB L s)
theorem cntB_le (L : List (List Int)) (s : List Int) : cntB L s ≤ L.length := List.length_filter_le _ _
/-- in an ordered list those before s stand first -/
theorem asc_filter {s : List Int} : ∀ {L : List (List Int)}, Asc L → (L.filter fun t => HT.lexLt t s) = L.take (cntB L s)
  | [], _ => rfl
  | t :: r, h => by
    have h1 := List.pairwise_cons.mp h
    unfold cntB
    by_cases c : HT.lexLt t s = true
    · rw [List.filter_cons_of_pos (by simpa using c), List.length_cons, List.take_succ_cons, asc_filter h1.2, List.length_take, Nat.min_eq_left (cntB_le r s)]
    · rw [List.filter_cons_of_neg (by simpa using c)]
      have e : (r.filter fun t => HT.lexLt t s) = [] := List.filter_eq_nil_iff.mpr fun u hu q => c (lt_trans t u s (h1.1 u hu) (by simpa using q))
      rw [e]
      rfl
theorem asc_lt {L : List (List Int)} {s : List Int} (h : Asc L) {i : Nat} {t : List Int} (e : L[i]? = some t) : HT.lexLt t s = true ↔ i < cntB L s := by
  have hf := asc_filter (s := s) h
  have hi := (List.getElem?_eq_some_iff.mp e).1
  constructor
  · intro q
    refine Decidable.byContradiction fun n => ?_
    have m : t ∈ L.filter fun t => HT.lexLt t s := List.mem_filter.mpr ⟨List.mem_of_getElem? e, by simpa using q⟩
    rw [hf] at m
    obtain ⟨j, hj⟩ := List.getElem?_of_mem m
    have hjl := (List.getElem?_eq_some_iff.mp hj).1
    rw [List.length_take] at hjl
    rw [List.getElem?_take, if_pos (by omega)] at hj
    have lt : j < i := by omega
    have hp := List.pairwise_iff_getElem.mp h j i (by omega) hi lt
    have e1 : L[j]'(by omega) = t := by have := List.getElem?_eq_getElem (l := L) (i := j) (by omega); rw [hj] at this; exact (Option.some.inj this).symm
    have e2 : L[i]'hi = t := by have := List.getElem?_eq_getElem (l := L) (i := i) hi; rw [e] at this; exact (Option.some.inj this).symm
    rw [e1, e2, lt_irr] at hp
    cases hp
  · intro q
    have m : t ∈ L.take (cntB L s) := List.mem_of_getElem? (i := i) (by rw [List.getElem?_take, if_pos q]; exact e)
    rw [← hf] at m
    simpa using (List.mem_filter.mp m).2
theorem mem_insS {L : List (List Int)} {s t : List Int} : t ∈ insS L s ↔ t = s ∨ t ∈ L := by
  unfold insS
  by_cases c : s ∈ L
  · rw [if_pos c]
    exact ⟨.inr, fun h => h.elim (fun e => e ▸ c) id⟩
  · rw [if_neg c, List.mem_append, List.mem_cons]
    have e := List.take_append_drop (cntB L s) L
    constructor
    · rintro (h | h | h)
      · exact .inr (List.mem_of_mem_take h)
      · exact .inl h
      · exact .inr (List.mem_of_mem_drop h)
    · rintro (h | h)
      · exact .inr (.inl h)
      · rw [← e] at h
        rcases List.mem_append.mp h with h | h
        · exact .inl h
        · exact .inr (.inr h)
theorem asc_insS {L : List (List Int)} {s : List Int} (h : Asc L) : Asc (insS L s) := by
  unfold insS
  by_cases c : s ∈ L
  · rw [if_pos c]; exact h
  · rw [if_neg c]
    have e := List.take_append_drop (cntB L s) L
    have h0 := h
    unfold Asc at h0
    rw [← e] at h0
    obtain ⟨p1, p2, p3⟩ := List.pairwise_append.mp h0
    have before : ∀ t ∈ L.take (cntB L s), HT.lexLt t s = true := fun t ht => by
      rw [← asc_filter h] at ht
      simpa using (List.mem_filter.mp ht).2
    have behind : ∀ t ∈ L.drop (cntB L s), HT.lexLt s t = true := fun t ht => by
      obtain ⟨j, hj⟩ := List.getElem?_of_mem ht
      rw [List.getElem?_drop] at hj
      cases q : HT.lexLt t s with
      | true => have := (asc_lt h hj).mp q; omega
      | false =>
        cases q2 : HT.lexLt s t with
        | true => rfl
        | false => exact absurd (by rw [lt_tri t s q q2] at ht; exact List.mem_of_mem_drop ht) c
    exact List.pairwise_append.mpr ⟨p1, List.pairwise_cons.mpr ⟨behind, p2⟩, fun a ha b hb => by
      rcases List.mem_cons.mp hb with rfl | hb
      · exact before a ha
      · exact p3 a ha b hb⟩
def pio (L : List (List Int)) : List (List Int) := L.foldl insS []
theorem asc_fold : ∀ (M L : List (List Int)), Asc L → Asc (M.foldl insS L)
  | [], _, h => h
  | s :: r, L, h => asc_fold r (insS L s) (asc_insS h)
theorem asc_pio (L : List (List Int)) : Asc (pio L) := asc_fold L [] List.Pairwise.nil
theorem mem_fold : ∀ (M L : List (List Int)) (t : List Int), t ∈ M.foldl insS L ↔ t ∈ M ∨ t ∈ L
  | [], L, t => by simp
  | s :: r, L, t => by
    rw [List.foldl_cons, mem_fold r, mem_insS, List.mem_cons]
    constructor
    · rintro (h | h | h)
      · exact .inl (.inr h)
      · exact .inl (.inl h)
      · exact .inr h
    · rintro ((h | h) | h)
      · exact .inr (.inl h)
      · exact .inl h
      · exact .inr (.inr h)
theorem mem_pio {L : List (List Int)} {t : List Int} : t ∈ pio L ↔ t ∈ L := by unfold pio; rw [mem_fold]; simp
theorem insS_len (L : List (List Int)) (s : List Int) : (insS L s).length ≤ L.length + 1 := by
  unfold insS
  split
  · omega
  · rw [List.length_append, List.length_cons, List.length_take, List.length_drop]
    have := cntB_le L s
    omega
theorem fold_len : ∀ (M L : List (List Int)), (M.foldl insS L).length ≤ L.length + M.length
  | [], _ => by simp
  | s :: r, L => by rw [List.foldl_cons, List.length_cons]; have := fold_len r (insS L s); have := insS_len L s; omega
theorem pio_len (L : List (List Int)) : (pio L).length ≤ L.length := by have := fold_len L []; unfold pio; simpa using this
theorem asc_nd {L : List (List Int)} (h : Asc L) : L.Nodup := List.Pairwise.imp (fun {a b} q e => by rw [e, lt_irr] at q; cases q) h
/-- an ordered list is told by its members -/
theorem asc_ext : ∀ {L M : List (List Int)}, Asc L → Asc M → (∀ t, t ∈ L ↔ t ∈ M) → L = M
  | [], [], _, _, _ => rfl
  | [], t :: r, _, _, h => by have := (h t).mpr List.mem_cons_self; cases this
  | t :: r, [], _, _, h => by have := (h t).mp List.mem_cons_self; cases this
  | a :: r, b :: t, h1, h2, h => by
    have p1 := List.pairwise_cons.mp h1
    have p2 := List.pairwise_cons.mp h2
    have e : a = b := by
      rcases List.mem_cons.mp ((h a).mp List.mem_cons_self) with e | ha
      · exact e
      · rcases List.mem_cons.mp ((h b).mpr List.mem_cons_self) with e | hb
        · exact e.symm
        · have q1 := p2.1 a ha
          have q2 := p1.1 b hb
          rw [lt_asym _ _ q1] at q2
          cases q2
    subst e
    have n1 : a ∉ r := fun m => by have := p1.1 a m; rw [lt_irr] at this; cases this
    have n2 : a ∉ t := fun m => by have := p2.1 a m; rw [lt_irr] at this; cases this
    rw [asc_ext p1.2 p2.2 fun x => ?_]
    constructor
    · intro hx
      rcases List.mem_cons.mp ((h x).mp (List.mem_cons_of_mem _ hx)) with e | q
      · exact absurd (e ▸ hx) n1
      · exact q
    · intro hx
      rcases List.mem_cons.mp ((h x).mpr (List.mem_cons_of_mem _ hx)) with e | q
      · exact absurd (e ▸ hx) n2
      · exact q
end UX

set_option Elab.async false
set_option linter.all false
set_option maxRecDepth 100000
set_option maxHeartbeats 4000000
/-! o(e, ..) by an own __call__; dicts whose keys are nested tuples -/
namespace UX
open PySem PySem.Spec PyProof.Rows L2 UL UV UW ClX
section
variable {X : Cx} {CX : CXT} {k j i : Nat} {C : Addr} {sp : Sp} {E : L2.St → XK} {x : Str} {p pos : Pos} {e : Expr} {es : List Expr} {t : TA} {ta : TE}
structure Con (P : Program) (w : World) (K : PySem.W.Frag) (mg : Str → Option Value) (base : Heap) (CX : CXT) (k : Nat) (C : Addr) (sp : Sp) : Prop where
  ex : ∃ (f : Addr) (fd : FuncData) (ps : List Str), FnOk P w K mg base CX k f fd ps sp ∧ PySem.W.findIn K (.ref C) "__call__" = some (some (.ref f)) ∧ PySem.W.isFn K (.ref f) = true ∧ PySem.W.fnIn K f = true ∧ Binds K fd ps []
theorem Mn.con {P : Program} {w : World} {K : PySem.W.Frag} {mg : Str → Option Value} {base : Heap} (d : Mn P w K mg base CX k C "__call__" sp) (h : ∃ f, PySem.W.findIn K (.ref C) "__call__" = some (some (.ref f)) ∧ PySem.W.fnIn K f = true) : Con P w K mg base CX k C sp := by
  obtain ⟨f, fd, ps, F, M, B⟩ := d.ex
  obtain ⟨g, h1, h2⟩ := h
  obtain rfl : f = g := by
    have h3 := M.at_
    rw [h1] at h3
    injection h3 with h3; injection h3 with h3; injection h3 with h3; exact h3.symm
  exact ⟨f, fd, ps, F, M.at_, M.fn, h2, B⟩
theorem callWith_inst0 {M : Model} {A : Around} {Eb : Value → Shared → Prop} {s : Shared} {a C : Addr} {Q : Value → Shared → Prop} {args : List (Bool × Sem Value)} (hp : (args.any (·.1) || ([] : List (Option Str × Sem Value)).any (·.1.isNone)) = false)
    (h : wpAny M A (evalArgs (.ref a) true args []) (fun g s₁ => (∃ dx od, PySem.W.InstAt s₁.heap a (PySem.W.instObj C dx) C od) ∧ wpAny M A (call (.ref a) ([] ++ g.pos) g.kw) Q Eb s₁) Eb s) : wpAny M A (callWith pos (.ref a) [] args []) Q Eb s := by
  unfold callWith
  refine wpAny_bind (wpAny_holding (wpAny_mono h (fun g s₁ h₁ => wpAny_bind (wpAny_standAt ?_)) fun _ _ y => y))
  obtain ⟨⟨dx, od, I⟩, h₂⟩ := h₁
  have L := PySem.W.kco_keeper (M := M) I rfl
  simp only [hp]
  refine wpAny_bind (L.here ?_)
  have tail : ∀ {t : Sem Value}, wpAny M A t Q Eb s₁ → wpAny M A (t >>= fun r => holding [r] point >>= fun _ => pure r) Q Eb s₁ :=
    fun ht => wpAny_bind (wpAny_mono ht (fun r s₂ hr => wpAny_bind (wpAny_holding (wpAny_point (wpAny_pure hr)))) fun _ _ y => y)
  exact tail (wpAny_operateT h₂)
theorem callWith_inst {M : Model} {A : Around} {Eb : Value → Shared → Prop} {s : Shared} {env : Env} {a C : Addr} {Q : Value → Shared → Prop}
    (h : wpAny M A (spliced (backTo pos (starEach (e :: es) env))) (fun vs s₁ => (∃ dx od, PySem.W.InstAt s₁.heap a (PySem.W.instObj C dx) C od) ∧ wpAny M A (call (.ref a) ([] ++ vs)) Q Eb s₁) Eb s)
    (he : starEach (e :: es) env = (false, eval e env) :: starEach es env := by rfl) (hplain : (backTo pos (starEach es env)).any (·.1) = false := by rfl) :
    wpAny M A (callWith pos (.ref a) [] (backTo pos (starEach (e :: es) env)) []) Q Eb s := by
  rw [he] at h ⊢
  exact callWith_inst0 (by show ((false || (backTo pos (starEach es env)).any (·.1)) || false) = false; rw [hplain]; rfl) (PySem.Calls.evalArgs_plain h)
/-- o(e, ..), o a local name -/
def tCallO (i : Nat) (C : Addr) (sp : Sp) (E : L2.St → XK) (t : TA) : TE := fun σ H Q => ∃ a, σ[i]? = some (some (.ref a)) ∧ t σ H fun vs H2 => ∃ dx fs, H2 a = some (.ins C dx fs) ∧ sp (.ref a :: vs) H2 Q (E σ)
theorem pe_callO (d : Con X.prog X.w X.K X.mg X.base CX k C sp) (hr : Room j X.A) (hk : k ≤ j) (hN : X.N[i]? = some x) (hv : Vis X.env.scope x) (hx : ∀ σ, PassesAt CX X σ (E σ)) (ha : PA X (e :: es) t)
    (hdb : (x == ("__debug__" : Str)) = false := by decide) (hcd : (x == ("__classdict__" : Str)) = false := by decide)
    (he : starEach (e :: es) X.env = (false, eval e X.env) :: starEach es X.env := by rfl) (hpl : (backTo pos (starEach es X.env)).any (·.1) = false := by rfl) : PE X (.Call (.Name x p) (e :: es) [] pos) (tCallO i C sp E t) := by
  obtain ⟨f, fd, ps, F, at_, fn, fi, B⟩ := d.ex
  refine ⟨fun pins s σ H Q I h => ?_⟩
  obtain ⟨a, hs, ht⟩ := h
  refine wpAny_Call_Name_kw (thn ((pe_var (pos := p) hN hv hdb hcd).run pins s σ H (fun v H1 => v = .ref a ∧ H1 = H) I ⟨.ref a, hs, rfl, rfl⟩) fun u s1 ⟨v, H1, I1, r1, q1⟩ => ?_)
  obtain ⟨rfl, rfl⟩ := q1
  cases r1
  refine callWith_inst (C := C) (thn (ha.run pos pins s1 σ _ _ I1 ht) fun us s2 ⟨vs, H2, I2, r, dx, fs, e2, q⟩ => ?_) he hpl
  obtain ⟨od, J⟩ := inst_of I2 e2
  refine ⟨⟨_, _, J⟩, wpAny_call (PySem.W.kco_code I2.kIn J rfl at_ fn fi ?_)⟩
  have hl : (Value.ref a :: us).length = ps.length := by rw [List.length_cons, ← r.length, ← List.length_cons]; exact F.len _ _ _ _ q
  have b := B s2 (.ref a :: us) I2.kIn (by rw [List.append_nil]; exact hl)
  rw [List.append_nil] at b
  refine codeAny_mono (F.run X.A X.stack s2 H2 ⟨.ref a :: us, []⟩ (.ref a :: us) (.ref a :: vs) Q (E σ) (hr.mono hk) I2.env0 b (.cons rfl r) q) fun r s' hq => ?_
  cases r with
  | error e => exact hx σ pins H2 s2 e s' I2 hq
  | ok fl =>
    cases fl with
    | ret u => exact I2.after hq
    | next => exact False.elim hq
    | brk => exact False.elim hq
    | cont => exact False.elim hq
end
/-! ### dicts whose keys are nested tuples -/
mutual
inductive NK (H : Hp) : NestedKey → V → Prop
  | num (i : Int) : NK H (.num i) (.int i)
  | text (x : Str) : NK H (.text x) (.str x)
  | tup {ks : List NestedKey} {a : Addr} {xs : List V} : H a = some (.tup xs) → NKs H ks xs → NK H (.tup ks) (.ref a)
inductive NKs (H : Hp) : List NestedKey → List V → Prop
  | nil : NKs H [] []
  | cons {k : NestedKey} {v : V} {ks : List NestedKey} {vs : List V} : NK H k v → NKs H ks vs → NKs H (k :: ks) (v :: vs)
end
/-- tuples stay -/
def TupsStay (H H' : Hp) : Prop := ∀ a xs, H a = some (.tup xs) → H' a = some (.tup xs)
theorem TupsStay.same {H H' : Hp} (h : ∀ a o, H a = some o → H' a = some o) : TupsStay H H' := fun a xs r => h a _ r
theorem TupsStay.put {H : Hp} {a : Addr} {o o' : HO} (h : H a = some o) (n : ∀ xs, o ≠ .tup xs) : TupsStay H (upd H a o') := fun b xs r =>
  (upd_ne fun z => by subst z; rw [h] at r; exact n _ (Option.some.inj r)).trans r
mutual
theorem NK.stay {H H' : Hp} (s : TupsStay H H') : ∀ (k : NestedKey) (v : V), NK H k v → NK H' k v
  | .none, _, h => by cases h
  | .num _, _, h => by cases h; exact .num _
  | .text _, _, h => by cases h; exact .text _
  | .tup ks, _, h => by
    cases h with
    | tup h1 h2 => exact .tup (s _ _ h1) (NKs.stay s ks _ h2)
theorem NKs.stay {H H' : Hp} (s : TupsStay H H') : ∀ (ks : List NestedKey) (vs : List V), NKs H ks vs → NKs H' ks vs
  | [], _, h => by cases h; exact .nil
  | k :: ks, _, h => by
    cases h with
    | cons h1 h2 => exact .cons (NK.stay s k _ h1) (NKs.stay s ks _ h2)
end
section
variable {X : Cx} {pins : List (Addr × Obj)} {σ : L2.St} {H : Hp} {s : Shared} {d a : Addr}
mutual
theorem NK.is (I : Inv X pins σ H s) : ∀ (k : NestedKey) (v : V) (u : Value), NK H k v → RelV v u → NestedIs s.heap k u
  | .none, _, _, h, _ => by cases h
  | .num i, _, _, h, r => by cases h; obtain ⟨t, rfl⟩ := r; exact .int _ _
  | .text x, _, _, h, r => by cases h; obtain ⟨t, rfl⟩ := r; exact .text _ _
  | .tup ks, _, _, h, r => by
    cases h with
    | tup h1 h2 =>
      cases r
      obtain ⟨its, rv, ⟨o, ho, hc, n, hd⟩, _⟩ := I.tuple (.inl (.inl h1))
      exact .tup ho hc hd (NKs.is I ks _ _ h2 (by simpa using rv))
theorem NKs.is (I : Inv X pins σ H s) : ∀ (ks : List NestedKey) (vs : List V) (us : List Value), NKs H ks vs → Vals vs us → NestedAll s.heap ks us
  | [], _, _, h, r => by cases h; cases r; exact .nil
  | k :: ks, _, _, h, r => by
    cases h with
    | cons h1 h2 =>
      cases r with
      | cons r1 r2 => exact .cons (NK.is I k _ _ h1 r1) (NKs.is I ks _ _ h2 r2)
end
/-- the dict object -/
def NDe (P : Program) (w : World) (d : Addr) (xs : List (NestedKey × Addr × Value)) : HO :=
  .ext fun h => (d == sysModules) = false ∧ xs.length ≤ sizeLine ∧ (xs.map (·.1)).Nodup ∧ ∃ o es ep, h.get? d = some o ∧ o.ExactDict ∧ o.data = .dict es ep ∧ es.toList = xs.map (entryOfKey (nestedKind P w))
abbrev NX := List (NestedKey × Addr × V)
def ND (P : Program) (w : World) (H : Hp) (d : Addr) (kvs : NX) : Prop :=
  ∃ xs : List (NestedKey × Addr × Value), Paired (fun p q => p.1 = q.1 ∧ p.2.1 = q.2.1 ∧ RelV p.2.2 q.2.2) kvs xs ∧ H d = some (NDe P w d xs) ∧ ∀ p ∈ kvs, NK H p.1 (.ref p.2.1) ∧ p.1.depth ≤ 8
theorem NDe.ok {P : Program} {w : World} {h : Heap} {xs : List (NestedKey × Addr × Value)} (h1 : (d == sysModules) = false) (h2 : xs.length ≤ sizeLine) (h3 : h.DictOfH (nestedKind P w) d xs) : ObjOk P w H h d (NDe P w d xs) := by
  obtain ⟨o, es, ep, e1, e2, e3, e4, _, e6⟩ := h3
  exact ⟨⟨h1, h2, e6, o, es, ep, e1, e2, e3, e4⟩, ⟨o, e1⟩, fun g1 g2 ⟨q1, q2, q3, o, es, ep, z1, z2⟩ k => ⟨q1, q2, q3, o, es, ep, k _ z1, z2⟩⟩
theorem ND.stay {P : Program} {w : World} {H' : Hp} {kvs : NX} (h : ND P w H d kvs) (s : TupsStay H H') (e : H' d = H d) : ND P w H' d kvs := by
  obtain ⟨xs, r, e1, k⟩ := h
  exact ⟨xs, r, e.trans e1, fun p hp => ⟨NK.stay s _ _ (k p hp).1, (k p hp).2⟩⟩
theorem ND.same {P : Program} {w : World} {H' : Hp} {kvs : NX} (h : ND P w H d kvs) (s : ∀ a o, H a = some o → H' a = some o) : ND P w H' d kvs := by
  have h' := h
  obtain ⟨xs, _, e1, _⟩ := h'
  exact h.stay (TupsStay.same s) ((s _ _ e1).trans e1.symm)
theorem ND.at {P : Program} {w : World} {kvs : NX} (h : ND P w H d kvs) : ∃ xs, H d = some (NDe P w d xs) := let ⟨xs, _, e, _⟩ := h; ⟨xs, e⟩
theorem nd_paired {kvs : NX} {xs : List (NestedKey × Addr × Value)} (r : Paired (fun (p : NestedKey × Addr × V) (q : NestedKey × Addr × Value) => p.1 = q.1 ∧ p.2.1 = q.2.1 ∧ RelV p.2.2 q.2.2) kvs xs) : kvs.length = xs.length ∧ kvs.map (·.1) = xs.map (·.1) ∧ (∀ q ∈ xs, ∃ p ∈ kvs, p.1 = q.1 ∧ p.2.1 = q.2.1 ∧ RelV p.2.2 q.2.2) := by
  induction r with
  | nil => exact ⟨rfl, rfl, fun q h => by cases h⟩
  | cons h _ ih =>
    obtain ⟨i1, i2, i3⟩ := ih
    refine ⟨by rw [List.length_cons, List.length_cons, i1], by rw [List.map_cons, List.map_cons, h.1, i2], fun q hq => ?_⟩
    rcases List.mem_cons.mp hq with rfl | hq
    · exact ⟨_, List.mem_cons_self, h.1, h.2.1, h.2.2⟩
    · obtain ⟨p, hp, e⟩ := i3 q hq
      exact ⟨p, List.mem_cons_of_mem _ hp, e⟩
theorem ND.dict (I : Inv X pins σ H s) {kvs : NX} (h : ND X.prog X.w H d kvs) : ∃ xs, Paired (fun p q => p.1 = q.1 ∧ p.2.1 = q.2.1 ∧ RelV p.2.2 q.2.2) kvs xs ∧ H d = some (NDe X.prog X.w d xs) ∧ (d == sysModules) = false ∧ xs.length ≤ sizeLine ∧ s.heap.DictOfH (nestedKind X.prog X.w) d xs := by
  obtain ⟨xs, r, e, k⟩ := h
  obtain ⟨⟨q1, q2, q3, o, es, ep, z1, z2, z3, z4⟩, _⟩ := I.hok d _ e
  refine ⟨xs, r, e, q1, q2, o, es, ep, z1, z2, z3, z4, fun x hx => ?_, q3⟩
  obtain ⟨p, hp, e1, e2, _⟩ := (nd_paired r).2.2 x hx
  have := k p hp
  rw [e1, e2] at this
  exact ⟨NK.is I _ _ _ this.1 rfl, this.2⟩
theorem ND.len (I : Inv X pins σ H s) {kvs : NX} (h : ND X.prog X.w H d kvs) : kvs.length ≤ sizeLine ∧ (kvs.map (·.1)).Nodup := by
  obtain ⟨xs, r, _, _, h2, _, _, _, _, _, _, _, _, nd⟩ := h.dict I
  obtain ⟨e1, e2, _⟩ := nd_paired r
  exact ⟨e1 ▸ h2, e2 ▸ nd⟩
theorem nd_refs {kvs : NX} {xs : List (NestedKey × Addr × Value)} (r : Paired (fun (p : NestedKey × Addr × V) (q : NestedKey × Addr × Value) => p.1 = q.1 ∧ p.2.1 = q.2.1 ∧ RelV p.2.2 q.2.2) kvs xs) : Vals (kvs.map fun p => V.ref p.2.1) (xs.map fun x => Value.ref x.2.1) := by
  induction r with
  | nil => exact .nil
  | cons h _ ih => exact .cons (show Value.ref _ = Value.ref _ by rw [h.2.1]) ih
theorem nd_snoc {α β : Type} {F : α → β → Prop} {a : α} {b : β} (h : F a b) : ∀ {l : List α} {m : List β}, Paired F l m → Paired F (l ++ [a]) (m ++ [b])
  | _, _, .nil => .cons h .nil
  | _, _, .cons r t => .cons r (nd_snoc h t)
/-- {} -/
def tNDNew (P : Program) (w : World) : TE := fun _ H Q => ∀ p H', H p = none → ND P w H' p [] → (∀ a o, H a = some o → H' a = some o) → Q (.ref p) H'
theorem pe_ndnew {pos : Pos} : PE X (.Dict [] [] pos) (tNDNew X.prog X.w) := ⟨fun pins s σ H Q I h => by
  have fr := I.hok.fresh (Nat.le_refl s.heap.objs.size)
  refine wpAny_Dict_empty ⟨.ref s.heap.objs.size, _, I.laid (a := s.heap.objs.size) (o := NDe X.prog X.w s.heap.objs.size []) (t' := s.toks) (fun _ _ q => Heap.get?_push_of_some _ q) (Nat.le_refl _) (NDe.ok (beq_eq_false_iff_ne.mpr (Ne.symm (Nat.ne_of_lt I.big))) (Nat.zero_le _) (Heap.DictOfH.new _)), rfl, h _ _ fr ⟨[], .nil, upd_same, fun p hp => by cases hp⟩ fun a o e => (upd_ne (ne_of_none e fr)).trans e⟩⟩
/-- len(d) -/
def cLenN (P : Program) (w : World) : List V → Hp → VK → Prop := fun xs H Q => ∃ (a : Addr) (kvs : NX), xs = [.ref a] ∧ ND P w H a kvs ∧ Q (.int kvs.length) H
/-- list(d) -/
def cListN (P : Program) (w : World) : List V → Hp → VK → Prop := fun xs H Q => ∃ (a : Addr) (kvs : NX), xs = [.ref a] ∧ ND P w H a kvs ∧ ∀ l, H l = none → Q (.ref l) (upd H l (.lst (kvs.map fun p => .ref p.2.1)))
theorem call_listN (hcalm : X.calm = true) : CallR X (.type "list") (cListN X.prog X.w) := by
  intro pins s σ H xs us Q I r q
  obtain ⟨a, kvs, ex, hd, q⟩ := q
  subst ex
  obtain ⟨u, eu, rx⟩ := vals1 r
  subst eu
  cases rx
  obtain ⟨xs, rel, e, lo, hl, o, es, ep, z1, z2, z3, z4, z5, z6⟩ := hd.dict I
  obtain ⟨l1, _, _⟩ := nd_paired rel
  have sz : es.size = xs.length := size_of_entries z4
  refine PySem.W.kdl_call (PySem.KdlSrc.rawDict (es := es) (ep := ep) lo) (I.ok.hd hcalm) ⟨o, z1, z2, z3⟩ (by rw [sz]; exact hl) fun h' tk acc c' hk hS hacc => ?_
  have ea : acc.toList = xs.map fun x => Value.ref x.2.1 := by
    refine List.ext_getElem? fun j => ?_
    rw [List.getElem?_map, Array.getElem?_toList]
    cases ej : acc[j]? with
    | none =>
      have hn : xs[j]? = none := List.getElem?_eq_none (by have := Array.getElem?_eq_none_iff.mp ej; have h1 := hacc.1; omega)
      rw [hn]; rfl
    | some v =>
      obtain ⟨hj, rfl⟩ := hacc.2 j v ej
      have e2 := entry_at z4 j
      rw [Array.getElem?_eq_getElem hj] at e2
      cases ex : xs[j]? with
      | none => rw [ex] at e2; cases e2
      | some x =>
        rw [ex] at e2
        rw [Option.some.inj e2]; rfl
  have hv : Vals (kvs.map fun p => V.ref p.2.1) acc.toList := by
    rw [ea]
    exact nd_refs rel
  exact ⟨.ref s.heap.objs.size, upd H s.heap.objs.size (.lst (kvs.map fun p => V.ref p.2.1)), I.laid (t' := tk) hk (Nat.le_refl _)
    (show ObjOk X.prog X.w _ _ _ (.lst (kvs.map fun p => V.ref p.2.1)) from ⟨by rw [List.length_map, l1]; exact hl, acc.toList, c', hv, by rw [Array.toArray_toList]; exact hS⟩), rfl, q _ (I.hok.fresh (Nat.le_refl _))⟩
theorem call_lenN : CallR X (.builtin "len") (cLenN X.prog X.w) := by
  intro pins s σ H xs us Q I r q
  obtain ⟨a, kvs, ex, hd, q⟩ := q
  subst ex
  obtain ⟨u, eu, rx⟩ := vals1 r
  subst eu
  cases rx
  obtain ⟨xs, rel, e, lo, hl, o, es, ep, z1, z2, z3, z4, z5, z6⟩ := hd.dict I
  obtain ⟨l1, _, _⟩ := nd_paired rel
  have sz : es.size = xs.length := size_of_entries z4
  have hs := sizeLine_eq
  have hm : s.heap.DictRaw a es ep := ⟨o, z1, z2, z3⟩
  refine Calls.call_function_entry kind_len plain_len entry_len (args_len1 _) ?_
  unfold Builtin.«len»
  refine wpAny_bind (m := oneArg "len" _) (wpAny_pure ?_)
  refine wpAny_bind (m := callSpecial? (.ref a) (Str.ofString "__len__")) (wpAny_callSpecial?_slot (name := Str.ofString "__len__") hm.typeIs F.slot_dict_len (call_len_raw lo hm ?_))
  show wpAny _ _ _ _ _ { s with toks := s.toks + 1 }
  refine wpAny_bind (wpAny_holding (wpAny_pure ?_))
  refine wpAny_bind (wpAny_letGo ?_)
  show wpAny _ _ (if ((es.size : Nat) : Int) < 0 then _ else _) _ _ _
  rw [if_neg (by omega)]
  show wpAny _ _ (if ((es.size : Nat) : Int) ≥ 2 ^ 63 then _ else _) _ _ _
  rw [if_neg (by omega)]
  refine wpAny_bind (wpAny_mkInt (wpAny_pure ⟨_, rfl, ?_⟩))
  rw [sz, ← l1]
  exact ⟨.int kvs.length, H, I.tok _, ⟨_, rfl⟩, q⟩
/-- d.setdefault(k, v) -/
def rSetN (P : Program) (w : World) : V → List V → Hp → VK → Prop := fun x vs H Q => ∃ (d : Addr) (kvs : NX) (k : NestedKey) (a : Addr) (v : V), x = .ref d ∧ vs = [.ref a, v] ∧ ND P w H d kvs ∧ NK H k (.ref a) ∧ k.depth ≤ 8 ∧ kvs.length < sizeLine ∧
  (∀ p ∈ kvs, p.1 = k → Q p.2.2 H) ∧ ((∀ p ∈ kvs, p.1 ≠ k) → ∀ xs, ND P w (upd H d (NDe P w d xs)) d (kvs ++ [(k, a, v)]) → Q v (upd H d (NDe P w d xs)))
theorem mt_setN {j : Nat} (hr : Room (j + 1) X.A) : MtR X "dict.setdefault" (rSetN X.prog X.w) := by
  intro pins s σ H x vs u us Q I rx rv h
  obtain ⟨d, kvs, k, a, v, rfl, rfl, hd, hk, hk8, hl, w1, w2⟩ := h
  cases rx
  obtain ⟨u1, u2, rfl, ry, rd⟩ := rv.two
  cases ry
  obtain ⟨xs, rel, e, lo, hlx, hx⟩ := hd.dict I
  obtain ⟨l1, l2, l3⟩ := nd_paired rel
  have hkey : (nestedKind X.prog X.w).is s.heap k a := ⟨NK.is I _ _ _ hk rfl, hk8⟩
  refine call_setdefault_heap (show X.A.in1.units + 8 < cLine by have := (Room.in1 hr).un; omega) hkey lo hx (fun p hp => ?_) (fun hn h' hm' hs => ?_) hlx
  · unfold atKey at hp
    obtain ⟨x, hx1, rfl⟩ := Option.map_eq_some_iff.mp hp
    have hx2 := List.mem_of_find?_eq_some hx1
    have hx3 := List.find?_some hx1
    obtain ⟨y, hy, e1, _, e3⟩ := l3 x hx2
    exact ⟨y.2.2, H, I.tok _, e3, w1 y hy (e1.trans (of_decide_eq_true hx3))⟩
  · rw [storedH_new hn] at hm'
    have hn2 : ∀ p ∈ kvs, p.1 ≠ k := fun p hp e => by
      have hm : p.1 ∈ xs.map (·.1) := l2 ▸ List.mem_map.mpr ⟨p, hp, rfl⟩
      obtain ⟨y, hy, e2⟩ := List.mem_map.mp hm
      unfold atKey at hn
      have hn3 := Option.map_eq_none_iff.mp hn
      have := List.find?_eq_none.mp hn3 y hy
      exact this (decide_eq_true (e2.trans e))
    have hz : (xs ++ [(k, a, u2)]).length ≤ sizeLine := by rw [List.length_append, ← l1]; exact hl
    have ts : TupsStay H (upd H d (NDe X.prog X.w d (xs ++ [(k, a, u2)]))) := TupsStay.put e fun _ z => nomatch z
    refine ⟨v, _, d_write (t' := s.toks + (nestedKind X.prog X.w).draws k) I (by rw [e]; exact True.intro) hs (let ⟨o, _, _, e1, _⟩ := hm'; ⟨o, e1⟩) (NDe.ok lo hz hm'), rd, w2 hn2 _ ⟨_, ?_, upd_same, fun p hp => ?_⟩⟩
    · exact nd_snoc ⟨rfl, rfl, rd⟩ rel
    · rcases List.mem_append.mp hp with hp | hp
      · obtain ⟨xs0, _, _, hk0⟩ := hd
        exact ⟨NK.stay ts _ _ (hk0 p hp).1, (hk0 p hp).2⟩
      · rw [List.mem_singleton.mp hp]
        exact ⟨NK.stay ts _ _ hk, hk8⟩
end
end UX

set_option Elab.async false
set_option linter.all false
set_option maxRecDepth 100000
set_option maxHeartbeats 4000000
/-! d.m(e, ..), d a dict with nested tuple keys -/
namespace UX
open PySem PySem.Spec PyProof.Rows L2 UL UV UW ClX
section
variable {X : Cx} {o e : Expr} {es : List Expr} {name : Str} {id : String} {r : V → List V → Hp → VK → Prop} {to : TE} {t : TA} {apos cpos : Pos}
def tBMN (P : Program) (w : World) (r : V → List V → Hp → VK → Prop) (to : TE) (t : TA) : TE := fun σ H Q => to σ H fun x H1 => (∃ d kvs, x = .ref d ∧ ND P w H1 d kvs) ∧ t σ H1 fun vs H2 => r x vs H2 Q
theorem pe_bmN (pa : PlainAttrs "dict") (slot : Slot "dict" name id) (hty : typeOf (.builtin id) = pure (.type "method_descriptor")) (hm : MtR X id r) (ho : PE X o to) (ha : PA X (e :: es) t)
    (hbase : attributeBase o name X.env (eval o X.env) = eval o X.env := by rfl)
    (hfew : ((backTo cpos (starEach (e :: es) X.env)).all (fun x => !x.1) && (backToKw cpos (keywordEach [] X.env)).all (fun x => x.1.isSome)
      && decide ((e :: es).length + ([] : List Keyword).length + (if ([] : List Keyword).isEmpty then 0 else 1) < 30)) = true := by rfl)
    (hline : (apos.endLine == cpos.line) = true := by rfl) (hs : starEach (e :: es) X.env = (false, eval e X.env) :: starEach es X.env := by rfl) (hplain : (backTo cpos (starEach es X.env)).any (·.1) = false := by rfl) :
    PE X (.Call (.Attribute o name apos) (e :: es) [] cpos) (tBMN X.prog X.w r to t) := by
  refine ⟨fun pins s σ H Q I h => ?_⟩
  refine wpAny_Call_method_late hbase hfew hline rfl (thn (ho.run pins s σ H _ I h) fun v s1 ⟨x, H1, I1, r1, ⟨d, kvs, e1, nd⟩, q1⟩ => ?_)
  subst e1
  cases r1
  obtain ⟨xs, rel, e2, lo, hl, hd⟩ := nd.dict I1
  have hd' := hd
  obtain ⟨ob, es', ep, z1, z2, _⟩ := hd'
  refine ⟨"dict", id, pa, slot, hty, hd.typeIs, fun a ea => ?_, ?_⟩
  · cases ea
    exact ⟨ob, z1, z2.2.1⟩
  have hA := ha.run cpos pins s1 σ H1 _ I1 q1
  rw [hs] at hA ⊢
  refine Calls.callWith_builtin (by show (false || (backTo cpos (starEach es X.env)).any (·.1)) = false; rw [hplain] <;> rfl) (Calls.evalArgs_plain ?_)
  exact thn hA fun us s2 ⟨vs, H2, I2, r2, q2⟩ => hm pins s2 σ H2 (.ref d) vs (.ref d) us Q I2 rfl r2 q2
end
/-- int(a bool) -/
def cIntB : List V → Hp → VK → Prop := fun xs H Q => ∃ b : Bool, xs = [.bl b] ∧ Q (.int (if b then 1 else 0)) H
theorem call_intB {X : Cx} : CallR X (.type "int") cIntB := fun pins s σ H xs us Q I r h => call_int1 pins s σ H xs us Q I r (.inr h)
end UX

set_option Elab.async false
set_option linter.all false
set_option maxRecDepth 100000
set_option maxHeartbeats 4000000
set_option pp.deepTerms true
set_option pp.maxSteps 400000
namespace U
open PySem PySem.Spec PyProof.Rows L2 UL UX
local macro_rules | `(tactic| walk_at "rd") => `(tactic| simp only [sMatch, tJs, tFmt, tBC, tMethA, tMakeL, iEnumS, tSeq, tAsg, tOp, tCB, tCons, tNil, tVar, tC, tB, tTest, tNot, tIfS, tNext, tYes, tUn, rU, tM0, tGFrom, tGThen, tG0, tYfLst, gcxK, tSubO, tProp, tListG, tMethG, tBMF, tFld, sFld, tMeth, tMake, tSl, tNoPart, tPart, tM1, gTup, gCons, gNil, tDrop, tFor_eq, tLc_eq, tLc2_eq, iRng1_eq, StX.tStar, iList, iTup, iStr, iAny_var, iZipB, tLenSetS, wipe, tVar, tAndV, tOrV, tNotV, tOr, tAnd, tLst, tTup, tBM, tBM0, tChain, tCall, cxK, noxK, addII, addSS, mulII, eqII, neII, neSS, cIntI, cAbsI, rI, rI0, rLt, rLe, rGt_, rGe_, rSub_, rMod, rPow, rDivW, rNeg, gName, tRet, L2.start, List.length_cons, List.length_nil, List.map_cons, List.map_nil, List.replicate, List.cons_append, List.nil_append, List.getElem?_cons_zero, List.getElem?_cons_succ, List.set_cons_zero, List.set_cons_succ, Option.some.injEq, exists_eq_left', exists_eq_left, V.int.injEq, V.bl.injEq, V.str.injEq, V.ref.injEq, V.ty.injEq, List.cons.injEq, and_true, true_and, reduceCtorEq, false_and, exists_false, or_false, false_or, exists_and_left, exists_and_right, List.append_nil, forall_eq, decide_eq_true_eq, Bool.not_eq_true, Nat.reduceAdd, Nat.reduceSub, List.replicate_zero, List.replicate_succ, Nat.zero_le, ite_true, ite_false, if_true, if_false])
section
variable {P : Program} {w : World} {K : PySem.W.Frag} {mg : Str → Option Value} {base : Heap}

open UV UW NdefX ClX UX
variable {Fo UF WE : Addr}
local macro_rules | `(tactic| walk_at "rdx") => `(tactic| simp only [tCons, tNil, tJs, tC, tFmt, tFmtN, tVar, tOst, tSeq, NdefX.startF, L2.start, List.length_cons, List.length_nil, List.map_cons, List.map_nil, List.replicate, List.cons_append, List.nil_append, List.getElem?_cons_zero, List.getElem?_cons_succ, Option.some.injEq, exists_eq_left', exists_eq_left, V.str.injEq, V.int.injEq, V.ref.injEq, reduceCtorEq, false_and, exists_false, or_false, false_or, and_true, true_and, exists_and_left, exists_and_right, Nat.reduceAdd, Nat.reduceSub, Nat.reduceLeDiff, ncK])
abbrev s_UF : Stmt := inClass (top 3) 0
theorem sc_UF : NScope ["self", "number", "__class__"] ["self", "number"] ["__class__"] (defScope s_UF) := nscope_by (by decide +kernel)
def sp_UF : Addr → Sp := fun C vs H Q _ => ∃ (a : Addr) (x0 : Int), vs = [.ref a, .int x0] ∧ H a = some (exo a C none) ∧ PySem.W.findIn K (.ref C) "number" = some none ∧ -(2 ^ 64) < x0 ∧ x0 < 2 ^ 64 ∧ ∀ d, H d = none → d ≠ a → Q .non (upd (upd H d (exd d [(("number" : Str), V.int x0)])) a (exo a C (some d)))
theorem x_UF {C : Addr} (D : XD P K mg C "UnknownFormula" "UnknownFormula.__init__" s_UF) : Xn P w K mg base 1 C "UnknownFormula" (sp_UF (K := K) C) := by
  obtain ⟨f, c, cc, oc, kV, doc, pm, ct, od, an, osl, lk, hcd, F, h1, h2⟩ := D.ex
  refine ⟨⟨f, _, ["self", "number"], fn_sup (N := ["self", "number", "__class__"]) (ps := ["number"]) (pl := _) lk hcd sc_UF D.ox F (by decide +kernel) (fun vs H Q E h => ?_) (fun A outer s H vs Q E hr h => ?_), h1, h2, Binds.all fun us hl => match us, hl with | [_, _], _ => rfl⟩, D.ox, D.gc⟩
  · obtain ⟨a, x0, rfl, _⟩ := h; rfl
  · obtain ⟨a, x0, rfl, ha, hf0, hc0, hd0, q⟩ := h
    refine ⟨a, _, _, rfl, ha, pa_cons (pe_joined (.cons pe_str (.cons (pe_fmt (pv 1)) .nil))) pa_nil, (pss_one (ps_ost (pv 0) (pv 1))), ?_⟩
    walk_at "rdx"
    have ll0 : (Str.ofString "there is no formula ").length ≤ 200 := by decide +kernel
    have l0 : Str.empty.length = 0 := rfl
    have lg0 := log64 hc0 hd0
    have li0 := int_text_len_1921 lg0
    repeat (first | refine ⟨by (simp only [len_app, l0, sizeLine_eq]; omega), ?_⟩ | refine ⟨lg0, ?_⟩)
    exact ⟨ha, C, D.ox, hf0, .inl ⟨ha, fun d hd hda => q d hd hda⟩⟩

structure FmT (K : PySem.W.Frag) (mg : Str → Option Value) (Fo UF WE : Addr) : Prop extends Nm mg where
  cls : Cls K Fo
  a_starts : NoAttr K Fo "_starts"
  a_numbers : NoAttr K Fo "_numbers"
  na : PySem.W.findIn K (.ref UF) "number" = some none
/-- an exception with one field, at a later heap -/
def X1 (C : Addr) (f : Str) (v : V) (H : Hp) (E : XK) : Prop := ∀ d H', Same H H' → H' d = some (.xd [(f, v)]) → E (.ref C) (some d) H'
/-- raise UnknownFormula(n) -/
theorem raiseUF {n : Int} {H : Hp} {E : XK} {σ : L2.St} {ta : TA} (x : PySem.W.findIn K (.ref UF) "number" = some none) (h0 : -(2 ^ 64) < n) (h1 : n < 2 ^ 64) (hta : ∀ R : List V → Hp → Prop, R [.int n] H → ta σ H R) (h : X1 UF "number" (.int n) H E) : tMkO UF (sp_UF (K := K) UF) [] ta σ H (fun cls d H' => E cls d H') := by
  refine hta _ ⟨by show 1 ≤ 1000; decide, fun e1 he1 => ?_⟩
  refine ⟨e1, n, rfl, upd_same, x, h0, h1, fun d1 hd1 hde1 => ⟨rfl, d1, _, upd_same, by rw [upd_ne hde1, upd_same], by rw [upd_ne hde1] at hd1; exact hd1, ?_⟩⟩
  rw [exg1 he1]
  rw [upd_ne hde1] at hd1
  exact h d1 _ (UL.Same.new hd1) upd_same
theorem sTr {H H1 H2 : Hp} (a : Same H H1) (b : Same H1 H2) : Same H H2 := fun c o e => b c o (a c o e)
/-! ### rows and their numbers -/
abbrev Row := Str × List Int
def kyF (r : Row) : NestedKey := .tup [.text r.1, .tup (r.2.map .num)]
theorem nums_inj : ∀ {a b : List Int}, a.map NestedKey.num = b.map NestedKey.num → a = b
  | [], [], _ => rfl
  | [], _ :: _, h => by cases h
  | _ :: _, [], h => by cases h
  | x :: r, y :: t, h => by
    rw [List.map_cons, List.map_cons] at h
    injection h with h1 h2
    injection h1 with h1
    rw [h1, nums_inj h2]
theorem kyF_inj {r q : Row} (h : kyF r = kyF q) : r = q := by
  unfold kyF at h
  injection h with h
  injection h with h1 h2
  injection h1 with h1
  injection h2 with h2 _
  injection h2 with h2
  exact Prod.ext h1 (nums_inj h2)
theorem depth_nums : ∀ s : List Int, NestedKey.depthAll (s.map .num) = 0
  | [] => rfl
  | _ :: r => by rw [List.map_cons, NestedKey.depthAll, depth_nums r]; rfl
theorem kyF_depth (r : Row) : (kyF r).depth ≤ 8 := by
  have h : (kyF r).depth = 2 := by
    unfold kyF
    simp [NestedKey.depth, NestedKey.depthAll, depth_nums]
  omega
theorem nks_ints {H : Hp} : ∀ s : List Int, NKs H (s.map .num) (s.map V.int)
  | [] => .nil
  | _ :: r => .cons (.num _) (nks_ints r)
theorem nks_inv {H : Hp} : ∀ {s : List Int} {vs : List V}, NKs H (s.map .num) vs → vs = s.map V.int
  | [], _, h => by cases h; rfl
  | x :: r, _, h => by
    cases h with
    | cons h1 h2 => cases h1; rw [nks_inv h2]; rfl
/-- a row stands at e -/
def RowS (H : Hp) (e : Addr) (r : Row) : Prop := ∃ t, H e = some (.tup [.str r.1, .ref t]) ∧ H t = some (.tup (r.2.map V.int))
theorem RowS.stay {H H' : Hp} {e : Addr} {r : Row} (h : RowS H e r) (s : TupsStay H H') : RowS H' e r := let ⟨t, h1, h2⟩ := h; ⟨t, s _ _ h1, s _ _ h2⟩
theorem RowS.nk {H : Hp} {e : Addr} {r : Row} (h : RowS H e r) : NK H (kyF r) (.ref e) := let ⟨t, h1, h2⟩ := h; .tup h1 (.cons (.text _) (.cons (.tup h2 (nks_ints _)) .nil))
theorem RowS.of {H : Hp} {e : Addr} {r : Row} (h : NK H (kyF r) (.ref e)) : RowS H e r := by
  cases h with
  | tup h1 h2 =>
    cases h2 with
    | cons a h2 =>
      cases a
      cases h2 with
      | cons b h2 =>
        cases h2
        cases b with
        | tup b1 b2 => exact ⟨_, h1, nks_inv b2 ▸ b1⟩
def RowsS (H : Hp) (es : List Addr) (R : List Row) : Prop := Paired (fun e r => RowS H e r) es R
theorem RowsS.stay {H H' : Hp} {es : List Addr} {R : List Row} (h : RowsS H es R) (s : TupsStay H H') : RowsS H' es R := L2.Paired.mapP h fun _ _ g => g.stay s
def NR (kvs : UX.NX) (st : Nat) (R : List Row) : Prop := R.Nodup ∧ kvs.length = R.length ∧ ∀ (i : Nat) (p : NestedKey × Addr × V), kvs[i]? = some p → ∃ r, R[i]? = some r ∧ p.1 = kyF r ∧ p.2.2 = .int ((st + i : Nat) : Int)
theorem NR.rows {H : Hp} : ∀ {kvs : UX.NX} {R : List Row} {st : Nat}, NR kvs st R → (∀ p ∈ kvs, NK H p.1 (.ref p.2.1)) → RowsS H (kvs.map fun p => p.2.1) R
  | [], [], _, _, _ => .nil
  | [], _ :: _, _, h, _ => by have := h.2.1; cases this
  | _ :: _, [], _, h, _ => by have := h.2.1; cases this
  | p :: ps, r :: rs, st, h, hk => by
    obtain ⟨r', e1, e2, _⟩ := h.2.2 0 p rfl
    cases Option.some.inj e1
    refine .cons ?_ (NR.rows (st := st + 1) (kvs := ps) (R := rs) ⟨(List.nodup_cons.mp h.1).2, Nat.succ.inj h.2.1, fun i q hq => ?_⟩ fun q hq => hk q (List.mem_cons_of_mem _ hq))
    · have := hk p List.mem_cons_self
      rw [e2] at this
      exact RowS.of this
    · obtain ⟨r2, f1, f2, f3⟩ := h.2.2 (i + 1) q (by simpa using hq)
      exact ⟨r2, by simpa using f1, f2, by rw [f3]; congr 2; omega⟩
def fsF (st : Nat) (d : Addr) : List (Str × V) := [("_starts", .int (st : Nat)), ("_numbers", .ref d)]
section
variable (P : Program) (w : World)
def FoL (Fo : Addr) (H : Hp) (a d : Addr) (st : Nat) (R : List Row) : Prop := ∃ dx kvs, H a = some (.ins Fo dx (fsF st d)) ∧ ND P w H d kvs ∧ NR kvs st R
end
theorem FoL.stay {H H' : Hp} {a d : Addr} {st : Nat} {R : List Row} (h : FoL P w Fo H a d st R) (s : TupsStay H H') (ha : H' a = H a) (hd : H' d = H d) : FoL P w Fo H' a d st R :=
  let ⟨dx, kvs, h1, h2, h3⟩ := h; ⟨dx, kvs, ha.trans h1, h2.stay s hd, h3⟩
theorem FoL.same {H H' : Hp} {a d : Addr} {st : Nat} {R : List Row} (h : FoL P w Fo H a d st R) (s : Same H H') : FoL P w Fo H' a d st R :=
  let ⟨dx, kvs, h1, h2, h3⟩ := h; ⟨dx, kvs, s _ _ h1, h2.same s, h3⟩
abbrev s_Formulas___init__ : Stmt := inClass (top 5) 0
abbrev sc_Formulas___init___N : List Str := ["self", "number"]
theorem sc_Formulas___init__ : FnScope sc_Formulas___init___N ["self", "number"] (defScope s_Formulas___init__) := ⟨rfl, rfl, rfl, by decide +kernel, rfl, by decide +kernel, by decide +kernel⟩
-- 0 self, 1 number
def sp_finit (P : Program) (w : World) (Fo : Addr) : Sp := fun vs H Q _ => ∃ (x dx : Addr) (st : Nat), vs = [.ref x, .int (st : Nat)] ∧ H x = some (.ins Fo dx []) ∧ ∀ H' d, H d = none → d ≠ x → FoL P w Fo H' x d st [] → But x H H' → Q .non H'
theorem m_finit (T : FmT K mg Fo UF WE) (D : MD K Fo "__init__" "Formulas.__init__" s_Formulas___init__) : Mn P w K mg base CX0 1 Fo "__init__" (sp_finit P w Fo) := by
  refine D.mn sc_Formulas___init__ (fun _ _ _ _ _ _ us hl => match us, hl with | [_, _], _ => rfl) (fun vs H Q E h => ?_) (fun f cdv A outer s H vs Q E hr h => ?_)
  · obtain ⟨x, dx, st, rfl, _⟩ := h; rfl
  · obtain ⟨x, dx, st, rfl, hx, q⟩ := h
    refine ⟨_, (pss_cons (ps_fld (pv 0) (pv 1) rfl)
      (pss_one (ps_fld (pv 0) pe_ndnew rfl))), ?_⟩
    walk_at "rd"
    refine ⟨Fo, dx, [], hx, T.cls, T.a_starts, by decide, fun d H' hd hnd sm => ?_⟩
    have dx' : d ≠ x := fun z => by rw [z, upd_same] at hd; cases hd
    have hx' := sm _ _ (upd_same : upd H x (.ins Fo dx (putF "_starts" (.int (st : Nat)) [])) x = _)
    refine ⟨Fo, dx, _, hx', T.cls, T.a_numbers, by show 1 < 1000; decide, q _ d (by rw [upd_ne dx'] at hd; exact hd) dx' ⟨dx, [], upd_same, hnd.stay (TupsStay.put hx' fun _ z => nomatch z) (upd_ne dx'), List.nodup_nil, rfl, fun i p hp => by simp at hp⟩ fun c o e n => (upd_ne n).trans (sm _ _ ((upd_ne n).trans e))⟩
abbrev s_Formulas_total : Stmt := inClass (top 5) 3
abbrev sc_Formulas_total_N : List Str := ["self"]
theorem sc_Formulas_total : FnScope sc_Formulas_total_N ["self"] (defScope s_Formulas_total) := ⟨rfl, rfl, rfl, by decide +kernel, rfl, by decide +kernel, by decide +kernel⟩
-- 0 self
def sp_ftotal (P : Program) (w : World) (Fo : Addr) : Sp := fun vs H Q _ => ∃ (a d : Addr) (st : Nat) (R : List Row), vs = [.ref a] ∧ FoL P w Fo H a d st R ∧ Q (.int ((st + R.length : Nat) : Int)) H
theorem m_ftotal (T : FmT K mg Fo UF WE) (D : MD K Fo "total" "Formulas.total" s_Formulas_total) : Mn P w K mg base CX0 1 Fo "total" (sp_ftotal P w Fo) := by
  refine D.mn sc_Formulas_total (fun _ _ _ _ _ _ us hl => match us, hl with | [_], _ => rfl) (fun vs H Q E h => ?_) (fun f cdv A outer s H vs Q E hr h => ?_)
  · obtain ⟨a, d, st, R, rfl, _⟩ := h; rfl
  · obtain ⟨a, d, st, R, rfl, ⟨dx, kvs, h1, h2, h3⟩, q⟩ := h
    refine ⟨_, (pss_one (ps_ret (pe_op op_addA (pe_fld (pv 0) (by rfl)) (pe_callB call_lenN (by rfl) T.n_len (by decide +kernel) (pa_cons (pe_fld (pv 0) (by rfl)) pa_nil))))), ?_⟩
    walk_at "rd"
    refine ⟨Fo, dx, _, h1, T.cls, T.a_starts, .int (st : Nat), rfl, Fo, dx, _, h1, T.cls, T.a_numbers, .ref d, rfl, d, kvs, rfl, h2, addII.mpr ?_⟩
    rw [h3.2.1]
    exact q
abbrev s_Formulas_rows : Stmt := inClass (top 5) 2
abbrev sc_Formulas_rows_N : List Str := ["self"]
theorem sc_Formulas_rows : FnScope sc_Formulas_rows_N ["self"] (defScope s_Formulas_rows) := ⟨rfl, rfl, rfl, by decide +kernel, rfl, by decide +kernel, by decide +kernel⟩
-- 0 self
def sp_frows (P : Program) (w : World) (Fo : Addr) : Sp := fun vs H Q _ => ∃ (a d : Addr) (st : Nat) (R : List Row), vs = [.ref a] ∧ FoL P w Fo H a d st R ∧ ∀ l es H', H l = none → H' l = some (.lst (es.map V.ref)) → RowsS H' es R → Same H H' → Q (.ref l) H'
theorem m_frows (T : FmT K mg Fo UF WE) (D : MD K Fo "rows" "Formulas.rows" s_Formulas_rows) : Mn P w K mg base CX0 1 Fo "rows" (sp_frows P w Fo) := by
  refine D.mn sc_Formulas_rows (fun _ _ _ _ _ _ us hl => match us, hl with | [_], _ => rfl) (fun vs H Q E h => ?_) (fun f cdv A outer s H vs Q E hr h => ?_)
  · obtain ⟨a, d, st, R, rfl, _⟩ := h; rfl
  · obtain ⟨a, d, st, R, rfl, ⟨dx, kvs, h1, h2, h3⟩, q⟩ := h
    refine ⟨_, (pss_one (ps_ret (pe_callTy (call_listN rfl) (by rfl) T.n_list (by decide +kernel) (pa_cons (pe_fld (pv 0) (by rfl)) pa_nil)))), ?_⟩
    walk_at "rd"
    have h2' := h2
    obtain ⟨xs, _, _, hk⟩ := h2'
    refine ⟨Fo, dx, _, h1, T.cls, T.a_numbers, .ref d, rfl, d, kvs, rfl, h2, fun l hl => q l (kvs.map fun p => p.2.1) _ hl (by rw [upd_same, List.map_map]; rfl) ((NR.rows h3 fun p hp => (hk p hp).1).stay (TupsStay.same (UL.Same.new hl))) (UL.Same.new hl)⟩
abbrev s_Formulas___call__ : Stmt := inClass (top 5) 1
abbrev sc_Formulas___call___N : List Str := ["self", "function", "args", "item"]
theorem sc_Formulas___call__ : FnScope sc_Formulas___call___N ["self", "function", "args"] (defScope s_Formulas___call__) := ⟨rfl, rfl, rfl, by decide +kernel, rfl, by decide +kernel, by decide +kernel⟩
-- 0 self, 1 function, 2 args, 3 item
/-- not a number yet -/
def badI (n : Nat) (i : Int) : Bool := !(decide (0 ≤ i) && decide (i < (n : Int)))
def putR (R : List Row) (r : Row) : List Row := if r ∈ R then R else R ++ [r]
theorem find_first {α : Type} {p : α → Bool} : ∀ {s : List α} {i : Nat} {v : α}, s[i]? = some v → (s.take i).find? p = none → p v = true → s.find? p = some v
  | [], i, v, h, _, _ => by simp at h
  | x :: r, 0, v, h, _, hp => by
    simp at h; subst h
    rw [List.find?_cons, hp]
  | x :: r, i + 1, v, h, hn, hp => by
    rw [List.take_succ_cons, List.find?_cons] at hn
    cases e : p x with
    | true => rw [e] at hn; cases hn
    | false =>
      rw [e] at hn
      rw [List.find?_cons, e]
      exact find_first (by simpa using h) hn hp
theorem find_more {α : Type} {p : α → Bool} {s : List α} {i : Nat} {v : α} (h : s[i]? = some v) (hn : (s.take i).find? p = none) (hp : p v = false) : (s.take (i + 1)).find? p = none := by
  rw [List.take_add_one, h, List.find?_append, hn]
  simp [hp]
theorem idx_nd {R : List Row} {r : Row} {i : Nat} (nd : R.Nodup) (h : R[i]? = some r) : R.idxOf r = i := by
  have hm : r ∈ R := List.mem_of_getElem? h
  have hl := List.idxOf_lt_length_iff.mpr hm
  have hi := (List.getElem?_eq_some_iff.mp h).1
  refine (List.getElem?_inj hl nd).mp ?_
  rw [h, List.getElem?_eq_getElem hl, List.getElem_idxOf hl]
/-- ints in a list or a tuple of the heap -/
def SqI (H : Hp) (l : Addr) (s : List Int) : Prop := H l = some (.lst (s.map V.int)) ∨ H l = some (.tup (s.map V.int))
theorem NR.snoc {kvs : UX.NX} {st : Nat} {R : List Row} {r : Row} {a : Addr} (h : NR kvs st R) (n : r ∉ R) : NR (kvs ++ [(kyF r, a, .int ((st + R.length : Nat) : Int))]) st (R ++ [r]) := by
  refine ⟨List.nodup_append.mpr ⟨h.1, List.nodup_cons.mpr ⟨List.not_mem_nil, List.nodup_nil⟩, fun x hx y hy e => ?_⟩, by rw [List.length_append, List.length_append, h.2.1]; rfl, fun i p hp => ?_⟩
  · rw [List.mem_singleton.mp hy] at e
    exact n (e ▸ hx)
  · by_cases c : i < kvs.length
    · rw [List.getElem?_append_left c] at hp
      obtain ⟨q, e1, e2, e3⟩ := h.2.2 i p hp
      exact ⟨q, by rw [List.getElem?_append_left (by have := h.2.1; omega)]; exact e1, e2, e3⟩
    · rw [List.getElem?_append_right (by omega)] at hp
      have hi : i - kvs.length = 0 := by
        have := (List.getElem?_eq_some_iff.mp hp).1
        simp only [List.length_cons, List.length_nil] at this
        omega
      rw [hi] at hp
      cases hp
      have el : i = R.length := by have := h.2.1; omega
      exact ⟨r, by rw [el, List.getElem?_append_right (Nat.le_refl _), Nat.sub_self]; rfl, rfl, by rw [el]⟩
def SmD (d : Addr) (H H' : Hp) : Prop := ∀ c o, H c = some o → c ≠ d → H' c = some o
def sp_fcall (P : Program) (w : World) (K : PySem.W.Frag) (Fo UF : Addr) : Sp := fun vs H Q E => ∃ (a d l : Addr) (st : Nat) (R : List Row) (f : Str) (s : List Int), vs = [.ref a, .str f, .ref l] ∧ FoL P w Fo H a d st R ∧ SqI H l s ∧ s.length ≤ 3 ∧ st + R.length ≤ 1000 ∧ (∀ i ∈ s, -(2 ^ 60) < i ∧ i < 2 ^ 60) ∧
  (∀ i, s.find? (badI (st + R.length)) = some i → X1 UF "number" (.int i) H E) ∧ (s.find? (badI (st + R.length)) = none → ∀ H', FoL P w Fo H' a d st (putR R (f, s)) → SmD d H H' → Q (.int ((st + R.idxOf (f, s) : Nat) : Int)) H')
theorem m_fcall (T : FmT K mg Fo UF WE) (D : MD K Fo "__call__" "Formulas.__call__" s_Formulas___call__) (m_total : Mn P w K mg base CX0 1 Fo "total" (sp_ftotal P w Fo)) (x_UnknownFormula : Xn P w K mg base 1 UF "UnknownFormula" (sp_UF (K := K) UF)) : Mn P w K mg base (L2.CX P w) 3 Fo "__call__" (sp_fcall P w K Fo UF) := by
  refine D.mx sc_Formulas___call__ (fun _ _ _ _ _ _ us hl => match us, hl with | [_, _, _], _ => rfl) (fun vs H Q E h => ?_) (fun f cdv A outer s H vs Q E hr h => ?_)
  · obtain ⟨a, d, l, st, R, f, s, rfl, _⟩ := h; rfl
  · obtain ⟨a, d, l, st, R, f, s0, rfl, hF, hl0, hs, hn, hb, qx, q⟩ := h
    obtain ⟨kd, hl⟩ : SqA K H l (s0.map V.int) := hl0.elim (fun h => ⟨.l, .inl (.inl h)⟩) fun h => ⟨.t, .inl (.inl h)⟩
    refine ⟨_, (pss_cons (ps_for (passes_of rfl) rfl (pi_any (pv 2)) (pg_name (i := 3) sc_Formulas___call__.nd rfl (Or.inl rfl)) (pss_one (ps_if (pt_not (pt_chain op_leA op_ltA pe_int (pv 3) (pe_m' m_total T.cls hr (by decide) pass0 (pv 0)))) (pss_one (ps_raise rfl (takes_of rfl rfl rfl rfl) (pmk_x x_UnknownFormula hr (by decide) (by rfl) (pa_cons (pv 3) pa_nil)))) pss_nil)))
      (pss_one (ps_ret (pe_bmN PySem.F.plainAttrs_dict PySem.F.slot_dict_setdefault PySem.F.type_dict_setdefault (mt_setN hr) (pe_fld (pv 0) (by rfl)) (pa_cons (pe_tup (pa_cons (pv 1) (pa_cons (pe_callTy call_tupA (by rfl) T.n_tuple (by decide +kernel) (pa_cons (pv 2) pa_nil)) pa_nil))) (pa_cons (pe_m' m_total T.cls hr (by decide) pass0 (pv 0)) pa_nil)))))), ?_⟩
    walk_at "rd"
    refine ⟨kd, ⟨_, hl⟩, fj_any (xs := s0.map V.int) kd (fun i σ' H' => (∃ z, σ' = [some (.ref a), some (.str f), some (.ref l), z]) ∧ H' = H ∧ (s0.take i).find? (badI (st + R.length)) = none) ⟨⟨_, rfl⟩, rfl, rfl⟩ (fun i σ' H' _ inv => inv.2.1 ▸ hl) (fun i x σ' H' hx inv => ?_) fun σ' H' inv => ?_⟩
    · obtain ⟨⟨z, rfl⟩, rfl, hn0⟩ := inv
      rw [List.getElem?_map] at hx
      obtain ⟨v, hv, rfl⟩ := Option.map_eq_some_iff.mp hx
      have hvm := hb v (List.mem_of_getElem? hv)
      walk_at "rd"
      have hF' := hF
      obtain ⟨dx, kvs, h1, _, _⟩ := hF'
      have rs : badI (st + R.length) v = true → X1 UF "number" (.int v) H' E := fun hbv => qx v (find_first hv hn0 hbv)
      by_cases c0 : 0 ≤ v
      · rw [if_pos c0]
        refine ⟨dx, _, h1, rfl, a, d, st, R, rfl, hF, _, rfl, ?_⟩
        by_cases c1 : v < ((st + R.length : Nat) : Int)
        · rw [if_neg (by simp only [Bool.not_eq_true', decide_eq_false_iff_not]; exact fun q => q c1)]
          exact ⟨⟨_, rfl⟩, rfl, find_more hv hn0 (by unfold badI; rw [decide_eq_true c0, decide_eq_true c1]; rfl)⟩
        · rw [if_pos (by simp only [Bool.not_eq_true', decide_eq_false_iff_not]; exact c1)]
          exact raiseUF T.na (by omega) (by omega) (fun R r => ⟨_, rfl, r⟩) (rs (by unfold badI; rw [decide_eq_false c1, Bool.and_false]; rfl))
      · rw [if_neg c0, if_pos (by decide)]
        exact raiseUF T.na (by omega) (by omega) (fun R r => ⟨_, rfl, r⟩) (rs (by unfold badI; rw [decide_eq_false c0, Bool.false_and]; rfl))
    · obtain ⟨⟨z, rfl⟩, rfl, hn0⟩ := inv
      rw [List.length_map, List.take_length] at hn0
      walk_at "rd"
      simp only [tBMN]
      walk_at "rd"
      have hF' := hF
      obtain ⟨dx, kvs, h1, h2, h3⟩ := hF'
      refine ⟨Fo, dx, _, h1, T.cls, T.a_numbers, .ref d, rfl, ⟨d, rfl, kvs, h2⟩, ?_⟩
      have fin : ∀ (t : Addr) (H1 : Hp), Same H' H1 → H1 t = some (.tup (s0.map V.int)) → (2 ≤ sizeLine ∧ ∀ (p : Addr), H1 p = none → ∃ x_4 x_5, upd H1 p (HO.tup [V.str f, .ref t]) a = some (HO.ins Fo x_4 x_5) ∧ List.lookup (Str.ofString "total") x_5 = none ∧ sp_ftotal P w Fo [V.ref a] (upd H1 p (HO.tup [V.str f, .ref t])) (fun x_6 H1 => rSetN P w (.ref d) [V.ref p, x_6] H1 Q) E0) := fun t H1 s1 ht => by
        refine ⟨by rw [sizeLine_eq]; decide, fun p hp => ?_⟩
        have s2 := sTr s1 (UL.Same.new (o := .tup [V.str f, .ref t]) hp)
        have hp2 : upd H1 p (HO.tup [V.str f, .ref t]) p = _ := upd_same
        have ht2 := (UL.Same.new (o := .tup [V.str f, .ref t]) hp) _ _ ht
        generalize upd H1 p (HO.tup [V.str f, .ref t]) = H2 at s2 hp2 ht2 ⊢
        have hF2 := hF.same s2
        have hR : RowS H2 p (f, s0) := ⟨t, hp2, ht2⟩
        have h22 := h2.same s2
        refine ⟨dx, _, s2 _ _ h1, rfl, a, d, st, R, rfl, hF2, d, kvs, kyF (f, s0), p, _, rfl, rfl, h22, hR.nk, kyF_depth _, by rw [h3.2.1, sizeLine_eq]; omega, fun q0 hq0 eq0 => ?_, fun hno xs hnd => ?_⟩
        · obtain ⟨i, hi⟩ := List.getElem?_of_mem hq0
          obtain ⟨r, e1, e2, e3⟩ := h3.2.2 i q0 hi
          obtain rfl : r = (f, s0) := kyF_inj (e2.symm.trans eq0)
          rw [e3, ← idx_nd h3.1 e1]
          refine q hn0 H2 ?_ fun c o e _ => s2 _ _ e
          unfold putR
          rw [if_pos (List.mem_of_getElem? e1)]
          exact hF2
        · have hnr : (f, s0) ∉ R := fun hm => by
            obtain ⟨i, hi⟩ := List.getElem?_of_mem hm
            have hil := (List.getElem?_eq_some_iff.mp hi).1
            have hik : i < kvs.length := by rw [h3.2.1]; exact hil
            have hk : kvs[i]? = some kvs[i] := List.getElem?_eq_getElem hik
            obtain ⟨r, e1, e2, _⟩ := h3.2.2 i _ hk
            rw [hi] at e1
            cases e1
            exact hno _ (List.mem_of_getElem? hk) e2
          have ad : a ≠ d := by
            obtain ⟨xs0, _, e0, _⟩ := h2
            exact ne_of h1 e0 fun z => nomatch z
          have ei : st + R.length = st + R.idxOf (f, s0) := by rw [List.idxOf_eq_length hnr]
          have fin2 : FoL P w Fo (upd H2 d (NDe P w d xs)) a d st (putR R (f, s0)) := by
            unfold putR
            rw [if_neg hnr]
            exact ⟨dx, _, (upd_ne ad).trans (s2 _ _ h1), hnd, h3.snoc hnr⟩
          rw [ei]
          exact q hn0 _ fin2 fun c o e n => (upd_ne n).trans (s2 _ _ e)
      rcases hl0 with hl0 | hl0
      · exact ⟨l, _, rfl, .inl ⟨.inl (.inl hl0), fun t ht => fin t _ (UL.Same.new ht) upd_same⟩⟩
      · exact ⟨l, _, rfl, .inr ⟨.inl (.inl hl0), fin l _ (fun _ _ e => e) hl0⟩⟩
end
end U

set_option Elab.async false
set_option linter.all false
set_option maxRecDepth 100000
set_option maxHeartbeats 4000000
set_option pp.deepTerms true
set_option pp.maxSteps 400000
namespace U
open PySem PySem.Spec PyProof.Rows L2 UL UX
local macro_rules | `(tactic| walk_at "rd") => `(tactic| simp only [sMatch, tJs, tFmt, tBC, tMethA, tMakeL, iEnumS, tSeq, tAsg, tOp, tCB, tCons, tNil, tVar, tC, tB, tTest, tNot, tIfS, tNext, tYes, tUn, rU, tM0, tGFrom, tGThen, tG0, tYfLst, gcxK, tSubO, tProp, tListG, tMethG, tBMF, tFld, sFld, tMeth, tMake, tSl, tNoPart, tPart, tM1, gTup, gCons, gNil, tDrop, tFor_eq, tLc_eq, tLc2_eq, iRng1_eq, StX.tStar, iList, iTup, iStr, iAny_var, iZipB, tLenSetS, wipe, tVar, tAndV, tOrV, tNotV, tOr, tAnd, tLst, tTup, tBM, tBM0, tChain, tCall, cxK, noxK, addII, addSS, mulII, eqII, neII, neSS, cIntI, cAbsI, rI, rI0, rLt, rLe, rGt_, rGe_, rSub_, rMod, rPow, rDivW, rNeg, gName, tRet, L2.start, List.length_cons, List.length_nil, List.map_cons, List.map_nil, List.replicate, List.cons_append, List.nil_append, List.getElem?_cons_zero, List.getElem?_cons_succ, List.set_cons_zero, List.set_cons_succ, Option.some.injEq, exists_eq_left', exists_eq_left, V.int.injEq, V.bl.injEq, V.str.injEq, V.ref.injEq, V.ty.injEq, List.cons.injEq, and_true, true_and, reduceCtorEq, false_and, exists_false, or_false, false_or, exists_and_left, exists_and_right, List.append_nil, forall_eq, decide_eq_true_eq, Bool.not_eq_true, Nat.reduceAdd, Nat.reduceSub, List.replicate_zero, List.replicate_succ, Nat.zero_le, ite_true, ite_false, if_true, if_false])
section
variable {P : Program} {w : World} {K : PySem.W.Frag} {mg : Str → Option Value} {base : Heap}

variable {R Wr B Pg : Addr}
abbrev s__law_mixed : Stmt := top 8
abbrev sc__law_mixed_N : List Str := ["_law_cell", "_law_k", "_law_first", "_law_second"]
theorem sc__law_mixed : FnScope sc__law_mixed_N ["_law_cell", "_law_k"] (defScope s__law_mixed) := ⟨rfl, rfl, rfl, by decide +kernel, rfl, by decide +kernel, by decide +kernel⟩
-- 0 _law_cell, 1 _law_k, 2 _law_first, 3 _law_second
def sp_mixed : Sp := fun vs H Q _ => ∃ c k : Int, vs = [.int c, .int k] ∧ 0 ≤ c ∧ c < 10 ^ 18 ∧ 0 ≤ k ∧ k < 1000 ∧ ∀ r : Int, 0 ≤ r → Q (.int r) H
theorem d_mixed (T : Nm mg) (D : TD K mg "_law_mixed" s__law_mixed) : Dn P w K mg base CX0 1 "_law_mixed" sp_mixed := by
  refine D.dn sc__law_mixed (fun _ _ _ _ _ _ us hl => match us, hl with | [_, _], _ => rfl) (fun vs H Q E h => ?_) (fun f cdv A outer s H vs Q E hr h => ?_)
  · obtain ⟨c, k, rfl, _⟩ := h; rfl
  · obtain ⟨c, k, rfl, h0, h1, h2, h3, q⟩ := h
    refine ⟨_, (pss_cons (ps_set (i := 2) sc__law_mixed.nd rfl (Or.inl rfl) (pe_op op_modA (pe_callTy call_intA (by rfl) T.n_int (by decide +kernel) (pa_cons (pe_op op_addA (pe_op op_addA (pe_op op_mulA (pv 0) pe_int) (pe_op op_mulA (pv 1) pe_int)) pe_int) pa_nil)) pe_int))
      (pss_cons (ps_set (i := 3) sc__law_mixed.nd rfl (Or.inl rfl) (pe_op op_modA (pe_callTy call_intA (by rfl) T.n_int (by decide +kernel) (pa_cons (pe_op op_addA (pe_op op_addA (pe_op op_mulA (pv 2) (pv 2)) (pe_op op_mulA (pv 1) pe_int)) pe_int) pa_nil)) pe_int))
      (pss_one (ps_ret (pe_op op_modA (pe_callTy call_intA (by rfl) T.n_int (by decide +kernel) (pa_cons (pe_op op_addA (pe_op op_mulA (pv 3) (pv 3)) (pv 2)) pa_nil)) pe_int))))), ?_⟩
    walk_at "rd"
    have e : ∀ a b : Int, 0 < b → 0 ≤ a % b ∧ a % b < b := fun a b hb => ⟨Int.emod_nonneg a (by omega), Int.emod_lt_of_pos a hb⟩
    refine ⟨.inl ⟨by omega, by omega⟩, .inl ⟨by omega, by omega⟩, by decide, .inl ?_, .inl ⟨by omega, by omega⟩, by decide, .inl ?_, by decide, q _ (e _ 99991 (by decide)).1⟩
    · have := e (c * 48271 + k * 69621 + 11) 65537 (by decide); omega
    · have := e ((c * 48271 + k * 69621 + 11) % 65537 * ((c * 48271 + k * 69621 + 11) % 65537) + k * 7919 + 3) 64007 (by decide); omega

abbrev s__law_draw : Stmt := top 10
abbrev sc__law_draw_N : List Str := ["_law_pool_here", "_law_many"]
theorem sc__law_draw : FnScope sc__law_draw_N ["_law_pool_here", "_law_many"] (defScope s__law_draw) := ⟨rfl, rfl, rfl, by decide +kernel, rfl, by decide +kernel, by decide +kernel⟩
-- 0 _law_pool_here, 1 _law_many
def sp_draw : Sp := fun vs H Q _ => ∃ (p : Addr) (m : Int), vs = [.ref p, .int m] ∧ 0 < m ∧ Pl H p ∧ ∀ r H', 0 ≤ r → r < m → Pl H' p → But p H H' → Q (.int r) H'
theorem d_draw (T : Nm mg) (D : TD K mg "_law_draw" s__law_draw) : Dn P w K mg base CX0 1 "_law_draw" sp_draw := by
  refine D.dn sc__law_draw (fun _ _ _ _ _ _ us hl => match us, hl with | [_, _], _ => rfl) (fun vs H Q E h => ?_) (fun f cdv A outer s H vs Q E hr h => ?_)
  · obtain ⟨p, m, rfl, _⟩ := h; rfl
  · obtain ⟨p, m, rfl, hm, ⟨ns, hp⟩, q⟩ := h
    refine ⟨_, (pss_cons (ps_if (pt_cmpR (op_eqA (hr.units)) (pv 0) (pe_lst pa_nil) (nomark _)) (pss_one (ps_ret pe_int)) pss_nil)
      (pss_one (ps_ret (pe_op op_modA (pe_callTy call_intA (by rfl) T.n_int (by decide +kernel) (pa_cons (pe_bm0 PySem.F.plainAttrs_list PySem.F.slot_list_pop PySem.F.type_list_pop mt_pop (pv 0)) pa_nil)) (pv 1))))), ?_⟩
    walk_at "rd"
    refine (fun p1 hp1 => eqL0 (xs := ns.map V.int) fl2_ints (.inl (.inl ?_)) (.inl (.inl upd_same)) ⟨_, rfl, ?_⟩)
    · rw [upd_ne (ne_of_none hp hp1)]; exact hp
    · have hp2 : upd H p1 (.lst []) p = some (.lst (ns.map V.int)) := by rw [upd_ne (ne_of_none hp hp1)]; exact hp
      rcases List.eq_nil_or_concat ns with rfl | ⟨L, y, rfl⟩
      · rw [if_pos (by simp)]
        exact q 0 _ (Int.le_refl 0) hm ⟨[], hp2⟩ (UL.Same.but (UL.Same.new hp1))
      · rw [if_neg (by simp)]
        refine ⟨.inl ⟨rfl, _, .inl (.inl hp2)⟩, p, _, .int y, rfl, rfl, hp2, by simp, cIntI.mpr ⟨y, rfl, hm, q _ _ (Int.emod_nonneg y (by omega)) (Int.emod_lt_of_pos y hm) ⟨L, ?_⟩ (But.trans (UL.Same.but (UL.Same.new hp1)) But.at_)⟩⟩
        rw [upd_same]; simp

abbrev s__law_pool : Stmt := top 9
abbrev sc__law_pool_N : List Str := ["_law_script", "_law_pool_here", "_law_at", "_law_left", "_law_k"]
theorem sc__law_pool : FnScope sc__law_pool_N ["_law_script"] (defScope s__law_pool) := ⟨rfl, rfl, rfl, by decide +kernel, rfl, by decide +kernel, by decide +kernel⟩
-- 0 _law_script, 1 _law_pool_here, 2 _law_at, 3 _law_left, 4 _law_k
def sp_pool : PySem.W.Frag → Sp := fun K vs H Q _ => ∃ (a : Addr) (ns : List Int), vs = [.ref a] ∧ SqL K H a (ns.map V.int) ∧ ns.length ≤ 63 ∧ ∀ p H', H p = none → Pl H' p → Same H H' → Q (.ref p) H'
theorem d_pool (T : Nm mg) (D : TD K mg "_law_pool" s__law_pool) (d__law_mixed : Dn P w K mg base CX0 1 "_law_mixed" sp_mixed) : Dn P w K mg base CX0 2 "_law_pool" (sp_pool K) := by
  refine D.dn sc__law_pool (fun _ _ _ _ _ _ us hl => match us, hl with | [_], _ => rfl) (fun vs H Q E h => ?_) (fun f cdv A outer s H vs Q E hr h => ?_)
  · obtain ⟨i, ns, rfl, _⟩ := h; rfl
  · obtain ⟨a, ns, rfl, ha, hn, q⟩ := h
    refine ⟨_, (pss_cons (ps_set (i := 1) sc__law_pool.nd rfl (Or.inl rfl) (pe_lst pa_nil))
      (pss_cons (ps_for PassesOwn.never rfl (pi_range1 (by rfl) T.n_range (pa_cons (pe_callB call_lenA (by rfl) T.n_len (by decide +kernel) (pa_cons (pv 0) pa_nil)) pa_nil)) (pg_name (i := 2) sc__law_pool.nd rfl (Or.inl rfl)) (pss_cons (ps_set (i := 3) sc__law_pool.nd rfl (Or.inl rfl) (pe_callB call_absA (by rfl) T.n_abs (by decide +kernel) (pa_cons (pe_callTy call_intA (by rfl) T.n_int (by decide +kernel) (pa_cons (pe_ix ix_seq (pv 0) (pv 2) (fun _ _ => rfl)) pa_nil)) pa_nil)))
      (pss_one (ps_if (pt_cmpR op_ltA (pv 3) (pe_op op_powA pe_int pe_int) (nomark _)) (pss_one (ps_for PassesOwn.never rfl (pi_range1 (by rfl) T.n_range (pa_cons pe_int pa_nil)) (pg_name (i := 4) sc__law_pool.nd rfl (Or.inl rfl)) (pss_one (ps_expr (pe_bm PySem.F.plainAttrs_list PySem.F.slot_list_append PySem.F.type_list_append mt_append (pv 1) (pa_cons (pe_d d__law_mixed hr (by decide) pass0 (by rfl) (pa_cons (pv 3) (pa_cons (pe_op op_addA (pe_op op_mulA pe_int (pv 2)) (pv 4)) pa_nil))) pa_nil)))))) (pss_one (ps_for PassesOwn.never rfl (pi_range1 (by rfl) T.n_range (pa_cons pe_int pa_nil)) (pg_name (i := 4) sc__law_pool.nd rfl (Or.inl rfl)) (pss_one (ps_if (pt_cmpR op_gtA (pv 3) pe_int (nomark _)) (pss_cons (ps_expr (pe_bm PySem.F.plainAttrs_list PySem.F.slot_list_append PySem.F.type_list_append mt_append (pv 1) (pa_cons (pe_op op_modA (pe_callTy call_intA (by rfl) T.n_int (by decide +kernel) (pa_cons (pv 3) pa_nil)) pe_int) pa_nil)))
      (pss_one (ps_set (i := 3) sc__law_pool.nd rfl (Or.inl rfl) (pe_op op_divA (pv 3) pe_int)))) pss_nil))))))))
      (pss_cons (ps_expr (pe_bm0 PySem.F.plainAttrs_list PySem.F.slot_list_reverse PySem.F.type_list_reverse mt_reverse (pv 1)))
      (pss_one (ps_ret (pv 1)))))), ?_⟩
    walk_at "rd"
    refine fun p hp => ?_
    have np : ∀ zs, Same H (upd H p (.lst zs)) := fun zs => UL.Same.new hp
    have haU : ∀ zs, SqL K (upd H p (.lst zs)) a (ns.map V.int) := fun zs => UL.Same.sqL (np zs) ha
    refine lenL (haU _) ⟨_, rfl, by omega, by simp; omega, FJ.rangeI (fun i σ' H' => ∃ ms : List Int, ms.length ≤ 60 * i ∧ (∃ x y z, σ' = [some (.ref a), some (.ref p), x, y, z]) ∧ H' = upd H p (.lst (ms.map V.int))) (by omega) ⟨[], Nat.zero_le _, ⟨_, _, _, rfl⟩, rfl⟩ (fun i σ' H' hi inv => ?_) fun σ' H' inv => ?_⟩
    · obtain ⟨ms, hm, ⟨x, y, z, rfl⟩, rfl⟩ := inv
      have hi2 : i < ns.length := by simpa using hi
      have hx : ns[i]? = some ns[i] := by simp [hi2]
      walk_at "rd"
      refine ixL (haU _) (atN (v := .int ns[i]) (by rw [List.getElem?_map, hx]; rfl)) ?_
      rw [cIntI, cAbsI]
      have habs : 0 ≤ (if ns[i] < 0 then -ns[i] else ns[i]) := by split <;> omega
      generalize (if ns[i] < 0 then -ns[i] else ns[i]) = av at habs
      refine ⟨⟨by decide, by decide, by decide⟩, av, rfl, ?_⟩
      have h10 : (10 : Int) ^ Int.toNat 18 = 10 ^ 18 := rfl
      rw [h10]
      by_cases hs : av < 10 ^ 18
      · rw [if_pos hs]
        refine ⟨by decide, by decide, FJ.rangeI (fun j σ' H' => ∃ m2 : List Int, m2.length ≤ 60 * i + j ∧ (∃ z, σ' = [some (.ref a), some (.ref p), some (.int i), some (.int av), z]) ∧ H' = upd H p (.lst (m2.map V.int))) (by decide) ⟨ms, hm, ⟨_, rfl⟩, rfl⟩ (fun j σ' H' hj inv => ?_) fun σ' H' inv => ?_⟩
        · obtain ⟨m2, hm2, ⟨z, rfl⟩, rfl⟩ := inv
          walk_at "rd"
          refine ⟨.inl ⟨rfl, _, .inl (.inl upd_same)⟩, .inr (by omega), av, _, rfl, habs, hs, by omega, by omega, fun r hr0 => ⟨p, _, _, rfl, rfl, upd_same, by rw [List.length_map, sizeLine_eq]; omega, m2 ++ [r], by simp; omega, ⟨_, rfl⟩, ?_⟩⟩
          rw [upd_upd, List.map_append]; rfl
        · obtain ⟨m2, hm2, ⟨z, rfl⟩, rfl⟩ := inv
          exact ⟨m2, by simp at hm2; omega, ⟨_, _, _, rfl⟩, rfl⟩
      · rw [if_neg hs]
        refine ⟨by decide, by decide, FJ.rangeI (fun j σ' H' => ∃ (m2 : List Int) (lv : Int), m2.length ≤ 60 * i + j ∧ 0 ≤ lv ∧ (∃ z, σ' = [some (.ref a), some (.ref p), some (.int i), some (.int lv), z]) ∧ H' = upd H p (.lst (m2.map V.int))) (by decide) ⟨ms, av, hm, habs, ⟨_, rfl⟩, rfl⟩ (fun j σ' H' hj inv => ?_) fun σ' H' inv => ?_⟩
        · obtain ⟨m2, lv, hm2, hlv, ⟨z, rfl⟩, rfl⟩ := inv
          walk_at "rd"
          by_cases h0 : 0 < lv
          · rw [if_pos h0]
            refine ⟨.inl ⟨rfl, _, .inl (.inl upd_same)⟩, by decide, p, _, _, rfl, rfl, upd_same, by rw [List.length_map, sizeLine_eq]; omega, ⟨by decide, by decide⟩, m2 ++ [lv % 1000], by simp; omega, lv / 1000, by omega, ⟨rfl, _, rfl⟩, ?_⟩
            rw [upd_upd, List.map_append]; rfl
          · rw [if_neg h0]
            exact ⟨m2, by omega, lv, hlv, ⟨rfl, _, rfl⟩, rfl⟩
        · obtain ⟨m2, lv, hm2, hlv, ⟨z, rfl⟩, rfl⟩ := inv
          exact ⟨m2, by simp at hm2; omega, ⟨_, _, _, rfl⟩, rfl⟩
    · obtain ⟨ms, hm, ⟨x, y, z, rfl⟩, rfl⟩ := inv
      walk_at "rd"
      refine ⟨.inl ⟨rfl, _, .inl (.inl upd_same)⟩, p, _, rfl, rfl, upd_same, ?_⟩
      exact q p _ hp ⟨ms.reverse, by rw [upd_upd, upd_same, List.map_reverse]⟩ (by rw [upd_upd]; exact np _)
end
end U

set_option Elab.async false
set_option linter.all false
set_option maxRecDepth 100000
set_option maxHeartbeats 4000000
set_option pp.deepTerms true
set_option pp.maxSteps 400000
namespace U
open PySem PySem.Spec PyProof.Rows L2 UL UX
local macro_rules | `(tactic| walk_at "rd") => `(tactic| simp only [sMatch, tJs, tFmt, tBC, tMethA, tMakeL, iEnumS, tSeq, tAsg, tOp, tCB, tCons, tNil, tVar, tC, tB, tTest, tNot, tIfS, tNext, tYes, tUn, rU, tM0, tGFrom, tGThen, tG0, tYfLst, gcxK, tSubO, tProp, tListG, tMethG, tBMF, tFld, sFld, tMeth, tMake, tSl, tNoPart, tPart, tM1, gTup, gCons, gNil, tDrop, tFor_eq, tLc_eq, tLc2_eq, iRng1_eq, StX.tStar, iList, iTup, iStr, iAny_var, iZipB, tLenSetS, wipe, tVar, tAndV, tOrV, tNotV, tOr, tAnd, tLst, tTup, tBM, tBM0, tChain, tCall, cxK, noxK, addII, addSS, mulII, eqII, neII, neSS, cIntI, cAbsI, rI, rI0, rLt, rLe, rGt_, rGe_, rSub_, rMod, rPow, rDivW, rNeg, gName, tRet, L2.start, List.length_cons, List.length_nil, List.map_cons, List.map_nil, List.replicate, List.cons_append, List.nil_append, List.getElem?_cons_zero, List.getElem?_cons_succ, List.set_cons_zero, List.set_cons_succ, Option.some.injEq, exists_eq_left', exists_eq_left, V.int.injEq, V.bl.injEq, V.str.injEq, V.ref.injEq, V.ty.injEq, List.cons.injEq, and_true, true_and, reduceCtorEq, false_and, exists_false, or_false, false_or, exists_and_left, exists_and_right, List.append_nil, forall_eq, decide_eq_true_eq, Bool.not_eq_true, Nat.reduceAdd, Nat.reduceSub, List.replicate_zero, List.replicate_succ, Nat.zero_le, ite_true, ite_false, if_true, if_false])
section
variable {P : Program} {w : World} {K : PySem.W.Frag} {mg : Str → Option Value} {base : Heap}

open UV UW NdefX ClX UX
variable {Fo UF WE : Addr}
abbrev s__law_is_number : Stmt := top 7
abbrev sc__law_is_number_N : List Str := ["_law_actual"]
theorem sc__law_is_number : FnScope sc__law_is_number_N ["_law_actual"] (defScope s__law_is_number) := ⟨rfl, rfl, rfl, by decide +kernel, rfl, by decide +kernel, by decide +kernel⟩
-- 0 _law_actual
def sp_isnum : Sp := fun vs H Q _ => ∃ i : Int, vs = [.int i] ∧ Q (.bl true) H
theorem d_isnum (T : Nm mg) (D : TD K mg "_law_is_number" s__law_is_number) : Dn P w K mg base CX0 1 "_law_is_number" sp_isnum := by
  refine D.dn sc__law_is_number (fun _ _ _ _ _ _ us hl => match us, hl with | [_], _ => rfl) (fun vs H Q E h => ?_) (fun f cdv A outer s H vs Q E hr h => ?_)
  · obtain ⟨i, rfl, _⟩ := h; rfl
  · obtain ⟨i, rfl, q⟩ := h
    refine ⟨_, (pss_one (ps_ret (pe_and (pe_callB call_isi (by rfl) T.n_isinstance (by decide +kernel) (pa_cons (pv 0) (pa_cons (pe_bltn (v := .ty "int") (by rfl) T.n_int (by decide +kernel) rfl) pa_nil))) (pe_one (pe_not (pe_callB call_isi (by rfl) T.n_isinstance (by decide +kernel) (pa_cons (pv 0) (pa_cons (pe_bltn (v := .ty "bool") (by rfl) T.n_bool (by decide +kernel) rfl) pa_nil)))))))), ?_⟩
    walk_at "rd"
    refine isiI (r := true) (by rfl) ⟨true, rfl, ?_⟩
    rw [if_pos rfl]
    exact isiI (r := false) (by rfl) ⟨false, rfl, q⟩
theorem isTup {H : Hp} {t : Addr} {xs : List V} {Q : VK} (ht : H t = some (.tup xs)) (q : Q (.bl true) H) : rIsi K [.ref t, .ty "tuple"] H Q := ⟨_, _, _, _, _, rfl, .ty "tuple", .base (.tup ht), by rfl, q⟩
theorem isLst {H : Hp} {t : Addr} {xs : List V} {Q : VK} (ht : H t = some (.lst xs)) (q : Q (.bl true) H) : rIsi K [.ref t, .ty "list"] H Q := ⟨_, _, _, _, _, rfl, .ty "list", .base (.lst ht), by rfl, q⟩
abbrev s__law_same : Stmt := top 12
abbrev sc__law_same_N : List Str := ["_law_actual", "_law_due_here", "_law_k"]
theorem sc__law_same : FnScope sc__law_same_N ["_law_actual", "_law_due_here"] (defScope s__law_same) := ⟨rfl, rfl, rfl, by decide +kernel, rfl, by decide +kernel, by decide +kernel⟩
-- 0 _law_actual, 1 _law_due_here, 2 _law_k
/-- two tuples of the same ints -/
def sp_same : Sp := fun vs H Q _ => ∃ (t u : Addr) (s : List Int), vs = [.ref t, .ref u] ∧ H t = some (.tup (s.map V.int)) ∧ H u = some (.tup (s.map V.int)) ∧ s.length ≤ 1000 ∧ Q (.bl true) H
theorem d_same (T : Nm mg) (D : TD K mg "_law_same" s__law_same) (d__law_is_number : Dn P w K mg base CX0 1 "_law_is_number" sp_isnum) : Dn P w K mg base CX0 2 "_law_same" sp_same := by
  refine D.dn sc__law_same (fun _ _ _ _ _ _ us hl => match us, hl with | [_, _], _ => rfl) (fun vs H Q E h => ?_) (fun f cdv A outer s H vs Q E hr h => ?_)
  · obtain ⟨t, u, s, rfl, _⟩ := h; rfl
  · obtain ⟨t, u, s0, rfl, ht, hu, hl, q⟩ := h
    refine ⟨_, (pss_cons (ps_if (pw_or (pt_not (pt_val (pe_callB call_isi (by rfl) T.n_isinstance (by decide +kernel) (pa_cons (pv 0) (pa_cons (pe_bltn (v := .ty "tuple") (by rfl) T.n_tuple (by decide +kernel) rfl) pa_nil))))) (pw_or1 (pt_cmpR (op_neA (hr.units)) (pe_callB call_lenA (by rfl) T.n_len (by decide +kernel) (pa_cons (pv 0) pa_nil)) (pe_callB call_lenA (by rfl) T.n_len (by decide +kernel) (pa_cons (pv 1) pa_nil)) (nomark _)))).pt (pss_one (ps_ret pe_bl)) pss_nil)
      (pss_cons (ps_for PassesOwn.never rfl (pi_range1 (by rfl) T.n_range (pa_cons (pe_callB call_lenA (by rfl) T.n_len (by decide +kernel) (pa_cons (pv 1) pa_nil)) pa_nil)) (pg_name (i := 2) sc__law_same.nd rfl (Or.inl rfl)) (pss_one (ps_if (pw_or (pt_not (pt_val (pe_d d__law_is_number hr (by decide) pass0 (by rfl) (pa_cons (pe_ix ix_seq (pv 0) (pv 2) (fun _ _ => rfl)) pa_nil)))) (pw_or1 (pt_cmpR (op_neA (hr.units)) (pe_ix ix_seq (pv 0) (pv 2) (fun _ _ => rfl)) (pe_ix ix_seq (pv 1) (pv 2) (fun _ _ => rfl)) (nomark _)))).pt (pss_one (ps_ret pe_bl)) pss_nil)))
      (pss_one (ps_ret pe_bl)))), ?_⟩
    walk_at "rd"
    refine isTup ht (q := ⟨true, rfl, ?_⟩)
    rw [if_neg (by decide)]
    refine lenT (.inl (.inl ht)) (lenT (.inl (.inl hu)) (neII.mpr ⟨_, rfl, ?_⟩))
    rw [if_neg (by simp)]
    refine lenT (.inl (.inl hu)) ⟨_, rfl, by omega, by rw [List.length_map]; omega, FJ.rangeI (fun i σ' H' => (∃ z, σ' = [some (.ref t), some (.ref u), z]) ∧ H' = H) (by omega) ⟨⟨_, rfl⟩, rfl⟩ (fun i σ' H' hi inv => ?_) fun σ' H' inv => ?_⟩
    · obtain ⟨⟨z, rfl⟩, rfl⟩ := inv
      walk_at "rd"
      rw [List.length_map] at hi
      have i1 : i < s0.length := by omega
      have e : (s0.map V.int)[i]? = some (V.int s0[i]) := by rw [List.getElem?_map, List.getElem?_eq_getElem i1]; rfl
      refine ixT (.inl (.inl ht)) (atN e) ⟨_, rfl, true, rfl, ?_⟩
      rw [if_neg (by decide)]
      refine ixT (.inl (.inl ht)) (atN e) (ixT (.inl (.inl hu)) (atN e) (neII.mpr ⟨_, rfl, ?_⟩))
      rw [if_neg (by simp)]
      exact ⟨⟨_, rfl⟩, rfl⟩
    · obtain ⟨⟨z, rfl⟩, rfl⟩ := inv
      walk_at "rd"
      exact q
theorem plen {α β : Type} {F : α → β → Prop} : ∀ {l : List α} {m : List β}, Paired F l m → l.length = m.length
  | [], [], _ => rfl
  | _ :: _, _ :: _, .cons _ r => congrArg (· + 1) (plen r)
theorem pat {α β : Type} {F : α → β → Prop} : ∀ {l : List α} {m : List β}, Paired F l m → ∀ {i : Nat} {a : α}, l[i]? = some a → ∃ b, m[i]? = some b ∧ F a b
  | _, _, .nil, i, a, e => by simp at e
  | _, _, .cons r _, 0, a, e => by simp at e; subst e; exact ⟨_, rfl, r⟩
  | _, _, .cons _ t, i + 1, a, e => by
    obtain ⟨b, h1, h2⟩ := pat t (i := i) (a := a) (by simpa using e)
    exact ⟨b, by simpa using h1, h2⟩
theorem papp {α β : Type} {F : α → β → Prop} : ∀ {l l' : List α} {m m' : List β}, Paired F l m → Paired F l' m' → Paired F (l ++ l') (m ++ m')
  | _, _, _, _, .nil, h => h
  | _, _, _, _, .cons r t, h => .cons r (papp t h)
/-- rows that are told -/
def RwOk (r : Row) : Prop := PyData.strOk r.1 = true ∧ r.1.length ≤ 1000 ∧ r.2.length ≤ 3
def rowD (r : Row) : PyData := .tuple [.str r.1, .tuple (r.2.map .int)]
theorem RowS.dp {H : Hp} {e : Addr} {r : Row} (h : RowS H e r) : Dp K H (.ref e) (rowD r) := let ⟨_, h1, h2⟩ := h; .tup (.inl (.inl h1)) (.cons (.str _) (.cons (.tup (.inl (.inl h2)) dpa_ints) .nil))
theorem rowsD {H : Hp} : ∀ {es : List Addr} {R : List Row}, RowsS H es R → DpAll K H (es.map V.ref) (R.map rowD)
  | _, _, .nil => .nil
  | _, _, .cons h r => .cons h.dp (rowsD r)
theorem RwOk.sh {r : Row} (h : RwOk r) : Sh 2 (rowD r) := Sh.tup (n := 1) fun d hd => by
  simp only [List.mem_cons, List.not_mem_nil, or_false] at hd
  rcases hd with rfl | rfl
  · exact (Sh.str h.1).mono (by decide)
  · exact Sh.tup sh_ints
theorem sh_rows {R : List Row} (h : ∀ r ∈ R, RwOk r) : ∀ d ∈ R.map rowD, Sh 2 d := fun d hd => by
  obtain ⟨r, hr, rfl⟩ := List.mem_map.mp hd
  exact (h r hr).sh
theorem eqv_row (a b : Row) : PyData.eqv (rowD a) (rowD b) = decide (a = b) := by
  have e1 : PyData.eqv (.str a.1) (.str b.1) = decide (a.1 = b.1) := by simp [PyData.eqv]; rfl
  have e2 := eqv_ints a.2 b.2
  unfold rowD
  rw [PyData.eqv, PyData.eqvAll, PyData.eqvAll, e1, e2, PyData.eqvAll, Bool.and_true]
  rw [Bool.eq_iff_iff]
  simp only [Bool.and_eq_true, decide_eq_true_eq]
  exact ⟨fun h => Prod.ext h.1 h.2, fun h => by rw [h]; exact ⟨rfl, rfl⟩⟩
theorem any_row {R : List Row} {r : Row} : ((R.map rowD).any fun z => PyData.eqv z (rowD r)) = decide (r ∈ R) := by
  rw [List.any_map]
  induction R with
  | nil => rfl
  | cons t q ih =>
    rw [List.any_cons, ih]
    have e : ((fun z => PyData.eqv z (rowD r)) ∘ rowD) t = decide (t = r) := eqv_row t r
    rw [e, Bool.eq_iff_iff]
    simp only [Bool.or_eq_true, decide_eq_true_eq, List.mem_cons]
    exact ⟨fun h => h.imp Eq.symm id, fun h => h.imp Eq.symm id⟩
abbrev s__law_same_rows : Stmt := top 13
abbrev sc__law_same_rows_N : List Str := ["_law_actual", "_law_due_here", "_law_k"]
theorem sc__law_same_rows : FnScope sc__law_same_rows_N ["_law_actual", "_law_due_here"] (defScope s__law_same_rows) := ⟨rfl, rfl, rfl, by decide +kernel, rfl, by decide +kernel, by decide +kernel⟩
-- 0 _law_actual, 1 _law_due_here, 2 _law_k
def sp_srows : Sp := fun vs H Q _ => ∃ (a b : Addr) (es es' : List Addr) (R : List Row), vs = [.ref a, .ref b] ∧ H a = some (.lst (es.map V.ref)) ∧ H b = some (.lst (es'.map V.ref)) ∧ RowsS H es R ∧ RowsS H es' R ∧ R.length ≤ 1000 ∧ (∀ r ∈ R, RwOk r) ∧ Q (.bl true) H
theorem d_srows (T : Nm mg) (D : TD K mg "_law_same_rows" s__law_same_rows) (d__law_same : Dn P w K mg base CX0 2 "_law_same" sp_same) : Dn P w K mg base CX0 3 "_law_same_rows" sp_srows := by
  refine D.dn sc__law_same_rows (fun _ _ _ _ _ _ us hl => match us, hl with | [_, _], _ => rfl) (fun vs H Q E h => ?_) (fun f cdv A outer s H vs Q E hr h => ?_)
  · obtain ⟨a, b, es, es', R, rfl, _⟩ := h; rfl
  · obtain ⟨a, b, es, es', R, rfl, ha, hb, hes, hes', hn, hok, q⟩ := h
    refine ⟨_, (pss_cons (ps_if (pw_or (pt_not (pt_val (pe_callB call_isi (by rfl) T.n_isinstance (by decide +kernel) (pa_cons (pv 0) (pa_cons (pe_bltn (v := .ty "list") (by rfl) T.n_list (by decide +kernel) rfl) pa_nil))))) (pw_or1 (pt_cmpR (op_neA (hr.units)) (pe_callB call_lenA (by rfl) T.n_len (by decide +kernel) (pa_cons (pv 0) pa_nil)) (pe_callB call_lenA (by rfl) T.n_len (by decide +kernel) (pa_cons (pv 1) pa_nil)) (nomark _)))).pt (pss_one (ps_ret pe_bl)) pss_nil)
      (pss_cons (ps_for PassesOwn.never rfl (pi_range1 (by rfl) T.n_range (pa_cons (pe_callB call_lenA (by rfl) T.n_len (by decide +kernel) (pa_cons (pv 1) pa_nil)) pa_nil)) (pg_name (i := 2) sc__law_same_rows.nd rfl (Or.inl rfl)) (pss_cons (ps_if (pw_or (pt_not (pt_val (pe_callB call_isi (by rfl) T.n_isinstance (by decide +kernel) (pa_cons (pe_ix ix_seq (pv 0) (pv 2) (fun _ _ => rfl)) (pa_cons (pe_bltn (v := .ty "tuple") (by rfl) T.n_tuple (by decide +kernel) rfl) pa_nil))))) (pw_or1 (pt_cmpR (op_neA (hr.units)) (pe_callB call_lenA (by rfl) T.n_len (by decide +kernel) (pa_cons (pe_ix ix_seq (pv 0) (pv 2) (fun _ _ => rfl)) pa_nil)) pe_int (nomark _)))).pt (pss_one (ps_ret pe_bl)) pss_nil)
      (pss_cons (ps_if (pw_or (pt_not (pt_val (pe_callB call_isi (by rfl) T.n_isinstance (by decide +kernel) (pa_cons (pe_ix ix_seq (pe_ix ix_seq (pv 0) (pv 2) (fun _ _ => rfl)) pe_int (fun _ _ => rfl)) (pa_cons (pe_bltn (v := .ty "str") (by rfl) T.n_str (by decide +kernel) rfl) pa_nil))))) (pw_or1 (pt_cmpR (op_neA (hr.units)) (pe_ix ix_seq (pe_ix ix_seq (pv 0) (pv 2) (fun _ _ => rfl)) pe_int (fun _ _ => rfl)) (pe_ix ix_seq (pe_ix ix_seq (pv 1) (pv 2) (fun _ _ => rfl)) pe_int (fun _ _ => rfl)) (nomark _)))).pt (pss_one (ps_ret pe_bl)) pss_nil)
      (pss_one (ps_if (pt_not (pt_val (pe_d d__law_same hr (by decide) pass0 (by rfl) (pa_cons (pe_ix ix_seq (pe_ix ix_seq (pv 0) (pv 2) (fun _ _ => rfl)) pe_int (fun _ _ => rfl)) (pa_cons (pe_ix ix_seq (pe_ix ix_seq (pv 1) (pv 2) (fun _ _ => rfl)) pe_int (fun _ _ => rfl)) pa_nil))))) (pss_one (ps_ret pe_bl)) pss_nil)))))
      (pss_one (ps_ret pe_bl)))), ?_⟩
    walk_at "rd"
    have l1 := plen hes
    have l2 := plen hes'
    refine isLst ha ⟨true, rfl, ?_⟩
    rw [if_neg (by decide)]
    refine lenL (.inl (.inl ha)) (lenL (.inl (.inl hb)) (neII.mpr ⟨_, rfl, ?_⟩))
    rw [if_neg (by rw [List.length_map, List.length_map, l1, l2]; simp)]
    refine lenL (.inl (.inl hb)) ⟨_, rfl, by omega, by rw [List.length_map]; omega, FJ.rangeI (fun i σ' H' => (∃ z, σ' = [some (.ref a), some (.ref b), z]) ∧ H' = H) (by omega) ⟨⟨_, rfl⟩, rfl⟩ (fun i σ' H' hi inv => ?_) fun σ' H' inv => ?_⟩
    · obtain ⟨⟨z, rfl⟩, rfl⟩ := inv
      walk_at "rd"
      rw [List.length_map] at hi
      have i1 : i < es.length := by omega
      have i2 : i < es'.length := by omega
      obtain ⟨r, hr1, t1, g1, g2⟩ := pat hes (List.getElem?_eq_getElem i1)
      obtain ⟨r', hr2, t2, k1, k2⟩ := pat hes' (List.getElem?_eq_getElem i2)
      obtain rfl : r = r' := by rw [hr1] at hr2; exact Option.some.inj hr2
      have hro := hok r (List.mem_of_getElem? hr1)
      have e1 : (es.map V.ref)[i]? = some (V.ref es[i]) := by rw [List.getElem?_map, List.getElem?_eq_getElem i1]; rfl
      have e2 : (es'.map V.ref)[i]? = some (V.ref es'[i]) := by rw [List.getElem?_map, List.getElem?_eq_getElem i2]; rfl
      refine ixL (.inl (.inl ha)) (atN e1) (isTup g1 ⟨true, rfl, ?_⟩)
      rw [if_neg (by decide)]
      refine ixL (.inl (.inl ha)) (atN e1) (lenT (.inl (.inl g1)) (neII.mpr ⟨_, rfl, ?_⟩))
      rw [if_neg (by show ¬ (!decide ((2 : Int) = 2)) = true; decide)]
      refine ixL (.inl (.inl ha)) (atN e1) (ixT (.inl (.inl g1)) (atN (v := .str r.1) rfl) (isiS (r := true) (by rfl) ⟨true, rfl, ?_⟩))
      rw [if_neg (by decide)]
      refine ixL (.inl (.inl ha)) (atN e1) (ixT (.inl (.inl g1)) (atN (v := .str r.1) rfl) (ixL (.inl (.inl hb)) (atN e2) (ixT (.inl (.inl k1)) (atN (v := .str r.1) rfl) (neSS.mpr ⟨_, rfl, ?_⟩))))
      rw [if_neg (by simp)]
      refine ixL (.inl (.inl ha)) (atN e1) (ixT (.inl (.inl g1)) (atN (v := .ref t1) rfl) (ixL (.inl (.inl hb)) (atN e2) (ixT (.inl (.inl k1)) (atN (v := .ref t2) rfl) ⟨t1, t2, r.2, rfl, g2, k2, by have := hro.2.2; omega, _, rfl, ?_⟩)))
      rw [if_neg (by decide)]
      exact ⟨⟨_, rfl⟩, rfl⟩
    · obtain ⟨⟨z, rfl⟩, rfl⟩ := inv
      walk_at "rd"
      exact q
end
end U

set_option Elab.async false
set_option linter.all false
set_option maxRecDepth 100000
set_option maxHeartbeats 4000000
set_option pp.deepTerms true
set_option pp.maxSteps 400000
namespace U
open PySem PySem.Spec PyProof.Rows L2 UL UX
local macro_rules | `(tactic| walk_at "rd") => `(tactic| simp only [sMatch, tJs, tFmt, tBC, tMethA, tMakeL, iEnumS, tSeq, tAsg, tOp, tCB, tCons, tNil, tVar, tC, tB, tTest, tNot, tIfS, tNext, tYes, tUn, rU, tM0, tGFrom, tGThen, tG0, tYfLst, gcxK, tSubO, tProp, tListG, tMethG, tBMF, tFld, sFld, tMeth, tMake, tSl, tNoPart, tPart, tM1, gTup, gCons, gNil, tDrop, tFor_eq, tLc_eq, tLc2_eq, iRng1_eq, StX.tStar, iList, iTup, iStr, iAny_var, iZipB, tLenSetS, wipe, tVar, tAndV, tOrV, tNotV, tOr, tAnd, tLst, tTup, tBM, tBM0, tChain, tCall, cxK, noxK, addII, addSS, mulII, eqII, neII, neSS, cIntI, cAbsI, rI, rI0, rLt, rLe, rGt_, rGe_, rSub_, rMod, rPow, rDivW, rNeg, gName, tRet, L2.start, List.length_cons, List.length_nil, List.map_cons, List.map_nil, List.replicate, List.cons_append, List.nil_append, List.getElem?_cons_zero, List.getElem?_cons_succ, List.set_cons_zero, List.set_cons_succ, Option.some.injEq, exists_eq_left', exists_eq_left, V.int.injEq, V.bl.injEq, V.str.injEq, V.ref.injEq, V.ty.injEq, List.cons.injEq, and_true, true_and, reduceCtorEq, false_and, exists_false, or_false, false_or, exists_and_left, exists_and_right, List.append_nil, forall_eq, decide_eq_true_eq, Bool.not_eq_true, Nat.reduceAdd, Nat.reduceSub, List.replicate_zero, List.replicate_succ, Nat.zero_le, ite_true, ite_false, if_true, if_false])
section
variable {P : Program} {w : World} {K : PySem.W.Frag} {mg : Str → Option Value} {base : Heap}

variable {R Wr B Pg : Addr}
def isNm (z : Str) : Prop := nmB z = true
def InL (z : Str) : Prop := ∀ c ∈ z.cps.toList, c ∈ abc.cps.toList
theorem abc_eq : abc.cps.toList = (List.range 26).map (97 + ·) := by decide +kernel
theorem abc_len : abc.length = 26 := by decide +kernel
theorem abc_at {i : Int} (h0 : 0 ≤ i) (h1 : i < 26) : atI abc.cps.toList i = some (97 + i.toNat) := by
  have e : ((i.toNat : Nat) : Int) = i := by omega
  rw [← e]
  refine atN ?_
  rw [abc_eq, List.getElem?_map, List.getElem?_range (by omega)]
  simp; omega
theorem abc_mem {n : Nat} (h : n < 26) : 97 + n ∈ abc.cps.toList := by
  rw [abc_eq]; exact List.mem_map.mpr ⟨n, List.mem_range.mpr h, rfl⟩
theorem inL_app {x y : Str} (hx : InL x) (hy : InL y) : InL (x ++ y) := fun c hc => by
  have : (x ++ y).cps.toList = x.cps.toList ++ y.cps.toList := by show (x.cps ++ y.cps).toList = _; simp
  rw [this] at hc
  rcases List.mem_append.mp hc with z | z
  · exact hx c z
  · exact hy c z
theorem inL_one {n : Nat} (h : n < 26) : InL ⟨#[97 + n]⟩ := fun c hc => by
  have : c = 97 + n := by simpa using hc
  rw [this]; exact abc_mem h
theorem inL_nil : InL Str.empty := fun c hc => by simp [Str.empty] at hc
theorem len_one (c : Nat) : (⟨#[c]⟩ : Str).length = 1 := rfl
/-- the text at one letter, then anything -/
theorem mid_inj {f b b' s s' : Str} {c c' : Nat} (h : ((f ++ ⟨#[c]⟩) ++ b) ++ s = ((f ++ ⟨#[c']⟩) ++ b') ++ s') : c = c' := by
  have e : ∀ (b s : Str) (c : Nat), (((f ++ ⟨#[c]⟩) ++ b) ++ s).cps.toList = f.cps.toList ++ (c :: (b.cps.toList ++ s.cps.toList)) := fun b s c => by
    show (((f.cps ++ #[c]) ++ b.cps) ++ s.cps).toList = _
    simp
  have h2 := congrArg (fun z : Str => z.cps.toList) h
  simp only [e] at h2
  have h3 := List.append_cancel_left h2
  exact (List.cons.inj h3).1
theorem app_nil (x : Str) : x ++ Str.empty = x := by
  show (⟨x.cps ++ #[]⟩ : Str) = x
  simp
theorem drawI {p : Addr} {m : Int} {H : Hp} {Q : VK} {E : XK} (hm : 0 < m) (hp : Pl H p) (q : ∀ r H', 0 ≤ r → r < m → Pl H' p → But p H H' → Q (.int r) H') : sp_draw [.ref p, .int m] H Q E := ⟨p, m, rfl, hm, hp, q⟩
theorem But.free' {H H' : Hp} {p q : Addr} (s : But p H H') (x : Pl H' p) (h : H' q = none) : H q = none := UL.But.free s x h
theorem But.tr {p : Addr} {H H1 H2 : Hp} (a : But p H H1) (b : But p H1 H2) : But p H H2 := UL.But.trans a b
theorem But.nw {p q : Addr} {H H' : Hp} {o : HO} (a : But p H H') (x : Pl H' p) (h : H' q = none) : But p H (upd H' q o) := But.tr a (UL.Same.but (UL.Same.new h))
/-- the names so far: one letter differs, what stands behind is of no account -/
def NU (fr bk : Str) (sh st : Int) (xs : List Str) : Prop := ∀ (j : Nat) x, xs[j]? = some x → ∃ s', InL s' ∧ s'.length ≤ 1 ∧ x = ((fr ++ ⟨#[97 + ((sh + st * j) % 26).toNat]⟩) ++ bk) ++ s'
theorem mod26 (i : Int) : (i % 26).toNat < 26 := by
  have h0 := Int.emod_nonneg i (show (26 : Int) ≠ 0 by decide)
  have h1 := Int.emod_lt_of_pos i (show (0 : Int) < 26 by decide)
  omega
theorem isNm_of {z : Str} (h1 : 1 ≤ z.length) (h2 : z.length ≤ 8) (h3 : InL z) : isNm z := by
  show nmB z = true
  simp only [nmB, decide_eq_true h1, decide_eq_true h2, Bool.true_and, List.all_eq_true]
  exact fun c hc => decide_eq_true (h3 c hc)
theorem NU.nm {fr bk : Str} {sh st : Int} {xs : List Str} (h : NU fr bk sh st xs) (hf : fr.length ≤ 3) (hb : bk.length ≤ 3) (hfi : InL fr) (hbi : InL bk) : ∀ z ∈ xs, isNm z := by
  intro z hz
  obtain ⟨j, hj⟩ := List.getElem?_of_mem hz
  obtain ⟨s', hs, hl, rfl⟩ := h j z hj
  refine isNm_of ?_ ?_ (inL_app (inL_app (inL_app hfi (inL_one (mod26 _))) hbi) hs) <;> simp only [len_app, len_one] <;> omega
theorem NU.snoc {fr bk : Str} {sh st : Int} {xs : List Str} (h : NU fr bk sh st xs) {s' : Str} (hs : InL s') (hl : s'.length ≤ 1) : NU fr bk sh st (xs ++ [((fr ++ ⟨#[97 + ((sh + st * xs.length) % 26).toNat]⟩) ++ bk) ++ s']) := fun j x hj => by
  by_cases hlt : j < xs.length
  · rw [List.getElem?_append_left hlt] at hj
    exact h j x hj
  · have : j = xs.length := by have := (List.getElem?_eq_some_iff.mp hj).1; simp at this; omega
    subst this
    simp at hj
    subst hj
    exact ⟨s', hs, hl, rfl⟩
theorem mulSI {H : Hp} {Q : VK} {z : Str} {n : Int} (h : n = 0 ∨ n = 1) (q : ∀ y : Str, (y = Str.empty ∨ y = z) → Q (.str y) H) : rMulA K (.str z) (.int n) H Q :=
  .inr (.inl ⟨z, n, rfl, rfl, h.elim (fun e => .inl ⟨e, q _ (.inl rfl)⟩) fun e => .inr ⟨e, q _ (.inr rfl)⟩⟩)
theorem mod26I (i : Int) : 0 ≤ i % 26 ∧ i % 26 < 26 := ⟨Int.emod_nonneg i (by decide), Int.emod_lt_of_pos i (by decide)⟩
theorem nm_read : isNm "read" := by show nmB _ = true; decide +kernel
theorem nm_as : isNm "as" := by show nmB _ = true; decide +kernel
theorem nm_write : isNm "write" := by show nmB _ = true; decide +kernel
theorem nm_by : isNm "by" := by show nmB _ = true; decide +kernel
theorem nm_of : isNm "of" := by show nmB _ = true; decide +kernel
abbrev s__law_names : Stmt := top 11
abbrev sc__law_names_N : List Str := ["_law_pool_here", "_law_count", "_law_letters", "_law_choice", "_law_shift", "_law_stride", "_law_front", "_law_k", "_law_back", "_law_names_here", "_law_name"]
theorem sc__law_names : FnScope sc__law_names_N ["_law_pool_here", "_law_count"] (defScope s__law_names) := ⟨rfl, rfl, rfl, by decide +kernel, rfl, by decide +kernel, by decide +kernel⟩
-- 0 _law_pool_here, 1 _law_count, 2 _law_letters, 3 _law_choice, 4 _law_shift, 5 _law_stride, 6 _law_front, 7 _law_k, 8 _law_back, 9 _law_names_here, 10 _law_name
theorem NU.nodup {fr bk : Str} {sh st : Int} {xs : List Str} (h : NU fr bk sh st xs) (hst : st = 1 ∨ st = 25 ∨ st = 7) (hl : xs.length ≤ 5) : xs.Nodup := by
  rw [List.Nodup, List.pairwise_iff_getElem]
  intro i j hi hj hij e
  obtain ⟨s1, _, _, e1⟩ := h i _ (List.getElem?_eq_getElem hi)
  obtain ⟨s2, _, _, e2⟩ := h j _ (List.getElem?_eq_getElem hj)
  rw [e1, e2] at e
  have m := mid_inj e
  rcases hst with rfl | rfl | rfl <;> omega
def sp_namesN : Sp := fun vs H Q _ => ∃ (p : Addr) (c : Nat), vs = [.ref p, .int c] ∧ Pl H p ∧ 1 ≤ c ∧ c ≤ 5 ∧ ∀ q H' (xs : List Str), xs.length = c → (∀ z ∈ xs, isNm z) → xs.Nodup → H q = none → H' q = some (.lst (xs.map V.str)) → Pl H' p → But p H H' → Q (.ref q) H'
theorem d_namesN (T : Nm mg) (D : TD K mg "_law_names" s__law_names) (d__law_draw : Dn P w K mg base CX0 1 "_law_draw" sp_draw) : Dn P w K mg base CX0 2 "_law_names" sp_namesN := by
  refine D.dn sc__law_names (fun _ _ _ _ _ _ us hl => match us, hl with | [_, _], _ => rfl) (fun vs H Q E h => ?_) (fun f cdv A outer s H vs Q E hr h => ?_)
  · obtain ⟨a, xs, rfl, _⟩ := h; rfl
  · obtain ⟨p, c, rfl, hp, h1, h3, q⟩ := h
    refine ⟨_, (pss_cons (ps_set (i := 2) sc__law_names.nd rfl (Or.inl rfl) pe_str)
      (pss_cons (ps_set (i := 3) sc__law_names.nd rfl (Or.inl rfl) (pe_d d__law_draw hr (by decide) pass0 (by rfl) (pa_cons (pv 0) (pa_cons pe_int pa_nil))))
      (pss_cons (ps_if (pt_cmpR (op_eqA (hr.units)) (pv 3) pe_int (nomark _)) (pss_one (ps_ret (pe_slice sl_list (pe_lst (pa_cons pe_str (pa_cons pe_str (pa_cons pe_str (pa_cons pe_str (pa_cons pe_str (pa_cons pe_str pa_nil))))))) po_none (po_some (pv 1))))) pss_nil)
      (pss_cons (ps_set (i := 4) sc__law_names.nd rfl (Or.inl rfl) (pe_d d__law_draw hr (by decide) pass0 (by rfl) (pa_cons (pv 0) (pa_cons pe_int pa_nil))))
      (pss_cons (ps_set (i := 5) sc__law_names.nd rfl (Or.inl rfl) (pe_ix ix_seq (pe_lst (pa_cons pe_int (pa_cons pe_int (pa_cons pe_int pa_nil)))) (pe_d d__law_draw hr (by decide) pass0 (by rfl) (pa_cons (pv 0) (pa_cons pe_int pa_nil))) (fun _ _ => rfl)))
      (pss_cons (ps_set (i := 6) sc__law_names.nd rfl (Or.inl rfl) pe_str)
      (pss_cons (ps_for PassesOwn.never rfl (pi_range1 (by rfl) T.n_range (pa_cons (pe_d d__law_draw hr (by decide) pass0 (by rfl) (pa_cons (pv 0) (pa_cons pe_int pa_nil))) pa_nil)) (pg_name (i := 7) sc__law_names.nd rfl (Or.inl rfl)) (pss_one (ps_set (i := 6) sc__law_names.nd rfl (Or.inl rfl) (pe_op op_addA (pv 6) (pe_ix ix_seq (pv 2) (pe_d d__law_draw hr (by decide) pass0 (by rfl) (pa_cons (pv 0) (pa_cons pe_int pa_nil))) (fun _ _ => rfl))))))
      (pss_cons (ps_set (i := 8) sc__law_names.nd rfl (Or.inl rfl) pe_str)
      (pss_cons (ps_for PassesOwn.never rfl (pi_range1 (by rfl) T.n_range (pa_cons (pe_d d__law_draw hr (by decide) pass0 (by rfl) (pa_cons (pv 0) (pa_cons pe_int pa_nil))) pa_nil)) (pg_name (i := 7) sc__law_names.nd rfl (Or.inl rfl)) (pss_one (ps_set (i := 8) sc__law_names.nd rfl (Or.inl rfl) (pe_op op_addA (pv 8) (pe_ix ix_seq (pv 2) (pe_d d__law_draw hr (by decide) pass0 (by rfl) (pa_cons (pv 0) (pa_cons pe_int pa_nil))) (fun _ _ => rfl))))))
      (pss_cons (ps_set (i := 9) sc__law_names.nd rfl (Or.inl rfl) (pe_lst pa_nil))
      (pss_cons (ps_for PassesOwn.never rfl (pi_range1 (by rfl) T.n_range (pa_cons (pv 1) pa_nil)) (pg_name (i := 7) sc__law_names.nd rfl (Or.inl rfl)) (pss_cons (ps_set (i := 10) sc__law_names.nd rfl (Or.inl rfl) (pe_op op_addA (pe_op op_addA (pv 6) (pe_ix ix_seq (pv 2) (pe_op op_modA (pe_callTy call_intA (by rfl) T.n_int (by decide +kernel) (pa_cons (pe_op op_addA (pv 4) (pe_op op_mulA (pv 5) (pv 7))) pa_nil)) pe_int) (fun _ _ => rfl))) (pv 8)))
      (pss_cons (ps_if (pt_cmpR (op_eqA (hr.units)) (pv 3) pe_int (nomark _)) (pss_one (ps_set (i := 10) sc__law_names.nd rfl (Or.inl rfl) (pe_op op_addA (pv 10) (pe_op op_mulA (pe_ix ix_seq (pv 2) (pv 7) (fun _ _ => rfl)) (pe_op op_modA (pv 7) pe_int))))) pss_nil)
      (pss_one (ps_expr (pe_bm PySem.F.plainAttrs_list PySem.F.slot_list_append PySem.F.type_list_append mt_append (pv 9) (pa_cons (pv 10) pa_nil)))))))
      (pss_one (ps_ret (pv 9)))))))))))))), ?_⟩
    walk_at "rd"
    refine drawI (by decide) hp fun ch H1 c0 c6 hp1 b1 => eqII.mpr ⟨_, rfl, ?_⟩
    by_cases h4 : ch = 4
    · rw [if_pos (by simp [h4])]
      refine ⟨by rw [sizeLine_eq]; decide, fun l hl => ⟨l, _, rfl, .inl (.inl upd_same), fun q0 hq0 => ?_⟩⟩
      have key : ∀ xs : List Str, (upd (upd H1 l (.lst [V.str (Str.ofString "read"), V.str (Str.ofString "as"), V.str (Str.ofString "write"), V.str (Str.ofString "by"), V.str (Str.ofString "of"), V.str (Str.ofString "program")])) q0 (.lst (xs.map V.str)) = upd (upd H1 l (.lst [V.str (Str.ofString "read"), V.str (Str.ofString "as"), V.str (Str.ofString "write"), V.str (Str.ofString "by"), V.str (Str.ofString "of"), V.str (Str.ofString "program")])) q0 (.lst (cutV [V.str (Str.ofString "read"), V.str (Str.ofString "as"), V.str (Str.ofString "write"), V.str (Str.ofString "by"), V.str (Str.ofString "of"), V.str (Str.ofString "program")] none (some (c : Int))))) → xs.length = c → (∀ z ∈ xs, isNm z) → xs.Nodup → Q (.ref q0) (upd (upd H1 l (.lst [V.str (Str.ofString "read"), V.str (Str.ofString "as"), V.str (Str.ofString "write"), V.str (Str.ofString "by"), V.str (Str.ofString "of"), V.str (Str.ofString "program")])) q0 (.lst (cutV [V.str (Str.ofString "read"), V.str (Str.ofString "as"), V.str (Str.ofString "write"), V.str (Str.ofString "by"), V.str (Str.ofString "of"), V.str (Str.ofString "program")] none (some (c : Int))))) := by
        intro xs e hl2 hn hnd
        rw [← e]
        have hp2 := Pl.put (o := .lst [V.str (Str.ofString "read"), V.str (Str.ofString "as"), V.str (Str.ofString "write"), V.str (Str.ofString "by"), V.str (Str.ofString "of"), V.str (Str.ofString "program")]) hp1 (hp1.ne hl)
        have b2 := But.nw (o := .lst [V.str (Str.ofString "read"), V.str (Str.ofString "as"), V.str (Str.ofString "write"), V.str (Str.ofString "by"), V.str (Str.ofString "of"), V.str (Str.ofString "program")]) b1 hp1 hl
        exact q q0 _ xs hl2 hn hnd (But.free' b2 hp2 hq0) upd_same (hp2.put (hp2.ne hq0)) (But.nw b2 hp2 hq0)
      have c15 : c = 1 ∨ c = 2 ∨ c = 3 ∨ c = 4 ∨ c = 5 := by omega
      rcases c15 with rfl | rfl | rfl | rfl | rfl
      · exact key ["read"] rfl rfl (by simp only [List.mem_singleton, forall_eq]; exact nm_read) (by decide +kernel)
      · exact key ["read", "as"] rfl rfl (by simp only [List.mem_cons, List.not_mem_nil, or_false, forall_eq_or_imp, forall_eq]; exact ⟨nm_read, nm_as⟩) (by decide +kernel)
      · exact key ["read", "as", "write"] rfl rfl (by simp only [List.mem_cons, List.not_mem_nil, or_false, forall_eq_or_imp, forall_eq]; exact ⟨nm_read, nm_as, nm_write⟩) (by decide +kernel)
      · exact key ["read", "as", "write", "by"] rfl rfl (by simp only [List.mem_cons, List.not_mem_nil, or_false, forall_eq_or_imp, forall_eq]; exact ⟨nm_read, nm_as, nm_write, nm_by⟩) (by decide +kernel)
      · exact key ["read", "as", "write", "by", "of"] rfl rfl (by simp only [List.mem_cons, List.not_mem_nil, or_false, forall_eq_or_imp, forall_eq]; exact ⟨nm_read, nm_as, nm_write, nm_by, nm_of⟩) (by decide +kernel)
    · rw [if_neg (by simp [h4])]
      refine drawI (by decide) hp1 fun sh H2 s0 s26 hp2 b2 => ⟨by rw [sizeLine_eq]; decide, fun l hl => ?_⟩
      have b02 := But.tr b1 b2
      refine drawI (by decide) (hp2.put (hp2.ne hl)) fun r3 H3 r0 r33 hp3 b3 => ?_
      have hl3 : H3 l = some (.lst [V.int 1, .int 25, .int 7]) := b3 _ _ upd_same (Ne.symm (hp2.ne hl))
      have b03 : But p H H3 := But.tr (But.nw b02 hp2 hl) b3
      have hstr : ∃ st : Int, atI [V.int 1, .int 25, .int 7] r3 = some (.int st) ∧ (st = 1 ∨ st = 25 ∨ st = 7) := by
        have : r3 = 0 ∨ r3 = 1 ∨ r3 = 2 := by omega
        rcases this with rfl | rfl | rfl
        · exact ⟨1, rfl, .inl rfl⟩
        · exact ⟨25, rfl, .inr (.inl rfl)⟩
        · exact ⟨7, rfl, .inr (.inr rfl)⟩
      obtain ⟨st, hat, hst⟩ := hstr
      refine ixL (.inl (.inl hl3)) hat (drawI (by decide) hp3 fun fn H4 f0 f4 hp4 b4 => ⟨fn, rfl, by omega, by omega, ?_⟩)
      have b04 := But.tr b03 b4
      refine FJ.rangeI (fun i σ' H' => ∃ fr : Str, fr.length ≤ i ∧ InL fr ∧ Pl H' p ∧ But p H H' ∧ ∃ z, σ' = [some (.ref p), some (.int c), some (.str abc), some (.int ch), some (.int sh), some (.int st), some (.str fr), z, none, none, none]) f0 ⟨Str.empty, Nat.le_refl _, inL_nil, hp4, b04, _, rfl⟩ (fun i σ' H' hi inv => ?_) fun σ' H' inv => ?_
      · obtain ⟨fr, hfl, hfi, hp5, b5, z, rfl⟩ := inv
        walk_at "rd"
        refine drawI (by decide) hp5 fun r H5 r0 r26 hp6 b6 => ixS (by rw [abc_len, sizeLine_eq]; decide) (abc_at r0 r26) (addSS.mpr ⟨by rw [len_one, sizeLine_eq]; omega, _, by rw [len_app, len_one]; omega, inL_app hfi (inL_one (by omega)), hp6, But.tr b5 b6, rfl, _, rfl⟩)
      · obtain ⟨fr, hfl, hfi, hp5, b5, z, rfl⟩ := inv
        walk_at "rd"
        refine drawI (by decide) hp5 fun bn H5 g0 g4 hp6 b6 => ⟨bn, rfl, by omega, by omega, ?_⟩
        have b06 := But.tr b5 b6
        refine FJ.rangeI (fun i σ' H' => ∃ bk : Str, bk.length ≤ i ∧ InL bk ∧ Pl H' p ∧ But p H H' ∧ ∃ z, σ' = [some (.ref p), some (.int c), some (.str abc), some (.int ch), some (.int sh), some (.int st), some (.str fr), z, some (.str bk), none, none]) g0 ⟨Str.empty, Nat.le_refl _, inL_nil, hp6, b06, _, rfl⟩ (fun i σ' H' hi inv => ?_) fun σ' H' inv => ?_
        · obtain ⟨bk, hbl, hbi, hp7, b7, z, rfl⟩ := inv
          walk_at "rd"
          refine drawI (by decide) hp7 fun r H8 r0 r26 hp8 b8 => ixS (by rw [abc_len, sizeLine_eq]; decide) (abc_at r0 r26) (addSS.mpr ⟨by rw [len_one, sizeLine_eq]; omega, _, by rw [len_app, len_one]; omega, inL_app hbi (inL_one (by omega)), hp8, But.tr b7 b8, rfl⟩)
        · obtain ⟨bk, hbl, hbi, hp7, b7, z, rfl⟩ := inv
          walk_at "rd"
          have hfl3 : fr.length ≤ 3 := by omega
          have hbl3 : bk.length ≤ 3 := by omega
          refine fun q0 hq0 => ⟨by omega, by omega, FJ.rangeI (fun i σ' H9 => ∃ xs : List Str, xs.length = i ∧ NU fr bk sh st xs ∧ H9 = upd H' q0 (.lst (xs.map V.str)) ∧ ∃ z w, σ' = [some (.ref p), some (.int c), some (.str abc), some (.int ch), some (.int sh), some (.int st), some (.str fr), z, some (.str bk), some (.ref q0), w]) (by omega) ⟨[], rfl, (fun j x h => nomatch h), rfl, _, _, rfl⟩ (fun i σ' H9 hi inv => ?_) fun σ' H9 inv => ?_⟩
          · obtain ⟨xs, hxl, hnu, rfl, z, w', rfl⟩ := inv
            walk_at "rd"
            subst hxl
            have m := mod26I (sh + st * xs.length)
            refine ⟨.inl (by omega), by decide, ixS (by rw [abc_len, sizeLine_eq]; decide) (abc_at m.1 m.2) (addSS.mpr ⟨by rw [len_one, sizeLine_eq]; omega, addSS.mpr ⟨by rw [len_app, len_one, sizeLine_eq]; omega, ?_⟩⟩)⟩
            have hup : upd H' q0 (.lst (xs.map V.str)) q0 = some (.lst (xs.map V.str)) := upd_same
            have hsz : (xs.map V.str).length < sizeLine := by rw [List.length_map, sizeLine_eq]; omega
            by_cases h2 : ch = 2
            · rw [if_pos h2]
              refine ixS (by rw [abc_len, sizeLine_eq]; decide) (abc_at (by omega) (by omega)) ⟨by decide, mulSI (by omega) fun y hy => addSS.mpr ?_⟩
              have hyl : y.length ≤ 1 ∧ InL y := by
                rcases hy with rfl | rfl
                · exact ⟨Nat.zero_le _, inL_nil⟩
                · exact ⟨Nat.le_refl _, inL_one (by omega)⟩
              refine ⟨by rw [len_app, len_app, len_one, sizeLine_eq]; omega, .inl ⟨rfl, _, .inl (.inl hup)⟩, q0, _, _, rfl, rfl, hup, hsz, _, by simp, hnu.snoc hyl.2 hyl.1, ?_, _, rfl⟩
              rw [upd_upd, List.map_append]; rfl
            · rw [if_neg h2]
              have e := hnu.snoc inL_nil (Nat.zero_le _)
              rw [app_nil] at e
              refine ⟨.inl ⟨rfl, _, .inl (.inl hup)⟩, q0, _, _, rfl, rfl, hup, hsz, _, by simp, e, ?_, _, rfl⟩
              rw [upd_upd, List.map_append]; rfl
          · obtain ⟨xs, hxl, hnu, rfl, z, w', rfl⟩ := inv
            walk_at "rd"
            have hnl : xs.length = c := by omega
            refine q q0 _ xs hnl (hnu.nm hfl3 hbl3 hfi hbi) (hnu.nodup hst (by omega)) (But.free' b7 hp7 hq0) upd_same ?_ ?_
            · exact hp7.put (hp7.ne hq0)
            · exact But.nw b7 hp7 hq0
def sp_names : Sp := fun vs H Q _ => ∃ (p : Addr) (c : Nat), vs = [.ref p, .int c] ∧ Pl H p ∧ 1 ≤ c ∧ c ≤ 5 ∧ ∀ q H' (xs : List Str), xs.length = c → (∀ z ∈ xs, isNm z) → H q = none → H' q = some (.lst (xs.map V.str)) → Pl H' p → But p H H' → Q (.ref q) H'
theorem d_names (T : Nm mg) (D : TD K mg "_law_names" s__law_names) (d__law_draw : Dn P w K mg base CX0 1 "_law_draw" sp_draw) : Dn P w K mg base CX0 2 "_law_names" sp_names := by
  obtain ⟨f, fd, ps, F, r⟩ := (d_namesN T D d__law_draw).ex
  exact ⟨f, fd, ps, F.imp fun vs H Q E ⟨p, c, e, hp, h1, h5, q⟩ => ⟨p, c, e, hp, h1, h5, fun q0 H' xs a1 a2 _ a4 a5 a6 a7 => q q0 H' xs a1 a2 a4 a5 a6 a7⟩, r⟩
end
end U

set_option Elab.async false
set_option linter.all false
set_option maxRecDepth 100000
set_option maxHeartbeats 4000000
set_option pp.deepTerms true
set_option pp.maxSteps 400000
namespace U
open PySem PySem.Spec PyProof.Rows L2 UL UX
local macro_rules | `(tactic| walk_at "rd") => `(tactic| simp only [sMatch, tJs, tFmt, tBC, tMethA, tMakeL, iEnumS, tSeq, tAsg, tOp, tCB, tCons, tNil, tVar, tC, tB, tTest, tNot, tIfS, tNext, tYes, tUn, rU, tM0, tGFrom, tGThen, tG0, tYfLst, gcxK, tSubO, tProp, tListG, tMethG, tBMF, tFld, sFld, tMeth, tMake, tSl, tNoPart, tPart, tM1, gTup, gCons, gNil, tDrop, tFor_eq, tLc_eq, tLc2_eq, iRng1_eq, StX.tStar, iList, iTup, iStr, iAny_var, iZipB, tLenSetS, wipe, tVar, tAndV, tOrV, tNotV, tOr, tAnd, tLst, tTup, tBM, tBM0, tChain, tCall, cxK, noxK, addII, addSS, mulII, eqII, neII, neSS, cIntI, cAbsI, rI, rI0, rLt, rLe, rGt_, rGe_, rSub_, rMod, rPow, rDivW, rNeg, gName, tRet, L2.start, List.length_cons, List.length_nil, List.map_cons, List.map_nil, List.replicate, List.cons_append, List.nil_append, List.getElem?_cons_zero, List.getElem?_cons_succ, List.set_cons_zero, List.set_cons_succ, Option.some.injEq, exists_eq_left', exists_eq_left, V.int.injEq, V.bl.injEq, V.str.injEq, V.ref.injEq, V.ty.injEq, List.cons.injEq, and_true, true_and, reduceCtorEq, false_and, exists_false, or_false, false_or, exists_and_left, exists_and_right, List.append_nil, forall_eq, decide_eq_true_eq, Bool.not_eq_true, Nat.reduceAdd, Nat.reduceSub, List.replicate_zero, List.replicate_succ, Nat.zero_le, ite_true, ite_false, if_true, if_false])
section
variable {P : Program} {w : World} {K : PySem.W.Frag} {mg : Str → Option Value} {base : Heap}

open UV UW NdefX ClX UX
variable {Fo UF WE : Addr}
def dueF (st : Nat) (R : List Row) (r : Row) : Str × Int := match r.2.find? (badI (st + R.length)) with
  | some i => ("unknown", i)
  | none => ("number", ((st + R.idxOf r : Nat) : Int))
theorem due_bad {st : Nat} {R : List Row} {r : Row} {i : Int} (h : r.2.find? (badI (st + R.length)) = some i) : dueF st R r = (Str.ofString "unknown", i) := by unfold dueF; rw [h]
theorem due_ok {st : Nat} {R : List Row} {r : Row} (h : r.2.find? (badI (st + R.length)) = none) : dueF st R r = (Str.ofString "number", ((st + R.idxOf r : Nat) : Int)) := by unfold dueF; rw [h]
theorem sFree {H H' : Hp} {p : Addr} (s : Same H H') (h : H' p = none) : H p = none := by
  cases e : H p with
  | none => rfl
  | some o => rw [s _ _ e] at h; cases h
abbrev s__law_due : Stmt := top 15
abbrev sc__law_due_N : List Str := ["_law_starts", "_law_rows", "_law_function", "_law_args", "_law_number", "_law_row"]
theorem sc__law_due : FnScope sc__law_due_N ["_law_starts", "_law_rows", "_law_function", "_law_args"] (defScope s__law_due) := ⟨rfl, rfl, rfl, by decide +kernel, rfl, by decide +kernel, by decide +kernel⟩
-- 0 _law_starts, 1 _law_rows, 2 _law_function, 3 _law_args, 4 _law_number, 5 _law_row
def sp_ldue : Sp := fun vs H Q _ => ∃ (st : Nat) (rl l : Addr) (es : List Addr) (R : List Row) (f : Str) (s : List Int), vs = [.int (st : Nat), .ref rl, .str f, .ref l] ∧ H rl = some (.lst (es.map V.ref)) ∧ RowsS H es R ∧ H l = some (.lst (s.map V.int)) ∧ RwOk (f, s) ∧ (∀ r ∈ R, RwOk r) ∧ R.Nodup ∧ st + R.length ≤ 1000 ∧
  ∀ q H', H q = none → Same H H' → H' q = some (.tup [.str (dueF st R (f, s)).1, .int (dueF st R (f, s)).2]) → Q (.ref q) H'
theorem d_ldue (T : Nm mg) (D : TD K mg "_law_due" s__law_due) : Dn P w K mg base CX0 2 "_law_due" sp_ldue := by
  refine D.dn sc__law_due (fun _ _ _ _ _ _ us hl => match us, hl with | [_, _, _, _], _ => rfl) (fun vs H Q E h => ?_) (fun f cdv A outer s H vs Q E hr h => ?_)
  · obtain ⟨st, rl, l, es, R, f, s, rfl, _⟩ := h; rfl
  · obtain ⟨st, rl, l, es, R, f, s0, rfl, hrl, hes, hl, hok, hR, hnd, hn, q⟩ := h
    refine ⟨_, (pss_cons (ps_for PassesOwn.never rfl (pi_list (pv 3)) (pg_name (i := 4) sc__law_due.nd rfl (Or.inl rfl)) (pss_one (ps_if (pw_or (pt_cmpR op_ltA (pv 4) pe_int (nomark _)) (pw_or1 (pt_cmpR op_geA (pv 4) (pe_op op_addA (pv 0) (pe_callB call_lenA (by rfl) T.n_len (by decide +kernel) (pa_cons (pv 1) pa_nil))) (nomark _)))).pt (pss_one (ps_ret (pe_tup (pa_cons pe_str (pa_cons (pv 4) pa_nil))))) pss_nil)))
      (pss_cons (ps_set (i := 5) sc__law_due.nd rfl (Or.inl rfl) (pe_tup (pa_cons (pv 2) (pa_cons (pe_callTy call_tupA (by rfl) T.n_tuple (by decide +kernel) (pa_cons (pv 3) pa_nil)) pa_nil))))
      (pss_cons (ps_if (pt_cmpR (op_inDK K rfl (rm65 hr)) (pv 5) (pv 1) (by with_unfolding_all rfl)) (pss_one (ps_ret (pe_tup (pa_cons pe_str (pa_cons (pe_op op_addA (pv 0) (pe_bm PySem.F.plainAttrs_list PySem.F.slot_list_index PySem.F.type_list_index (mt_indexD (rm65 hr)) (pv 1) (pa_cons (pv 5) pa_nil))) pa_nil))))) pss_nil)
      (pss_one (ps_ret (pe_tup (pa_cons pe_str (pa_cons (pe_op op_addA (pv 0) (pe_callB call_lenA (by rfl) T.n_len (by decide +kernel) (pa_cons (pv 1) pa_nil))) pa_nil)))))))), ?_⟩
    walk_at "rd"
    have le := plen hes
    have lm : (es.map V.ref).length = R.length := by rw [List.length_map, le]
    refine ⟨⟨_, .inl (.inl hl)⟩, FJ.list (xs := s0.map V.int) (fun i σ' H' => (∃ z4, σ' = [some (.int (st : Nat)), some (.ref rl), some (.str f), some (.ref l), z4, none]) ∧ H' = H ∧ (s0.take i).find? (badI (st + R.length)) = none) ⟨⟨_, rfl⟩, rfl, rfl⟩ (fun i σ' H' _ inv => inv.2.1 ▸ .inl (.inl hl)) (fun i x σ' H' hx inv => ?_) fun σ' H' inv => ?_⟩
    · obtain ⟨⟨z4, rfl⟩, rfl, hn0⟩ := inv
      rw [List.getElem?_map] at hx
      obtain ⟨v, hv, rfl⟩ := Option.map_eq_some_iff.mp hx
      walk_at "rd"
      have rs : badI (st + R.length) v = true → (2 ≤ sizeLine ∧ ∀ (p : Addr), H' p = none → Q (V.ref p) (upd H' p (HO.tup [V.str (Str.ofString "unknown"), V.int v]))) := fun hbv => ⟨by rw [sizeLine_eq]; decide, fun p hp => q p _ hp (UL.Same.new hp) (by rw [due_bad (find_first hv hn0 hbv)]; exact upd_same)⟩
      by_cases c0 : v < 0
      · rw [if_pos c0]
        exact rs (by unfold badI; rw [decide_eq_false (by omega : ¬ (0 ≤ v)), Bool.false_and]; rfl)
      · rw [if_neg c0]
        refine lenL (.inl (.inl hrl)) (addII.mpr ⟨_, rfl, ?_⟩)
        by_cases c1 : (st : Int) + ((es.map V.ref).length : Nat) ≤ v
        · rw [if_pos c1]
          exact rs (by unfold badI; rw [decide_eq_false (by rw [lm] at c1; omega : ¬ (v < ((st + R.length : Nat) : Int))), Bool.and_false]; rfl)
        · rw [if_neg c1]
          exact ⟨⟨_, rfl⟩, rfl, find_more hv hn0 (by rw [lm] at c1; unfold badI; rw [decide_eq_true (by omega : 0 ≤ v), decide_eq_true (by omega : v < ((st + R.length : Nat) : Int))]; rfl)⟩
    · obtain ⟨⟨z4, rfl⟩, rfl, hn0⟩ := inv
      rw [List.length_map, List.take_length] at hn0
      walk_at "rd"
      refine ⟨l, _, rfl, .inl ⟨.inl (.inl hl), fun t ht => ⟨by rw [sizeLine_eq]; decide, fun p hp => ?_⟩⟩⟩
      have s1 : Same H' (upd H' t (.tup (s0.map V.int))) := UL.Same.new ht
      have s2 := sTr s1 (UL.Same.new (o := .tup [V.str f, .ref t]) hp)
      have hp2 : upd (upd H' t (.tup (s0.map V.int))) p (HO.tup [V.str f, .ref t]) p = _ := upd_same
      have ht2 := (UL.Same.new (o := .tup [V.str f, .ref t]) hp) t _ upd_same
      have hR0 : RowS (upd (upd H' t (.tup (s0.map V.int))) p (HO.tup [V.str f, .ref t])) p (f, s0) := ⟨t, hp2, ht2⟩
      generalize upd (upd H' t (.tup (s0.map V.int))) p (HO.tup [V.str f, .ref t]) = H2 at s2 hR0 ⊢
      have hes2 := hes.stay (TupsStay.same s2)
      have hdl : Dp K H2 (.ref rl) (.list (R.map rowD)) := .lst (.inl (.inl (s2 _ _ hrl))) (rowsD hes2)
      have shl := (Sh.lst (sh_rows hR)).shaped (by decide)
      have shr := hok.sh.shaped (by decide)
      refine ⟨rowD (f, s0), R.map rowD, hR0.dp, hdl, shr, shl, ⟨_, rfl, ?_⟩⟩
      rw [any_row]
      have fin : ∀ n : Int, n = ((st + R.idxOf (f, s0) : Nat) : Int) → (2 ≤ sizeLine ∧ ∀ (p : Addr), H2 p = none → Q (V.ref p) (upd H2 p (HO.tup [V.str (Str.ofString "number"), V.int n]))) := fun n hn' => ⟨by rw [sizeLine_eq]; decide, fun p2 hp2 => q p2 _ (sFree s2 hp2) (sTr s2 (UL.Same.new hp2)) (by rw [due_ok hn0, ← hn']; exact upd_same)⟩
      by_cases c : (f, s0) ∈ R
      · rw [if_pos (decide_eq_true c)]
        have hil := List.idxOf_lt_length_iff.mpr c
        have hie : R[R.idxOf (f, s0)]? = some (f, s0) := by rw [List.getElem?_eq_getElem hil, List.getElem_idxOf hil]
        refine ⟨.inl ⟨rfl, _, .inl (.inl (s2 _ _ hrl))⟩, rl, .ref p, rowD (f, s0), R.map rowD, R.idxOf (f, s0), rowD (f, s0), rfl, rfl, hdl, hR0.dp, shl, shr, by rw [List.getElem?_map, hie]; rfl, by rw [eqv_row]; exact decide_eq_true rfl, fun m z' hm hz => ?_, addII.mpr (fin _ (by omega))⟩
        rw [List.getElem?_map] at hz
        obtain ⟨r, hr1, rfl⟩ := Option.map_eq_some_iff.mp hz
        rw [eqv_row]
        refine decide_eq_false fun e => ?_
        rw [e] at hr1
        have := idx_nd hnd hr1
        omega
      · rw [if_neg (by simp [c])]
        refine lenL (.inl (.inl (s2 _ _ hrl))) (addII.mpr (fin _ ?_))
        rw [List.idxOf_eq_length c, lm]
        omega
abbrev s__law_called : Stmt := top 14
abbrev sc__law_called_N : List Str := ["_law_formulas", "_law_function", "_law_args", "e"]
theorem sc__law_called : FnScope sc__law_called_N ["_law_formulas", "_law_function", "_law_args"] (defScope s__law_called) := ⟨rfl, rfl, rfl, by decide +kernel, rfl, by decide +kernel, by decide +kernel⟩
-- 0 _law_formulas, 1 _law_function, 2 _law_args, 3 e
structure FmX (K : PySem.W.Frag) (mg : Str → Option Value) (Fo UF WE : Addr) : Prop extends FmT K mg Fo UF WE where
  n_ValueError : mg "ValueError" = none
  c_WeaveError : ∃ u, mg "WeaveError" = some u ∧ RelV (.ref WE) u
  g_UF : mg "UnknownFormula" = some (.ref UF)
  xfI : XfC K UF
  ecI : ExcC K UF
  ii : PySem.W.exmOne K (.ref UF) (.ref UF) = some true
  iw : PySem.W.kitOne K (.ref UF) (.ref WE) = some true
  iv : PySem.W.kitOne K (.ref UF) (.type "ValueError") = some true
def newR (st : Nat) (R : List Row) (r : Row) : List Row := match r.2.find? (badI (st + R.length)) with
  | some _ => R
  | none => putR R r
def sp_lcalled (P : Program) (w : World) (Fo : Addr) : Sp := fun vs H Q _ => ∃ (a d l : Addr) (st : Nat) (R : List Row) (f : Str) (s : List Int), vs = [.ref a, .str f, .ref l] ∧ FoL P w Fo H a d st R ∧ SqI H l s ∧ s.length ≤ 3 ∧ st + R.length ≤ 1000 ∧ (∀ i ∈ s, -(2 ^ 60) < i ∧ i < 2 ^ 60) ∧
  ∀ q H', H q = none → FoL P w Fo H' a d st (newR st R (f, s)) → SmD d H H' → H' q = some (.tup [.str (dueF st R (f, s)).1, .int (dueF st R (f, s)).2]) → Q (.ref q) H'
theorem d_lcalled (T : FmX K mg Fo UF WE) (D : TD K mg "_law_called" s__law_called) (Co_F : Con P w K mg base (L2.CX P w) 3 Fo (sp_fcall P w K Fo UF)) : Dn P w K mg base CX0 5 "_law_called" (sp_lcalled P w Fo) := by
  have xf_UnknownFormula := T.xfI
  have na_UnknownFormula_number := T.na
  have nms_UnknownFormula : ∀ {X : Cx}, X.mg = mg → Gl X "UnknownFormula" → Names X "UnknownFormula" (.ref UF) := fun e g => ⟨g, by decide, .inl (by rw [e]; exact T.g_UF)⟩
  refine D.dn sc__law_called (fun _ _ _ _ _ _ us hl => match us, hl with | [_, _, _], _ => rfl) (fun vs H Q E h => ?_) (fun f cdv A outer s H vs Q E hr h => ?_)
  · obtain ⟨a, d, l, st, R, f, s, rfl, _⟩ := h; rfl
  · obtain ⟨a, d, l, st, R, f, s0, rfl, hF, hl, hs, hn, hb, q⟩ := h
    refine ⟨_, (pss_one (ps_try_asMany rfl rfl takes0 (fun W pn xe tk po => (pss_one (ps_ret (pe_tup (pa_cons pe_str (pa_cons (pe_callO Co_F hr (by decide) (i := 0) rfl (Or.inl rfl) (fun σ => passAt tk σ) (pa_cons (pv 1) (pa_cons (pv 2) pa_nil))) pa_nil)))))) (.cons (i := 3) sc__law_called.nd rfl rfl (nms_UnknownFormula rfl (by rfl)) (fun a oe cls d pn hz hv => (pss_cons (ps_if (pw_or (pt_not (pt_val (pe_callB (call_isX hz hv) (by rfl) T.n_isinstance (by decide +kernel) (pa_cons (pv 3) (pa_cons (C8.pe_gc (by rfl) T.c_WeaveError) pa_nil))))) (pw_or1 (pt_not (pt_val (pe_callB (call_isX hz hv) (by rfl) T.n_isinstance (by decide +kernel) (pa_cons (pv 3) (pa_cons (pe_bltn (v := .ty "ValueError") (by rfl) T.n_ValueError (by decide +kernel) rfl) pa_nil))))))).pt (pss_one (ps_ret (pe_tup (pa_cons pe_str (pa_cons pe_int pa_nil))))) pss_nil)
      (pss_one (ps_ret (pe_tup (pa_cons pe_str (pa_cons (pe_xf xf_UnknownFormula na_UnknownFormula_number hz hv (pv 3)) pa_nil))))))) .nil))), ?_⟩
    walk_at "rd"
    simp only [tCallO]
    walk_at "rd"
    refine ⟨?_, a, d, l, st, R, f, s0, rfl, hF, hl, hs, hn, hb, fun i hi d1 H' s1 hd => ?_, fun hnone H' hF' sm => ⟨by rw [sizeLine_eq]; decide, fun p hp => ?_⟩⟩
    · obtain ⟨dx, kvs, h1, _, _⟩ := hF
      exact ⟨dx, _, h1⟩
    · refine ⟨true, T.ii, fun _ e he => ?_, fun x => nomatch x⟩
      walk_at "rd"
      refine isX T.ecI hd (fun _ r => r) T.iw ⟨true, rfl, ?_⟩
      rw [if_neg (by decide)]
      refine isX T.ecI hd (fun _ r => r) T.iv ⟨true, rfl, ?_⟩
      rw [if_neg (by decide)]
      refine ⟨_, rfl, rfl, rfl, d1, _, .int i, rfl, hd, rfl, ⟨by rw [sizeLine_eq]; decide, fun p hp => q p _ (sFree s1 hp) ?_ (fun c o e _ => (UL.Same.new hp) _ _ (s1 _ _ e)) (by rw [due_bad hi]; exact upd_same)⟩⟩
      unfold newR
      rw [hi]
      exact (hF.same s1).same (UL.Same.new hp)
    · have hp2 : H p = none := by
        cases e : H p with
        | none => rfl
        | some o =>
          by_cases c : p = d
          · obtain ⟨_, _, _, ⟨xs, _, e2, _⟩, _⟩ := hF'
            rw [c, e2] at hp; cases hp
          · rw [sm _ _ e c] at hp; cases hp
      refine q p _ hp2 ?_ (fun c o e n => (UL.Same.new hp) _ _ (sm _ _ e n)) (by rw [due_ok hnone]; exact upd_same)
      unfold newR
      rw [hnone]
      exact hF'.same (UL.Same.new hp)
end
end U

set_option Elab.async false
set_option linter.all false
set_option maxRecDepth 100000
set_option maxHeartbeats 4000000
set_option pp.deepTerms true
set_option pp.maxSteps 400000
namespace U
open PySem PySem.Spec PyProof.Rows L2 UL UX
local macro_rules | `(tactic| walk_at "rd") => `(tactic| simp only [sMatch, tJs, tFmt, tBC, tMethA, tMakeL, iEnumS, tSeq, tAsg, tOp, tCB, tCons, tNil, tVar, tC, tB, tTest, tNot, tIfS, tNext, tYes, tUn, rU, tM0, tGFrom, tGThen, tG0, tYfLst, gcxK, tSubO, tProp, tListG, tMethG, tBMF, tFld, sFld, tMeth, tMake, tSl, tNoPart, tPart, tM1, gTup, gCons, gNil, tDrop, tFor_eq, tLc_eq, tLc2_eq, iRng1_eq, StX.tStar, iList, iTup, iStr, iAny_var, iZipB, tLenSetS, wipe, tVar, tAndV, tOrV, tNotV, tOr, tAnd, tLst, tTup, tBM, tBM0, tChain, tCall, cxK, noxK, addII, addSS, mulII, eqII, neII, neSS, cIntI, cAbsI, rI, rI0, rLt, rLe, rGt_, rGe_, rSub_, rMod, rPow, rDivW, rNeg, gName, tRet, L2.start, List.length_cons, List.length_nil, List.map_cons, List.map_nil, List.replicate, List.cons_append, List.nil_append, List.getElem?_cons_zero, List.getElem?_cons_succ, List.set_cons_zero, List.set_cons_succ, Option.some.injEq, exists_eq_left', exists_eq_left, V.int.injEq, V.bl.injEq, V.str.injEq, V.ref.injEq, V.ty.injEq, List.cons.injEq, and_true, true_and, reduceCtorEq, false_and, exists_false, or_false, false_or, exists_and_left, exists_and_right, List.append_nil, forall_eq, decide_eq_true_eq, Bool.not_eq_true, Nat.reduceAdd, Nat.reduceSub, List.replicate_zero, List.replicate_succ, Nat.zero_le, ite_true, ite_false, if_true, if_false])
section
variable {P : Program} {w : World} {K : PySem.W.Frag} {mg : Str → Option Value} {base : Heap}

open UV UW NdefX ClX UX
variable {Fo UF WE : Addr}
theorem two_at {f : Nat → V} {v : Nat} (h : v < 2) : [f 0, f 1][v]? = some (f v) := by
  match v, h with
  | 0, _ => rfl
  | 1, _ => rfl
theorem apart2 {f : Nat → Addr} (h : f 0 ≠ f 1) {u v : Nat} (hu : u < 2) (hv : v < 2) (c : u ≠ v) : f u ≠ f v := by
  have h2 : (u = 0 ∧ v = 1) ∨ (u = 1 ∧ v = 0) := by omega
  rcases h2 with ⟨rfl, rfl⟩ | ⟨rfl, rfl⟩
  · exact h
  · exact Ne.symm h
def setF {α : Type} (F : Nat → α) (v : Nat) (x : α) : Nat → α := fun i => if i = v then x else F i
theorem setF_at {α : Type} {F : Nat → α} {v : Nat} {x : α} : setF F v x v = x := if_pos rfl
theorem setF_ne {α : Type} {F : Nat → α} {v u : Nat} {x : α} (h : u ≠ v) : setF F v x u = F u := if_neg h
/-- the law's addresses -/
structure Ads where
  p : Addr
  nm : Addr
  sl : Addr
  tl : Addr
  rr : Addr
  x : Nat → Addr
  d : Nat → Addr
  rl : Nat → Addr
  st : Nat → Nat
  xs : List Str
structure StL (P : Program) (w : World) (Fo : Addr) (A : Ads) (H : Hp) (R L : Nat → List Row) (es : Nat → List Addr) : Prop where
  pl : Pl H A.p
  nm : H A.nm = some (.lst (A.xs.map V.str))
  sl : H A.sl = some (.lst [.int (A.st 0 : Nat), .int (A.st 1 : Nat)])
  tl : H A.tl = some (.lst [.ref (A.x 0), .ref (A.x 1)])
  rr : H A.rr = some (.lst [.ref (A.rl 0), .ref (A.rl 1)])
  fo : ∀ v, v < 2 → FoL P w Fo H (A.x v) (A.d v) (A.st v) (R v)
  rl : ∀ v, v < 2 → H (A.rl v) = some (.lst ((es v).map V.ref))
  rs : ∀ v, v < 2 → RowsS H (es v) (L v)
/-- they stand apart -/
structure Apart (A : Ads) : Prop where
  nm : A.nm ≠ A.p
  sl : A.sl ≠ A.p
  tl : A.tl ≠ A.p
  rr : A.rr ≠ A.p
  rp : ∀ v, v < 2 → A.rl v ≠ A.p
  rn : ∀ v, v < 2 → A.rl v ≠ A.nm
  rs : ∀ v, v < 2 → A.rl v ≠ A.sl
  rt : ∀ v, v < 2 → A.rl v ≠ A.tl
  rc : ∀ v, v < 2 → A.rl v ≠ A.rr
  r1 : A.rl 0 ≠ A.rl 1
  d1 : A.d 0 ≠ A.d 1
  s1 : ∀ v, v < 2 → 1 ≤ A.st v ∧ A.st v ≤ 3
  x1 : ∀ z ∈ A.xs, PyData.strOk z = true ∧ z.length ≤ 1000
  x2 : 2 ≤ A.xs.length ∧ A.xs.length ≤ 5
section
variable {A : Ads} {H H' : Hp} {R L : Nat → List Row} {es : Nat → List Addr}
theorem FoL.ins {a d : Addr} {st : Nat} {R : List Row} (h : FoL P w Fo H a d st R) : ∃ dx fs, H a = some (.ins Fo dx fs) := let ⟨dx, _, h1, _⟩ := h; ⟨dx, _, h1⟩
theorem FoL.ext {a d : Addr} {st : Nat} {R : List Row} (h : FoL P w Fo H a d st R) : ∃ xs, H d = some (NDe P w d xs) := let ⟨_, _, _, h2, _⟩ := h; h2.at
theorem StL.move (h : StL P w Fo A H R L es) (ts : TupsStay H H') (hp : Pl H' A.p) (k : ∀ b o, H b = some o → (∀ xs, o ≠ .tup xs) → b = A.nm ∨ b = A.sl ∨ b = A.tl ∨ b = A.rr ∨ (∃ v, v < 2 ∧ (b = A.x v ∨ b = A.d v ∨ b = A.rl v)) → H' b = some o) : StL P w Fo A H' R L es where
  pl := hp
  nm := k _ _ h.nm (fun _ z => nomatch z) (.inl rfl)
  sl := k _ _ h.sl (fun _ z => nomatch z) (.inr (.inl rfl))
  tl := k _ _ h.tl (fun _ z => nomatch z) (.inr (.inr (.inl rfl)))
  rr := k _ _ h.rr (fun _ z => nomatch z) (.inr (.inr (.inr (.inl rfl))))
  fo := fun v hv => by
    obtain ⟨dx, fs, e1⟩ := (h.fo v hv).ins
    obtain ⟨xs, e2⟩ := (h.fo v hv).ext
    exact (h.fo v hv).stay ts ((k _ _ e1 (fun _ z => nomatch z) (.inr (.inr (.inr (.inr ⟨v, hv, .inl rfl⟩))))).trans e1.symm) ((k _ _ e2 (fun _ z => nomatch z) (.inr (.inr (.inr (.inr ⟨v, hv, .inr (.inl rfl)⟩))))).trans e2.symm)
  rl := fun v hv => k _ _ (h.rl v hv) (fun _ z => nomatch z) (.inr (.inr (.inr (.inr ⟨v, hv, .inr (.inr rfl)⟩))))
  rs := fun v hv => (h.rs v hv).stay ts
theorem StL.same (h : StL P w Fo A H R L es) (s : Same H H') : StL P w Fo A H' R L es := h.move (TupsStay.same s) (h.pl.same s) fun b o e _ _ => s _ _ e
theorem StL.draw (h : StL P w Fo A H R L es) (a : Apart A) (s : But A.p H H') (hp : Pl H' A.p) : StL P w Fo A H' R L es := by
  have hp0 := h.pl
  obtain ⟨zs, e0⟩ := hp0
  refine h.move (fun b xs e => s _ _ e fun z => by rw [z, e0] at e; cases e) hp fun b o e _ m => s _ _ e ?_
  rcases m with rfl | rfl | rfl | rfl | ⟨v, hv, rfl | rfl | rfl⟩
  · exact a.nm
  · exact a.sl
  · exact a.tl
  · exact a.rr
  · obtain ⟨dx, fs, e1⟩ := (h.fo v hv).ins
    exact fun z => by rw [z, e0] at e1; cases e1
  · obtain ⟨xs, e1⟩ := (h.fo v hv).ext
    exact fun z => by rw [z, e0] at e1; cases e1
  · exact a.rp v hv
/-- a list that is not of these is written -/
theorem StL.put {H0 : Hp} {R0 L0 : Nat → List Row} {es0 : Nat → List Addr} (h : StL P w Fo A H R L es) (h0 : StL P w Fo A H0 R0 L0 es0) {b : Addr} {zs : List V} {o : HO} (hb : H0 b = none) (e : H b = some (.lst zs)) : StL P w Fo A (upd H b o) R L es := by
  have ne : ∀ {c : Addr} {u : HO}, H0 c = some u → c ≠ b := fun hc => ne_of_none hc hb
  obtain ⟨ps, e0⟩ := h0.pl
  refine h.move (TupsStay.put e fun _ z => nomatch z) ?_ fun c u ec _ m => (upd_ne ?_).trans ec
  · obtain ⟨qs, e1⟩ := h.pl
    exact ⟨qs, (upd_ne (ne e0)).trans e1⟩
  · rcases m with rfl | rfl | rfl | rfl | ⟨v, hv, rfl | rfl | rfl⟩
    · exact ne h0.nm
    · exact ne h0.sl
    · exact ne h0.tl
    · exact ne h0.rr
    · obtain ⟨_, _, e1⟩ := (h0.fo v hv).ins; exact ne e1
    · obtain ⟨_, e1⟩ := (h0.fo v hv).ext; exact ne e1
    · exact ne (h0.rl v hv)
/-- the formulas of one are called -/
theorem StL.called (h : StL P w Fo A H R L es) (a : Apart A) {v : Nat} (hv : v < 2) (s : SmD (A.d v) H H') {R' : List Row} (hf : FoL P w Fo H' (A.x v) (A.d v) (A.st v) R') : StL P w Fo A H' (setF R v R') L es := by
  obtain ⟨xs, e0⟩ := (h.fo v hv).ext
  have nd : ∀ {c : Addr} {o : HO}, H c = some o → (∀ φ, o ≠ .ext φ) → c ≠ A.d v := fun hc n z => by rw [z, e0] at hc; exact n _ (Option.some.inj hc).symm
  have ts : TupsStay H H' := fun b xs e => s _ _ e (nd e fun _ z => nomatch z)
  obtain ⟨ps, ep⟩ := h.pl
  refine ⟨⟨ps, s _ _ ep (nd ep fun _ z => nomatch z)⟩, s _ _ h.nm (nd h.nm fun _ z => nomatch z), s _ _ h.sl (nd h.sl fun _ z => nomatch z), s _ _ h.tl (nd h.tl fun _ z => nomatch z), s _ _ h.rr (nd h.rr fun _ z => nomatch z), fun u hu => ?_, fun u hu => s _ _ (h.rl u hu) (nd (h.rl u hu) fun _ z => nomatch z), fun u hu => (h.rs u hu).stay ts⟩
  by_cases c : u = v
  · subst c
    rw [setF_at]
    exact hf
  · rw [setF_ne c]
    obtain ⟨_, _, e1⟩ := (h.fo u hu).ins
    obtain ⟨_, e2⟩ := (h.fo u hu).ext
    have dn : A.d u ≠ A.d v := apart2 a.d1 hu hv c
    exact (h.fo u hu).stay ts ((s _ _ e1 (nd e1 fun _ z => nomatch z)).trans e1.symm) ((s _ _ e2 dn).trans e2.symm)
/-- a row goes onto one of the lists -/
theorem StL.row (h : StL P w Fo A H R L es) (a : Apart A) {v : Nat} (hv : v < 2) {e : Addr} {r : Row} (hr : RowS H e r) : StL P w Fo A (upd H (A.rl v) (.lst ((es v).map V.ref ++ [V.ref e]))) R (setF L v (L v ++ [r])) (setF es v (es v ++ [e])) := by
  have e0 := h.rl v hv
  have ts : TupsStay H (upd H (A.rl v) (.lst ((es v).map V.ref ++ [V.ref e]))) := TupsStay.put e0 fun _ z => nomatch z
  obtain ⟨ps, ep⟩ := h.pl
  refine ⟨⟨ps, (upd_ne (Ne.symm (a.rp v hv))).trans ep⟩, (upd_ne (Ne.symm (a.rn v hv))).trans h.nm, (upd_ne (Ne.symm (a.rs v hv))).trans h.sl, (upd_ne (Ne.symm (a.rt v hv))).trans h.tl, (upd_ne (Ne.symm (a.rc v hv))).trans h.rr, fun u hu => ?_, fun u hu => ?_, fun u hu => ?_⟩
  · obtain ⟨_, _, e1⟩ := (h.fo u hu).ins
    obtain ⟨_, e2⟩ := (h.fo u hu).ext
    exact (h.fo u hu).stay ts (upd_ne (ne_of e1 e0 fun z => nomatch z)) (upd_ne (ne_of e2 e0 fun z => nomatch z))
  · by_cases c : u = v
    · subst c
      rw [setF_at, upd_same, List.map_append]
      rfl
    · rw [setF_ne c]
      have dn : A.rl u ≠ A.rl v := apart2 a.r1 hu hv c
      exact (upd_ne dn).trans (h.rl u hu)
  · by_cases c : u = v
    · subst c
      rw [setF_at, setF_at]
      exact papp ((h.rs u hu).stay ts) (.cons (hr.stay ts) .nil)
    · rw [setF_ne c, setF_ne c]
      exact (h.rs u hu).stay ts
end
end
end U

set_option Elab.async false
set_option linter.all false
set_option maxRecDepth 100000
set_option maxHeartbeats 4000000
set_option pp.deepTerms true
set_option pp.maxSteps 400000
namespace U
open PySem PySem.Spec PyProof.Rows L2 UL UX
local macro_rules | `(tactic| walk_at "rd") => `(tactic| simp only [sMatch, tJs, tFmt, tBC, tMethA, tMakeL, iEnumS, tSeq, tAsg, tOp, tCB, tCons, tNil, tVar, tC, tB, tTest, tNot, tIfS, tNext, tYes, tUn, rU, tM0, tGFrom, tGThen, tG0, tYfLst, gcxK, tSubO, tProp, tListG, tMethG, tBMF, tFld, sFld, tMeth, tMake, tSl, tNoPart, tPart, tM1, gTup, gCons, gNil, tDrop, tFor_eq, tLc_eq, tLc2_eq, iRng1_eq, StX.tStar, iList, iTup, iStr, iAny_var, iZipB, tLenSetS, wipe, tVar, tAndV, tOrV, tNotV, tOr, tAnd, tLst, tTup, tBM, tBM0, tChain, tCall, cxK, noxK, addII, addSS, mulII, eqII, neII, neSS, cIntI, cAbsI, rI, rI0, rLt, rLe, rGt_, rGe_, rSub_, rMod, rPow, rDivW, rNeg, gName, tRet, L2.start, List.length_cons, List.length_nil, List.map_cons, List.map_nil, List.replicate, List.cons_append, List.nil_append, List.getElem?_cons_zero, List.getElem?_cons_succ, List.set_cons_zero, List.set_cons_succ, Option.some.injEq, exists_eq_left', exists_eq_left, V.int.injEq, V.bl.injEq, V.str.injEq, V.ref.injEq, V.ty.injEq, List.cons.injEq, and_true, true_and, reduceCtorEq, false_and, exists_false, or_false, false_or, exists_and_left, exists_and_right, List.append_nil, forall_eq, decide_eq_true_eq, Bool.not_eq_true, Nat.reduceAdd, Nat.reduceSub, List.replicate_zero, List.replicate_succ, Nat.zero_le, ite_true, ite_false, if_true, if_false])
section
variable {P : Program} {w : World} {K : PySem.W.Frag} {mg : Str → Option Value} {base : Heap}

open UV UW NdefX ClX UX
variable {Fo UF WE : Addr}
abbrev s_law : Stmt := top 16
abbrev sc_law_N : List Str := ["_law_script", "_law_pool_here", "_law_names_here", "_law_starts", "_law_tables", "_law_rows", "_law_k", "_law_which", "_law_function", "_law_many", "_law_args", "_law_j", "_law_number", "_law_due_here", "_law_passed", "_law_told", "_law_found"]
theorem sc_law : FnScope sc_law_N ["_law_script"] (defScope s_law) := ⟨rfl, rfl, rfl, by decide +kernel, rfl, by decide +kernel, by decide +kernel⟩
-- 0 _law_script, 1 _law_pool_here, 2 _law_names_here, 3 _law_starts, 4 _law_tables, 5 _law_rows, 6 _law_k, 7 _law_which, 8 _law_function, 9 _law_many, 10 _law_args, 11 _law_j, 12 _law_number, 13 _law_due_here, 14 _law_passed, 15 _law_told, 16 _law_found
theorem nm_len {z : Str} (h : isNm z) : z.length ≤ 8 := by
  have h : nmB z = true := h
  simp only [nmB, Bool.and_eq_true, decide_eq_true_eq] at h
  exact h.1.2
theorem nm_ok {z : Str} (h : isNm z) : PyData.strOk z = true := by
  have h : nmB z = true := h
  simp only [nmB, Bool.and_eq_true, List.all_eq_true, decide_eq_true_eq] at h
  have e : ∀ c ∈ abc.cps.toList, c < 0x110000 := by rw [abc_eq]; intro c hc; obtain ⟨n, hn, rfl⟩ := List.mem_map.mp hc; have := List.mem_range.mp hn; omega
  show (z.cps.all (· < 0x110000)) = true
  rw [Array.all_eq_true_iff_forall_mem]
  intro c hc
  exact decide_eq_true (e c (h.2 c (by simpa using hc)))
theorem nms_ok {xs : List Str} (h : ∀ z ∈ xs, isNm z) : ∀ z ∈ xs, z.length ≤ 1000 ∧ PyData.strOk z = true := fun z hz => ⟨Nat.le_trans (nm_len (h z hz)) (by decide), nm_ok (h z hz)⟩
theorem drawJ {p : Addr} {m : Int} {H : Hp} {Q : VK} {E : XK} (hm : 0 < m) (hp : Pl H p) (q : ∀ r H', 0 ≤ r → r < m → Pl H' p → But p H H' → Q (.int r) H') : sp_draw [.ref p, .int m] H Q E := ⟨p, m, rfl, hm, hp, q⟩
/-- one of ints is drawn -/
theorem pickI {p : Addr} {H : Hp} {R : VK} {E : XK} {ls : List Int} {m : Int} (hp : Pl H p) (hn : ls ≠ []) (hs : ls.length ≤ 16) (hm : m = ls.length) (q : ∀ (c : Int) H', c ∈ ls → Pl H' p → But p H H' → R (.int c) H') :
    ls.length ≤ sizeLine ∧ ∀ l, H l = none → sp_draw [.ref p, .int m] (upd H l (.lst (ls.map V.int))) (fun y H2 => rIx K (.ref l) y H2 R) E := by
  have h1 : 1 ≤ ls.length := List.length_pos_iff.mpr hn
  refine ⟨by rw [sizeLine_eq]; omega, fun l hl => drawJ (by omega) (hp.put (hp.ne hl)) fun r H1 r0 r3 hp1 b1 => ?_⟩
  have hl1 := b1 _ _ upd_same (Ne.symm (hp.ne hl))
  obtain ⟨n, rfl⟩ := Int.eq_ofNat_of_zero_le r0
  have hlt : n < ls.length := by omega
  exact ixL (.inl (.inl hl1)) (show atI _ ((n : Nat) : Int) = some (.int ls[n]) from atN (by rw [List.getElem?_map]; simp [hlt])) (q _ _ (List.getElem_mem hlt) hp1 (UL.But.trans (UL.Same.but (UL.Same.new hl)) b1))
theorem due_str {st : Nat} {R : List Row} {r : Row} : PyData.strOk (dueF st R r).1 = true := by
  unfold dueF
  split
  · show PyData.strOk (Str.ofString "unknown") = true; decide +kernel
  · show PyData.strOk (Str.ofString "number") = true; decide +kernel
theorem none_mono {n m : Nat} {s : List Int} (h : s.find? (badI n) = none) (l : n ≤ m) : s.find? (badI m) = none := by
  rw [List.find?_eq_none] at h ⊢
  intro i hi
  have := h i hi
  unfold badI at this ⊢
  simp only [Bool.not_eq_true', Bool.and_eq_false_iff, decide_eq_false_iff_not, not_or, Decidable.not_not] at this ⊢
  omega
theorem setF_self {α : Type} (F : Nat → α) (v : Nat) : setF F v (F v) = F := funext fun u => by
  unfold setF
  split
  · next h => rw [h]
  · rfl
def sp_law : PySem.W.Frag → Sp := fun K vs H Q _ => ∃ (a : Addr) (ns : List Int), vs = [.ref a] ∧ SqL K H a (ns.map V.int) ∧ ns.length ≤ 63 ∧ ∀ H', Q (.bl true) H'
theorem ok_law (T : FmX K mg Fo UF WE) {f0 : Addr} {fd0 : FuncData} (F0 : Fun K "law" "law" s_law f0 fd0) (d__law_pool : Dn P w K mg base CX0 2 "_law_pool" (sp_pool K)) (d__law_draw : Dn P w K mg base CX0 1 "_law_draw" sp_draw) (d__law_names : Dn P w K mg base CX0 2 "_law_names" sp_names) (d__law_is_number : Dn P w K mg base CX0 1 "_law_is_number" sp_isnum)
    (d__law_due : Dn P w K mg base CX0 2 "_law_due" sp_ldue) (d__law_called : Dn P w K mg base CX0 5 "_law_called" (sp_lcalled P w Fo)) (d__law_same_rows : Dn P w K mg base CX0 3 "_law_same_rows" sp_srows) (k_Formulas : Kn P w K mg base CX0 1 Fo "Formulas" (sp_finit P w Fo)) (m_rows : Mn P w K mg base CX0 1 Fo "rows" (sp_frows P w Fo)) :
    FnOk P w K mg base CX0 30 f0 fd0 ["_law_script"] (sp_law K) := by
  refine F0.ok sc_law (fun vs H Q E h => ?_) (fun cdv A outer s H vs Q E hr h => ?_)
  · obtain ⟨a, ns, rfl, _⟩ := h; rfl
  · obtain ⟨a, ns, rfl, ha, hl, q⟩ := h
    refine ⟨_, (pss_cons (ps_set (i := 1) sc_law.nd rfl (Or.inl rfl) (pe_d d__law_pool hr (by decide) pass0 (by rfl) (pa_cons (pv 0) pa_nil)))
      (pss_cons (ps_set (i := 2) sc_law.nd rfl (Or.inl rfl) (pe_d d__law_names hr (by decide) pass0 (by rfl) (pa_cons (pv 1) (pa_cons (pe_ix ix_seq (pe_lst (pa_cons pe_int (pa_cons pe_int (pa_cons pe_int pa_nil)))) (pe_d d__law_draw hr (by decide) pass0 (by rfl) (pa_cons (pv 1) (pa_cons pe_int pa_nil))) (fun _ _ => rfl)) pa_nil))))
      (pss_cons (ps_set (i := 3) sc_law.nd rfl (Or.inl rfl) (pe_lst (pa_cons (pe_ix ix_seq (pe_lst (pa_cons pe_int (pa_cons pe_int (pa_cons pe_int pa_nil)))) (pe_d d__law_draw hr (by decide) pass0 (by rfl) (pa_cons (pv 1) (pa_cons pe_int pa_nil))) (fun _ _ => rfl)) (pa_cons (pe_ix ix_seq (pe_lst (pa_cons pe_int (pa_cons pe_int (pa_cons pe_int pa_nil)))) (pe_d d__law_draw hr (by decide) pass0 (by rfl) (pa_cons (pv 1) (pa_cons pe_int pa_nil))) (fun _ _ => rfl)) pa_nil))))
      (pss_cons (ps_set (i := 4) sc_law.nd rfl (Or.inl rfl) (pe_lst (pa_cons (pe_k k_Formulas hr (by decide) pass0 (by rfl) (pa_cons (pe_ix ix_seq (pv 3) pe_int (fun _ _ => rfl)) pa_nil)) (pa_cons (pe_k k_Formulas hr (by decide) pass0 (by rfl) (pa_cons (pe_ix ix_seq (pv 3) pe_int (fun _ _ => rfl)) pa_nil)) pa_nil))))
      (pss_cons (ps_set (i := 5) sc_law.nd rfl (Or.inl rfl) (pe_lst (pa_cons (pe_lst pa_nil) (pa_cons (pe_lst pa_nil) pa_nil))))
      (pss_cons (ps_for PassesOwn.never rfl (pi_range1 (by rfl) T.n_range (pa_cons pe_int pa_nil)) (pg_name (i := 6) sc_law.nd rfl (Or.inl rfl)) (pss_cons (ps_set (i := 7) sc_law.nd rfl (Or.inl rfl) (pe_callTy call_intB (by rfl) T.n_int (by decide +kernel) (pa_cons (pe_cmpR (op_eqA (hr.units)) (pe_op op_modA (pv 6) pe_int) pe_int (nomark _)) pa_nil)))
      (pss_cons (ps_set (i := 8) sc_law.nd rfl (Or.inl rfl) (pe_ix ix_seq (pv 2) (pe_d d__law_draw hr (by decide) pass0 (by rfl) (pa_cons (pv 1) (pa_cons (pe_callB call_lenA (by rfl) T.n_len (by decide +kernel) (pa_cons (pv 2) pa_nil)) pa_nil))) (fun _ _ => rfl)))
      (pss_cons (ps_set (i := 9) sc_law.nd rfl (Or.inl rfl) (pe_op op_addA (pe_ix ix_seq (pv 3) (pv 7) (fun _ _ => rfl)) (pe_callB call_lenA (by rfl) T.n_len (by decide +kernel) (pa_cons (pe_ix ix_seq (pv 5) (pv 7) (fun _ _ => rfl)) pa_nil))))
      (pss_cons (ps_set (i := 10) sc_law.nd rfl (Or.inl rfl) (pe_lst pa_nil))
      (pss_cons (ps_for PassesOwn.never rfl (pi_range1 (by rfl) T.n_range (pa_cons (pe_ix ix_seq (pe_lst (pa_cons pe_int (pa_cons pe_int (pa_cons pe_int (pa_cons pe_int pa_nil))))) (pe_d d__law_draw hr (by decide) pass0 (by rfl) (pa_cons (pv 1) (pa_cons pe_int pa_nil))) (fun _ _ => rfl)) pa_nil)) (pg_name (i := 11) sc_law.nd rfl (Or.inl rfl)) (pss_cons (ps_set (i := 12) sc_law.nd rfl (Or.inl rfl) (pe_op op_modA (pe_callTy call_intA (by rfl) T.n_int (by decide +kernel) (pa_cons (pe_op op_addA (pe_d d__law_draw hr (by decide) pass0 (by rfl) (pa_cons (pv 1) (pa_cons pe_int pa_nil))) (pe_op op_divA (pv 6) pe_int)) pa_nil)) (pv 9)))
      (pss_cons (ps_if (pt_cmpR (op_eqA (hr.units)) (pe_d d__law_draw hr (by decide) pass0 (by rfl) (pa_cons (pv 1) (pa_cons pe_int pa_nil))) pe_int (nomark _)) (pss_one (ps_set (i := 12) sc_law.nd rfl (Or.inl rfl) (pe_ix ix_seq (pe_lst (pa_cons (pv 9) (pa_cons (pe_un un_negA pe_int) (pa_cons (pe_op op_addA (pv 9) pe_int) (pa_cons (pe_op op_subA pe_int (pv 9)) pa_nil))))) (pe_d d__law_draw hr (by decide) pass0 (by rfl) (pa_cons (pv 1) (pa_cons pe_int pa_nil))) (fun _ _ => rfl)))) pss_nil)
      (pss_one (ps_expr (pe_bm PySem.F.plainAttrs_list PySem.F.slot_list_append PySem.F.type_list_append mt_append (pv 10) (pa_cons (pv 12) pa_nil)))))))
      (pss_cons (ps_set (i := 13) sc_law.nd rfl (Or.inl rfl) (pe_d d__law_due hr (by decide) pass0 (by rfl) (pa_cons (pe_ix ix_seq (pv 3) (pv 7) (fun _ _ => rfl)) (pa_cons (pe_ix ix_seq (pv 5) (pv 7) (fun _ _ => rfl)) (pa_cons (pv 8) (pa_cons (pv 10) pa_nil))))))
      (pss_cons (ps_set (i := 14) sc_law.nd rfl (Or.inl rfl) (pe_callTy call_listA (by rfl) T.n_list (by decide +kernel) (pa_cons (pv 10) pa_nil)))
      (pss_cons (ps_set (i := 15) sc_law.nd rfl (Or.inl rfl) (pe_d d__law_called hr (by decide) pass0 (by rfl) (pa_cons (pe_ix ix_seq (pv 4) (pv 7) (fun _ _ => rfl)) (pa_cons (pv 8) (pa_cons (pv 14) pa_nil)))))
      (pss_cons (ps_if (pw_or (pt_cmpR (op_neA (hr.units)) (pv 15) (pv 13) (nomark _)) (pw_or (pt_not (pt_val (pe_d d__law_is_number hr (by decide) pass0 (by rfl) (pa_cons (pe_ix ix_seq (pv 15) pe_int (fun _ _ => rfl)) pa_nil)))) (pw_or1 (pt_cmpR (op_neA (hr.units)) (pv 14) (pv 10) (nomark _))))).pt (pss_one (ps_ret pe_bl)) pss_nil)
      (pss_cons (ps_expr (pe_bm PySem.F.plainAttrs_list PySem.F.slot_list_append PySem.F.type_list_append mt_append (pv 14) (pa_cons pe_int pa_nil)))
      (pss_cons (ps_if (pt_cmpR (op_eqA (hr.units)) (pe_ix ix_seq (pv 13) pe_int (fun _ _ => rfl)) pe_str (nomark _)) (pss_cons (ps_if (pt_cmpR (op_eqA (hr.units)) (pe_ix ix_seq (pv 13) pe_int (fun _ _ => rfl)) (pv 9) (nomark _)) (pss_one (ps_expr (pe_bm PySem.F.plainAttrs_list PySem.F.slot_list_append PySem.F.type_list_append mt_append (pe_ix ix_seq (pv 5) (pv 7) (fun _ _ => rfl)) (pa_cons (pe_tup (pa_cons (pv 8) (pa_cons (pe_callTy call_tupA (by rfl) T.n_tuple (by decide +kernel) (pa_cons (pv 10) pa_nil)) pa_nil))) pa_nil)))) pss_nil)
      (pss_one (ps_if (pt_cmpR (op_neA (hr.units)) (pe_d d__law_called hr (by decide) pass0 (by rfl) (pa_cons (pe_ix ix_seq (pv 4) (pv 7) (fun _ _ => rfl)) (pa_cons (pv 8) (pa_cons (pe_callTy call_tupA (by rfl) T.n_tuple (by decide +kernel) (pa_cons (pv 10) pa_nil)) pa_nil)))) (pv 13) (nomark _)) (pss_one (ps_ret pe_bl)) pss_nil))) pss_nil)
      (pss_cons (ps_set (i := 16) sc_law.nd rfl (Or.inl rfl) (pe_m' m_rows T.cls hr (by decide) pass0 (pe_ix ix_seq (pv 4) (pv 7) (fun _ _ => rfl))))
      (pss_cons (ps_if (pt_not (pt_val (pe_d d__law_same_rows hr (by decide) pass0 (by rfl) (pa_cons (pv 16) (pa_cons (pe_ix ix_seq (pv 5) (pv 7) (fun _ _ => rfl)) pa_nil))))) (pss_one (ps_ret pe_bl)) pss_nil)
      (pss_cons (ps_expr (pe_bm PySem.F.plainAttrs_list PySem.F.slot_list_append PySem.F.type_list_append mt_append (pv 16) (pa_cons (pe_tup (pa_cons pe_str (pa_cons (pe_tup pa_nil) pa_nil))) pa_nil)))
      (pss_one (ps_if (pt_not (pt_val (pe_d d__law_same_rows hr (by decide) pass0 (by rfl) (pa_cons (pe_m' m_rows T.cls hr (by decide) pass0 (pe_ix ix_seq (pv 4) (pe_op op_subA pe_int (pv 7)) (fun _ _ => rfl))) (pa_cons (pe_ix ix_seq (pv 5) (pe_op op_subA pe_int (pv 7)) (fun _ _ => rfl)) pa_nil))))) (pss_one (ps_ret pe_bl)) pss_nil)))))))))))))))))
      (pss_one (ps_ret pe_bl)))))))), ?_⟩
    refine seq_cut5 (fun σ2 H2 => ∃ (B : Ads), σ2 = [some (.ref a), some (.ref B.p), some (.ref B.nm), some (.ref B.sl), some (.ref B.tl), some (.ref B.rr), none, none, none, none, none, none, none, none, none, none, none] ∧ Apart B ∧ StL P w Fo B H2 (fun _ => []) (fun _ => []) (fun _ => [])) (fun tl htl => ?_) fun σ2 H2 hm => ?_
    · walk_at "rd"
      refine ⟨a, ns, rfl, ha, hl, fun p H1 hp0 hp1 s1 => pickI (ls := [2, 3, 4]) hp1 (by decide) (by decide) rfl fun c H2 hc hp2 b2 => ?_⟩
      obtain ⟨cn, rfl, c2, c4⟩ : ∃ cn : Nat, c = cn ∧ 2 ≤ cn ∧ cn ≤ 4 := by
        simp only [List.mem_cons, List.not_mem_nil, or_false] at hc
        exact ⟨c.toNat, by omega, by omega, by omega⟩
      refine ⟨p, cn, rfl, hp2, by omega, by omega, fun nm H3 xs hxl hxs hnm0 hnm hp3 b3 => pickI (ls := [2, 3, 1]) hp3 (by decide) (by decide) rfl fun s0 H4 hs0 hp4 b4 => pickI (ls := [1, 2, 3]) hp4 (by decide) (by decide) rfl fun s1 H5 hs1 hp5 b5 => ⟨by rw [sizeLine_eq]; decide, fun sl hsl => ixL (.inl (.inl upd_same)) (atN (v := .int s0) rfl) fun x0 dx0 hx0 hdx0 nx0 => ?_⟩⟩
      obtain ⟨n0, rfl, n01, n03⟩ : ∃ n : Nat, s0 = n ∧ 1 ≤ n ∧ n ≤ 3 := by
        simp only [List.mem_cons, List.not_mem_nil, or_false] at hs0
        exact ⟨s0.toNat, by omega, by omega, by omega⟩
      obtain ⟨n1, rfl, n11, n13⟩ : ∃ n : Nat, s1 = n ∧ 1 ≤ n ∧ n ≤ 3 := by
        simp only [List.mem_cons, List.not_mem_nil, or_false] at hs1
        exact ⟨s1.toNat, by omega, by omega, by omega⟩
      have npm : nm ≠ p := Ne.symm (hp2.ne hnm0)
      have nm5 := b5 _ _ (b4 _ _ hnm npm) npm
      have spl : sl ≠ p := Ne.symm (hp5.ne hsl)
      have ss : Same H5 (upd H5 sl (.lst [.int (n0 : Nat), .int (n1 : Nat)])) := UL.Same.new hsl
      have es : upd H5 sl (.lst [.int (n0 : Nat), .int (n1 : Nat)]) sl = _ := upd_same
      generalize upd H5 sl (.lst [.int (n0 : Nat), .int (n1 : Nat)]) = Hs at ss es hx0 hdx0 ⊢
      have nmS := ss _ _ nm5
      have plS := hp5.same ss
      have s4 : Same Hs (upd (upd Hs dx0 (.own x0)) x0 (.ins Fo dx0 [])) := sTr (UL.Same.new hdx0) (UL.Same.new (by rw [upd_ne (Ne.symm nx0)]; exact hx0))
      refine ⟨x0, dx0, n0, rfl, upd_same, fun H6 d0 hd0 nd0 fo0 b6 => ⟨rfl, ?_⟩⟩
      have s6 : Same Hs H6 := fun c u e => b6 _ _ (s4 _ _ e) (ne_of_none e hx0)
      refine ixL (.inl (.inl (s6 _ _ es))) (atN (v := .int (n1 : Nat)) rfl) fun x1 dx1 hx1 hdx1 nx1 => ?_
      have s5 : Same H6 (upd (upd H6 dx1 (.own x1)) x1 (.ins Fo dx1 [])) := sTr (UL.Same.new hdx1) (UL.Same.new (by rw [upd_ne (Ne.symm nx1)]; exact hx1))
      refine ⟨x1, dx1, n1, rfl, upd_same, fun H7 d1 hd1 nd1 fo1 b7 => ⟨rfl, by rw [sizeLine_eq]; decide, fun tb htb r0 hr0 r1 hr1 => ⟨by rw [sizeLine_eq]; decide, fun rr hrr => ?_⟩⟩⟩
      have s7 : Same H6 H7 := fun c u e => b7 _ _ (s5 _ _ e) (ne_of_none e hx1)
      have s67 := sTr s6 s7
      have dd : d0 ≠ d1 := fun z => by
        obtain ⟨xs0, e0⟩ := fo0.ext
        rw [← z] at hd1
        rw [s5 _ _ e0] at hd1
        cases hd1
      have t1 : Same H7 (upd H7 tb (.lst [.ref x0, .ref x1])) := UL.Same.new htb
      have et : upd H7 tb (.lst [.ref x0, .ref x1]) tb = _ := upd_same
      generalize upd H7 tb (.lst [.ref x0, .ref x1]) = H8 at t1 et hr0 hr1 hrr ⊢
      have t2 : Same H8 (upd H8 r0 (.lst [])) := UL.Same.new hr0
      have e20 : upd H8 r0 (.lst []) r0 = _ := upd_same
      generalize upd H8 r0 (.lst []) = H9 at t2 e20 hr1 hrr ⊢
      have t3 : Same H9 (upd H9 r1 (.lst [])) := UL.Same.new hr1
      have e31 : upd H9 r1 (.lst []) r1 = _ := upd_same
      generalize upd H9 r1 (.lst []) = H10 at t3 e31 hrr ⊢
      have t4 : Same H10 (upd H10 rr (.lst [.ref r0, .ref r1])) := UL.Same.new hrr
      have e4 : upd H10 rr (.lst [.ref r0, .ref r1]) rr = _ := upd_same
      generalize upd H10 rr (.lst [.ref r0, .ref r1]) = H11 at t4 e4 ⊢
      have t34 := sTr t3 t4
      have t24 := sTr t2 t34
      have t14 := sTr t1 t24
      have pl7 := plS.same s67
      have pl8 := pl7.same t1
      have pl9 := pl8.same t2
      have pl10 := pl9.same t3
      have nm7 := s67 _ _ nmS
      have sl7 := s67 _ _ es
      have two : ∀ {Pr : Nat → Prop}, Pr 0 → Pr 1 → ∀ v, v < 2 → Pr v := fun h0 h1 v hv => match v, hv with | 0, _ => h0 | 1, _ => h1
      refine htl _ _ ⟨⟨p, nm, sl, tb, rr, fun i => if i = 0 then x0 else x1, fun i => if i = 0 then d0 else d1, fun i => if i = 0 then r0 else r1, fun i => if i = 0 then n0 else n1, xs⟩, rfl, ⟨npm, spl, Ne.symm (pl7.ne htb), Ne.symm (pl10.ne hrr), two (Ne.symm (pl8.ne hr0)) (Ne.symm (pl9.ne hr1)), two (Ne.symm (ne_of_none (t1 _ _ nm7) hr0)) (Ne.symm (ne_of_none (t2 _ _ (t1 _ _ nm7)) hr1)), two (Ne.symm (ne_of_none (t1 _ _ sl7) hr0)) (Ne.symm (ne_of_none (t2 _ _ (t1 _ _ sl7)) hr1)), two (Ne.symm (ne_of_none et hr0)) (Ne.symm (ne_of_none (t2 _ _ et) hr1)), two (ne_of_none (t3 _ _ e20) hrr) (ne_of_none e31 hrr), ne_of_none e20 hr1, dd, two ⟨n01, n03⟩ ⟨n11, n13⟩, fun z hz => ?_, by show 2 ≤ xs.length ∧ xs.length ≤ 5; omega⟩, ⟨pl10.same t4, t14 _ _ nm7, t14 _ _ sl7, t24 _ _ et, e4, two (fo0.same (sTr s7 t14)) (fo1.same t14), two (t34 _ _ e20) (t4 _ _ e31), two .nil .nil⟩⟩
      have h9 := nms_ok hxs z hz
      exact ⟨h9.2, h9.1⟩
    obtain ⟨B, rfl, ap, st⟩ := hm
    walk_at "rd"
    refine ⟨by decide, by decide, FJ.rangeI (fun i σ' H' => ∃ (R : Nat → List Row) (es : Nat → List Addr) (z6 z7 z8 z9 z10 z11 z12 z13 z14 z15 z16 : Option V), σ' = [some (.ref a), some (.ref B.p), some (.ref B.nm), some (.ref B.sl), some (.ref B.tl), some (.ref B.rr), z6, z7, z8, z9, z10, z11, z12, z13, z14, z15, z16] ∧ StL P w Fo B H' R R es ∧ ∀ v, v < 2 → (R v).length ≤ i ∧ ∀ r ∈ R v, RwOk r) (by decide) ⟨_, _, _, _, _, _, _, _, _, _, _, _, _, rfl, st, fun v _ => ⟨Nat.zero_le _, fun r hr => by cases hr⟩⟩ (fun i σ' H' hi inv => ?_) fun σ' H' inv => ?_⟩
    · obtain ⟨R, es, z6, z7, z8, z9, z10, z11, z12, z13, z14, z15, z16, rfl, st, hR⟩ := inv
      refine seq_cut5 (fun σ2 H2 => ∃ (v : Nat) (f : Str) (s : List Int) (l : Addr) (z11 z12 : Option V), v < 2 ∧ σ2 = [some (.ref a), some (.ref B.p), some (.ref B.nm), some (.ref B.sl), some (.ref B.tl), some (.ref B.rr), some (.int (i : Nat)), some (.int (v : Nat)), some (.str f), some (.int ((B.st v + (R v).length : Nat) : Int)), some (.ref l), z11, z12, z13, z14, z15, z16] ∧ StL P w Fo B H2 R R es ∧ H2 l = some (.lst (s.map V.int)) ∧ RwOk (f, s) ∧ (∀ i ∈ s, -(2 ^ 60) < i ∧ i < 2 ^ 60) ∧ ∀ u, u < 2 → l ≠ B.rl u) (fun tl htl => ?_) fun σ2 H2 hm => ?_
      · walk_at "rd"
        obtain ⟨v, hv, ev⟩ : ∃ v : Nat, v < 2 ∧ (if decide ((i : Int) % 8 = 7) = true then (1 : Int) else 0) = (v : Nat) := by
          by_cases c : (i : Int) % 8 = 7
          · exact ⟨1, by omega, by rw [if_pos (decide_eq_true c)]; rfl⟩
          · exact ⟨0, by omega, by rw [if_neg (by simp [c])]; rfl⟩
        refine ⟨by decide, _, rfl, ?_⟩
        rw [ev]
        have hx2 := ap.x2
        have hs1 := ap.s1 v hv
        have hRv := hR v hv
        refine lenL (.inl (.inl st.nm)) (drawJ (by rw [List.length_map]; omega) st.pl fun r H2 r0 r1 hp2 b2 => ?_)
        have st2 := st.draw ap b2 hp2
        rw [List.length_map] at r1
        obtain ⟨rn, rfl⟩ := Int.eq_ofNat_of_zero_le r0
        have hrl : rn < B.xs.length := by omega
        refine ixL (.inl (.inl st2.nm)) (atN (v := .str B.xs[rn]) (by rw [List.getElem?_map, List.getElem?_eq_getElem hrl]; rfl)) (ixL (.inl (.inl st2.sl)) (atN (two_at (f := fun u => V.int (B.st u : Nat)) hv)) (ixL (.inl (.inl st2.rr)) (atN (two_at (f := fun u => V.ref (B.rl u)) hv)) (lenL (.inl (.inl (st2.rl v hv))) (addII.mpr fun l hl0 => ?_))))
        have hfx := ap.x1 _ (List.getElem_mem hrl)
        generalize B.xs[rn] = f at hfx ⊢
        have em : (B.st v : Int) + ((es v).map V.ref).length = ((B.st v + (R v).length : Nat) : Int) := by rw [List.length_map, plen (st2.rs v hv)]; omega
        rw [em]
        have s3 : Same H2 (upd H2 l (.lst [])) := UL.Same.new hl0
        have el : upd H2 l (.lst []) l = _ := upd_same
        generalize upd H2 l (.lst []) = H3 at s3 el ⊢
        have st3 := st2.same s3
        have lp : l ≠ B.p := fun z => by obtain ⟨ps, e0⟩ := hp2; rw [z, e0] at hl0; cases hl0
        refine pickI (ls := [1, 2, 0, 3]) st3.pl (by decide) (by decide) rfl fun c H4 hc hp4 b4 => ?_
        obtain ⟨cn, rfl, c3⟩ : ∃ n : Nat, c = n ∧ n ≤ 3 := by
          simp only [List.mem_cons, List.not_mem_nil, or_false] at hc
          exact ⟨c.toNat, by omega, by omega⟩
        have st4 := st3.draw ap b4 hp4
        have el4 := b4 _ _ el lp
        refine ⟨_, rfl, by omega, by omega, FJ.rangeI (fun j σ' H' => ∃ (s : List Int) (z11 z12 : Option V), σ' = [some (.ref a), some (.ref B.p), some (.ref B.nm), some (.ref B.sl), some (.ref B.tl), some (.ref B.rr), some (.int (i : Nat)), some (.int (v : Nat)), some (.str f), some (.int ((B.st v + (R v).length : Nat) : Int)), some (.ref l), z11, z12, z13, z14, z15, z16] ∧ s.length = j ∧ StL P w Fo B H' R R es ∧ H' l = some (.lst (s.map V.int)) ∧ (∀ i ∈ s, -(2 ^ 60) < i ∧ i < 2 ^ 60)) (by omega) ⟨[], _, _, rfl, rfl, st4, el4, fun i hi => by cases hi⟩ (fun j σ' H' hj inv => ?_) fun σ' H' inv => ?_⟩
        · obtain ⟨s, z11, z12, rfl, hs, st5, hl5, hb⟩ := inv
          walk_at "rd"
          have fin : ∀ (x : Int) (H6 : Hp), StL P w Fo B H6 R R es → H6 l = some (.lst (s.map V.int)) → -(2 ^ 60) < x → x < 2 ^ 60 → (tyV K "list" (V.ref l) H6 ∧ rAppend (V.ref l) [V.int x] H6 fun x_1 H1 => (∃ x_2, some (V.int x) = x_2) ∧ ∃ x, x.length = j + 1 ∧ StL P w Fo B H1 R R es ∧ H1 l = some (HO.lst (List.map V.int x)) ∧ ∀ (i : Int), i ∈ x → -2 ^ 60 < i ∧ i < 2 ^ 60) := fun x H6 st6 hl6 x0 x1 =>
            ⟨.inl ⟨rfl, _, .inl (.inl hl6)⟩, l, _, _, rfl, rfl, hl6, by rw [List.length_map, sizeLine_eq]; omega, ⟨_, rfl⟩, s ++ [x], by rw [List.length_append, hs]; rfl, st6.put st2 hl0 hl6, by rw [upd_same, List.map_append]; rfl, fun i hi => (List.mem_append.mp hi).elim (hb i) fun h => by rw [List.mem_singleton.mp h]; exact ⟨by omega, x1⟩⟩
          have m1 : 1 ≤ B.st v + (R v).length := by omega
          have m2 : B.st v + (R v).length ≤ 100 := by have := hRv.1; omega
          generalize B.st v + (R v).length = M at m1 m2 ⊢
          refine drawJ (by decide) st5.pl fun r H6 r0 r2 hp6 b6 => ⟨⟨by decide, by decide⟩, addII.mpr (cIntI.mpr ⟨_, rfl, by omega, drawJ (by decide) hp6 fun r' H7 _ _ hp7 b7 => eqII.mpr ⟨_, rfl, ?_⟩⟩)⟩
          have b67 := UL.But.trans b6 b7
          have st7 := st5.draw ap b67 hp7
          have hl7 := b67 _ _ hl5 lp
          by_cases c9 : r' = 9
          · rw [if_pos (by simp [c9])]
            refine pickI (ls := [(M : Int), -1, (M : Int) + 7, 0 - (M : Int)]) hp7 (by simp) (by show 4 ≤ 16; decide) rfl fun c H8 hc8 hp8 b8 => ?_
            refine fin c H8 (st7.draw ap b8 hp8) (b8 _ _ hl7 lp) ?_ ?_ <;>
            · simp only [List.mem_cons, List.not_mem_nil, or_false] at hc8
              omega
          · rw [if_neg (by simp [c9])]
            have e0 := Int.emod_nonneg (r + (i : Int) / 3) (by omega : (M : Int) ≠ 0)
            have e1 := Int.emod_lt_of_pos (r + (i : Int) / 3) (by omega : (0 : Int) < M)
            exact fin _ H7 st7 hl7 (by omega) (by omega)
        · obtain ⟨s, z11, z12, rfl, hs, st5, hl5, hb⟩ := inv
          exact htl _ _ ⟨v, f, s, l, z11, z12, hv, rfl, st5, hl5, ⟨hfx.1, hfx.2, by show s.length ≤ 3; omega⟩, hb, fun u hu => Ne.symm (ne_of_none (st2.rl u hu) hl0)⟩
      obtain ⟨v, f, s, l, z11, z12, hv, rfl, st, hl, hok, hb, nlr⟩ := hm
      have hRv := hR v hv
      have hs1 := ap.s1 v hv
      refine seq_cut5 (fun σ3 H3 => ∃ (q1 : Addr) (z14 z15 : Option V), σ3 = [some (.ref a), some (.ref B.p), some (.ref B.nm), some (.ref B.sl), some (.ref B.tl), some (.ref B.rr), some (.int (i : Nat)), some (.int (v : Nat)), some (.str f), some (.int ((B.st v + (R v).length : Nat) : Int)), some (.ref l), z11, z12, some (.ref q1), z14, z15, z16] ∧ StL P w Fo B H3 (setF R v (newR (B.st v) (R v) (f, s))) R es ∧ H3 l = some (.lst (s.map V.int)) ∧ H3 q1 = some (.tup [.str (dueF (B.st v) (R v) (f, s)).1, .int (dueF (B.st v) (R v) (f, s)).2])) (fun tl htl => ?_) fun σ3 H3 hm => ?_
      · walk_at "rd"
        have nd : (R v).Nodup := by
          obtain ⟨_, _, _, _, nr⟩ := st.fo v hv
          exact nr.1
        refine ixL (.inl (.inl st.sl)) (atN (two_at (f := fun u => V.int (B.st u : Nat)) hv)) (ixL (.inl (.inl st.rr)) (atN (two_at (f := fun u => V.ref (B.rl u)) hv)) ⟨B.st v, B.rl v, l, es v, R v, f, s, rfl, st.rl v hv, st.rs v hv, hl, hok, hRv.2, nd, by omega, fun q1 H3 hq10 s3 hq1 => ⟨l, _, rfl, .inl (.inl (.inl (s3 _ _ hl))), fun b hb0 => ?_⟩⟩)
        have st3 := st.same s3
        have s4 : Same H3 (upd H3 b (.lst (s.map V.int))) := UL.Same.new hb0
        have eb : upd H3 b (.lst (s.map V.int)) b = _ := upd_same
        generalize upd H3 b (.lst (s.map V.int)) = H4 at s4 eb ⊢
        have st4 := st3.same s4
        refine ixL (.inl (.inl st4.tl)) (atN (two_at (f := fun u => V.ref (B.x u)) hv)) ⟨B.x v, B.d v, b, B.st v, R v, f, s, rfl, st4.fo v hv, .inl eb, hok.2.2, by omega, hb, fun t2 H5 ht20 fo5 sm5 ht2 => ?_⟩
        obtain ⟨xs0, ed⟩ := (st4.fo v hv).ext
        have ndv : ∀ {c : Addr} {o : HO}, H4 c = some o → (∀ φ, o ≠ .ext φ) → c ≠ B.d v := fun hc n z => by rw [z, ed] at hc; exact n _ (Option.some.inj hc).symm
        have hq5 := sm5 _ _ (s4 _ _ hq1) (ndv (s4 _ _ hq1) fun _ z => nomatch z)
        have hb5 := sm5 _ _ eb (ndv eb fun _ z => nomatch z)
        have hl4 := s4 _ _ (s3 _ _ hl)
        have hl5 := sm5 _ _ hl4 (ndv hl4 fun _ z => nomatch z)
        have st5 := st4.called ap hv sm5 fo5
        have dp : ∀ {c : Addr}, H5 c = some (.tup [.str (dueF (B.st v) (R v) (f, s)).1, .int (dueF (B.st v) (R v) (f, s)).2]) → Dp K H5 (.ref c) (.tuple [.str (dueF (B.st v) (R v) (f, s)).1, .int (dueF (B.st v) (R v) (f, s)).2]) := fun hc => .tup (.inl (.inl hc)) (.cons (.str _) (.cons (.int _) .nil))
        have shd : Sh 1 (.tuple [.str (dueF (B.st v) (R v) (f, s)).1, .int (dueF (B.st v) (R v) (f, s)).2]) := Sh.tup fun d hd => by
          simp only [List.mem_cons, List.not_mem_nil, or_false] at hd
          rcases hd with rfl | rfl
          · exact Sh.str due_str
          · exact Sh.int _
        refine neDD (dp ht2) (dp hq5) shd shd (q := ⟨_, rfl, ?_⟩)
        rw [if_neg (by rw [eqv_same shd]; decide)]
        refine ixT (.inl (.inl ht2)) (atN (n := 1) (v := .int (dueF (B.st v) (R v) (f, s)).2) rfl) ⟨_, rfl, true, rfl, ?_⟩
        rw [if_neg (by decide)]
        have shi : Sh 1 (.list (s.map PyData.int)) := Sh.lst sh_ints
        refine neDD (.lst (.inl (.inl hb5)) dpa_ints) (.lst (.inl (.inl hl5)) dpa_ints) shi shi (q := ⟨_, rfl, ?_⟩)
        rw [if_neg (by rw [eqv_same shi]; decide)]
        have lb : l ≠ b := ne_of_none (s3 _ _ hl) hb0
        have qb : q1 ≠ b := ne_of_none hq1 hb0
        exact ⟨.inl ⟨rfl, _, .inl (.inl hb5)⟩, b, _, _, rfl, rfl, hb5, by rw [List.length_map, sizeLine_eq]; have := hok.2.2; show s.length < _; have h3 : s.length ≤ 3 := this; omega, htl _ _ ⟨q1, _, _, rfl, st5.put st3 hb0 hb5, (upd_ne lb).trans hl5, (upd_ne qb).trans hq5⟩⟩
      obtain ⟨q1, z14, z15, rfl, st3, hl3, hq1⟩ := hm
      refine seq_cut (fun σ4 H4 => ∃ (R' : Nat → List Row) (es' : Nat → List Addr), σ4 = [some (.ref a), some (.ref B.p), some (.ref B.nm), some (.ref B.sl), some (.ref B.tl), some (.ref B.rr), some (.int (i : Nat)), some (.int (v : Nat)), some (.str f), some (.int ((B.st v + (R v).length : Nat) : Int)), some (.ref l), z11, z12, some (.ref q1), z14, z15, z16] ∧ StL P w Fo B H4 R' R' es' ∧ ∀ v, v < 2 → (R' v).length ≤ i + 1 ∧ ∀ r ∈ R' v, RwOk r) (fun tl htl => ?_) fun σ4 H4 hm => ?_
      · walk_at "rd"
        have hl200 : (dueF (B.st v) (R v) (f, s)).1.length ≤ sizeLine := by
          rw [sizeLine_eq]
          unfold dueF
          split
          · show (Str.ofString "unknown").length ≤ _; decide +kernel
          · show (Str.ofString "number").length ≤ _; decide +kernel
        refine ixT (.inl (.inl hq1)) (atN (n := 0) (v := .str (dueF (B.st v) (R v) (f, s)).1) rfl) (eqSS hl200 ⟨_, rfl, ?_⟩)
        cases hbad : s.find? (badI (B.st v + (R v).length)) with
        | some i0 =>
          rw [due_bad (r := (f, s)) hbad, if_neg (show ¬ decide (Str.ofString "unknown" = Str.ofString "number") = true by decide +kernel)]
          refine htl _ _ ⟨R, es, rfl, ?_, fun u hu => ⟨Nat.le_succ_of_le (hR u hu).1, (hR u hu).2⟩⟩
          have e : newR (B.st v) (R v) (f, s) = R v := by unfold newR; rw [hbad]
          rw [e, setF_self] at st3
          exact st3
        | none =>
          have ed := due_ok (r := (f, s)) hbad
          have en : newR (B.st v) (R v) (f, s) = putR (R v) (f, s) := by unfold newR; rw [hbad]
          rw [en] at st3
          rw [ed] at hq1
          rw [ed, if_pos (show decide (Str.ofString "number" = Str.ofString "number") = true by decide +kernel)]
          refine ixT (.inl (.inl hq1)) (atN (n := 1) (v := .int ((B.st v + (R v).idxOf (f, s) : Nat) : Int)) rfl) (eqII.mpr ⟨_, rfl, ?_⟩)
          have shd : Sh 1 (.tuple [.str (Str.ofString "number"), .int ((B.st v + (R v).idxOf (f, s) : Nat) : Int)]) := Sh.tup fun d hd => by
            simp only [List.mem_cons, List.not_mem_nil, or_false] at hd
            rcases hd with rfl | rfl
            · exact Sh.str (by decide +kernel)
            · exact Sh.int _
          have fin2 : ∀ (H5 : Hp) (Rv' : List Row) (es' : Nat → List Addr), StL P w Fo B H5 (setF R v Rv') (setF R v Rv') es' → H5 l = some (.lst (s.map V.int)) → H5 q1 = some (.tup [.str (Str.ofString "number"), .int ((B.st v + (R v).idxOf (f, s) : Nat) : Int)]) → (f, s) ∈ Rv' → Rv'.idxOf (f, s) = (R v).idxOf (f, s) → (R v).length ≤ Rv'.length → Rv'.length ≤ i + 1 → (∀ r ∈ Rv', RwOk r) →
              (rIx K (V.ref B.tl) (V.int ↑v) H5 fun x H1 => cTup K [V.ref l] H1 fun x_1 H1 => sp_lcalled P w Fo [x, V.str f, x_1] H1 (fun x H1 => rNeA K x (V.ref q1) H1 fun x H' => ∃ k, x = V.bl k ∧ if k = true then Q (V.bl false) H' else tl [some (V.ref a), some (V.ref B.p), some (V.ref B.nm), some (V.ref B.sl), some (V.ref B.tl), some (V.ref B.rr), some (V.int ↑i), some (V.int ↑v), some (V.str f), some (V.int ↑(B.st v + (R v).length)), some (V.ref l), z11, z12, some (V.ref q1), z14, z15, z16] H') E0) := fun H5 Rv' es' st5 hl5 hq5 hmem hidx hlen hlen1 hok1 => by
            refine ixL (.inl (.inl st5.tl)) (atN (two_at (f := fun u => V.ref (B.x u)) hv)) ⟨l, _, rfl, .inl ⟨.inl (.inl hl5), fun t ht => ?_⟩⟩
            have s6 : Same H5 (upd H5 t (.tup (s.map V.int))) := UL.Same.new ht
            have et : upd H5 t (.tup (s.map V.int)) t = _ := upd_same
            generalize upd H5 t (.tup (s.map V.int)) = H6 at s6 et ⊢
            have st6 := st5.same s6
            have fo6 := st6.fo v hv
            rw [setF_at] at fo6
            have hb2 : s.find? (badI (B.st v + Rv'.length)) = none := none_mono hbad (by omega)
            refine ⟨B.x v, B.d v, t, B.st v, Rv', f, s, rfl, fo6, .inr et, hok.2.2, by omega, hb, fun t3 H7 ht30 fo7 sm7 ht3 => ?_⟩
            obtain ⟨xs0, edd⟩ := fo6.ext
            have ndv : ∀ {c : Addr} {o : HO}, H6 c = some o → (∀ φ, o ≠ .ext φ) → c ≠ B.d v := fun hc n z => by rw [z, edd] at hc; exact n _ (Option.some.inj hc).symm
            have hq7 := sm7 _ _ (s6 _ _ hq5) (ndv (s6 _ _ hq5) fun _ z => nomatch z)
            have st7 := st6.called ap hv sm7 fo7
            have e : newR (B.st v) Rv' (f, s) = setF R v Rv' v := by
              rw [setF_at]
              unfold newR
              rw [hb2]
              show putR Rv' (f, s) = Rv'
              unfold putR
              rw [if_pos hmem]
            rw [e, setF_self] at st7
            rw [due_ok (r := (f, s)) hb2, hidx] at ht3
            refine neDD (.tup (.inl (.inl ht3)) (.cons (.str _) (.cons (.int _) .nil))) (.tup (.inl (.inl hq7)) (.cons (.str _) (.cons (.int _) .nil))) shd shd (q := ⟨_, rfl, ?_⟩)
            rw [if_neg (by rw [eqv_same shd]; decide)]
            refine htl _ _ ⟨_, es', rfl, st7, fun u hu => ?_⟩
            by_cases c : u = v
            · subst c
              rw [setF_at]
              exact ⟨hlen1, hok1⟩
            · rw [setF_ne c]
              exact ⟨Nat.le_succ_of_le (hR u hu).1, (hR u hu).2⟩
          by_cases hmem : (f, s) ∈ R v
          · have hil := List.idxOf_lt_length_iff.mpr hmem
            rw [if_neg (by simp only [decide_eq_true_eq]; omega)]
            have ep : putR (R v) (f, s) = R v := by unfold putR; rw [if_pos hmem]
            rw [ep, setF_self] at st3
            refine fin2 H3 (R v) es ?_ hl3 hq1 hmem rfl (Nat.le_refl _) (Nat.le_succ_of_le hRv.1) hRv.2
            rw [setF_self]
            exact st3
          · have hil := List.idxOf_eq_length hmem
            rw [if_pos (by rw [hil]; exact decide_eq_true rfl)]
            have ep : putR (R v) (f, s) = R v ++ [(f, s)] := by unfold putR; rw [if_neg hmem]
            rw [ep] at st3
            refine ixL (.inl (.inl st3.rr)) (atN (two_at (f := fun u => V.ref (B.rl u)) hv)) ⟨.inl ⟨rfl, _, .inl (.inl (st3.rl v hv))⟩, l, _, rfl, .inl ⟨.inl (.inl hl3), fun t ht => ⟨by rw [sizeLine_eq]; decide, fun p hp => ?_⟩⟩⟩
            have s4 : Same H3 (upd H3 t (.tup (s.map V.int))) := UL.Same.new ht
            have et : upd H3 t (.tup (s.map V.int)) t = _ := upd_same
            generalize upd H3 t (.tup (s.map V.int)) = H4 at s4 et hp ⊢
            have s5 : Same H4 (upd H4 p (.tup [.str f, .ref t])) := UL.Same.new hp
            have ep5 : upd H4 p (.tup [.str f, .ref t]) p = _ := upd_same
            generalize upd H4 p (.tup [.str f, .ref t]) = H5 at s5 ep5 ⊢
            have s35 := sTr s4 s5
            have st5 := st3.same s35
            have hr5 : RowS H5 p (f, s) := ⟨t, ep5, s5 _ _ et⟩
            have st6 := st5.row ap hv hr5
            have e5 := st5.rl v hv
            have nl : l ≠ B.rl v := nlr v hv
            have nq : q1 ≠ B.rl v := fun z => by
              have h1 := s35 _ _ hq1
              rw [z, e5] at h1; cases h1
            refine ⟨B.rl v, _, _, rfl, rfl, e5, by rw [List.length_map, plen (st5.rs v hv), sizeLine_eq]; omega, ?_⟩
            refine fin2 _ (R v ++ [(f, s)]) _ st6 ((upd_ne nl).trans (s35 _ _ hl3)) ((upd_ne nq).trans (s35 _ _ hq1)) (by simp) ?_ (by simp) (by rw [List.length_append]; have := hRv.1; show (R v).length + 1 ≤ i + 1; omega) fun r hr => (List.mem_append.mp hr).elim (hRv.2 r) fun h => by rw [List.mem_singleton.mp h]; exact hok
            obtain ⟨_, _, _, _, nr⟩ := st3.fo v hv
            rw [setF_at] at nr
            rw [hil]
            exact idx_nd nr.1 (by rw [List.getElem?_append_right (Nat.le_refl _), Nat.sub_self]; rfl)
      obtain ⟨R', es', rfl, st4, hR'⟩ := hm
      walk_at "rd"
      obtain ⟨dx, kvs, h1, _, _⟩ := st4.fo v hv
      refine ixL (.inl (.inl st4.tl)) (atN (two_at (f := fun u => V.ref (B.x u)) hv)) ⟨B.x v, rfl, dx, _, h1, rfl, B.x v, B.d v, B.st v, R' v, rfl, st4.fo v hv, fun l2 es2 H5 hl20 hl2 rs2 s5 => ?_⟩
      have st5 := st4.same s5
      refine ixL (.inl (.inl st5.rr)) (atN (two_at (f := fun u => V.ref (B.rl u)) hv)) ⟨l2, B.rl v, es2, es' v, R' v, rfl, hl2, st5.rl v hv, rs2, st5.rs v hv, by have := (hR' v hv).1; omega, (hR' v hv).2, _, rfl, ?_⟩
      rw [if_neg (by decide)]
      refine ⟨.inl ⟨rfl, _, .inl (.inl hl2)⟩, fun p hp => ⟨by rw [sizeLine_eq]; decide, fun p1 hp1 => ?_⟩⟩
      have s6 : Same H5 (upd H5 p (.tup [])) := UL.Same.new hp
      have s7 := sTr s6 (UL.Same.new (o := .tup [V.str (Str.ofString "a"), V.ref p]) hp1)
      generalize upd (upd H5 p (.tup [])) p1 (.tup [V.str (Str.ofString "a"), V.ref p]) = H7 at s7 ⊢
      have st7 := st5.same s7
      have hl7 := s7 _ _ hl2
      have le2 := plen rs2
      refine ⟨l2, _, _, rfl, rfl, hl7, by rw [List.length_map, le2, sizeLine_eq]; have := (hR' v hv).1; omega, ?_⟩
      have st8 := st7.put (o := .lst (es2.map V.ref ++ [V.ref p1])) st4 hl20 hl7
      generalize upd H7 l2 (.lst (es2.map V.ref ++ [V.ref p1])) = H8 at st8 ⊢
      have e1 : (1 : Int) - (v : Int) = ((1 - v : Nat) : Int) := by omega
      rw [e1]
      have hu : 1 - v < 2 := by omega
      generalize 1 - v = u at hu ⊢
      obtain ⟨dx2, kvs2, h2, _, _⟩ := st8.fo u hu
      refine ixL (.inl (.inl st8.tl)) (atN (two_at (f := fun u => V.ref (B.x u)) hu)) ⟨B.x u, rfl, dx2, _, h2, rfl, B.x u, B.d u, B.st u, R' u, rfl, st8.fo u hu, fun l3 es3 H9 hl30 hl3 rs3 s9 => ?_⟩
      have st9 := st8.same s9
      refine ixL (.inl (.inl st9.rr)) (atN (two_at (f := fun u => V.ref (B.rl u)) hu)) ⟨l3, B.rl u, es3, es' u, R' u, rfl, hl3, st9.rl u hu, rs3, st9.rs u hu, by have := (hR' u hu).1; omega, (hR' u hu).2, _, rfl, ?_⟩
      rw [if_neg (by decide)]
      exact ⟨⟨_, rfl⟩, R', ⟨es', st9⟩, hR'⟩
    · obtain ⟨R, es, z6, z7, z8, z9, z10, z11, z12, z13, z14, z15, z16, rfl, st, hR⟩ := inv
      walk_at "rd"
      exact q _
end
end U

set_option Elab.async false
set_option linter.all false
set_option maxRecDepth 100000
set_option maxHeartbeats 4000000
set_option pp.deepTerms true
set_option pp.maxSteps 400000
namespace U
open PySem PySem.Spec PyProof.Rows L2 UL UX
local macro_rules | `(tactic| walk_at "rd") => `(tactic| simp only [sMatch, tJs, tFmt, tBC, tMethA, tMakeL, iEnumS, tSeq, tAsg, tOp, tCB, tCons, tNil, tVar, tC, tB, tTest, tNot, tIfS, tNext, tYes, tUn, rU, tM0, tGFrom, tGThen, tG0, tYfLst, gcxK, tSubO, tProp, tListG, tMethG, tBMF, tFld, sFld, tMeth, tMake, tSl, tNoPart, tPart, tM1, gTup, gCons, gNil, tDrop, tFor_eq, tLc_eq, tLc2_eq, iRng1_eq, StX.tStar, iList, iTup, iStr, iAny_var, iZipB, tLenSetS, wipe, tVar, tAndV, tOrV, tNotV, tOr, tAnd, tLst, tTup, tBM, tBM0, tChain, tCall, cxK, noxK, addII, addSS, mulII, eqII, neII, neSS, cIntI, cAbsI, rI, rI0, rLt, rLe, rGt_, rGe_, rSub_, rMod, rPow, rDivW, rNeg, gName, tRet, L2.start, List.length_cons, List.length_nil, List.map_cons, List.map_nil, List.replicate, List.cons_append, List.nil_append, List.getElem?_cons_zero, List.getElem?_cons_succ, List.set_cons_zero, List.set_cons_succ, Option.some.injEq, exists_eq_left', exists_eq_left, V.int.injEq, V.bl.injEq, V.str.injEq, V.ref.injEq, V.ty.injEq, List.cons.injEq, and_true, true_and, reduceCtorEq, false_and, exists_false, or_false, false_or, exists_and_left, exists_and_right, List.append_nil, forall_eq, decide_eq_true_eq, Bool.not_eq_true, Nat.reduceAdd, Nat.reduceSub, List.replicate_zero, List.replicate_succ, Nat.zero_le, ite_true, ite_false, if_true, if_false])
section
variable {P : Program} {w : World} {K : PySem.W.Frag} {mg : Str → Option Value} {base : Heap}
open UV UW ClX UX
theorem td_mk {h : Heap} {x : Str} {st : Stmt} {f : Addr} {oc kV dc pm cd ct : Value} {od an : Option Addr} {sl : Array (Option Value)} (X : K.In h) (G : h.Ns mainGlobals mg) (a : PySem.W.nsIn K mainGlobals x = some (some (.ref f)))
    (l : K.lookup f = some ⟨oc, od, .func (PySem.W.fnOf x x (defArgs st) (defBody st) (defScope st) .none kV dc pm an cd ct), sl⟩) (c : PySem.W.codeIn K cd x = true) (k : PySem.W.keepIn K (.ref f) = true) : TD K mg x st := ⟨f, _, fun_mk l c k, PySem.W.mg_of X G a⟩
theorem md_mk {C : Addr} {m qual : Str} {st : Stmt} {f : Addr} {oc kV dc pm cd ct : Value} {od an : Option Addr} {sl : Array (Option Value)} (a : PySem.W.findIn K (.ref C) m = some (some (.ref f)))
    (l : K.lookup f = some ⟨oc, od, .func (PySem.W.fnOf m qual (defArgs st) (defBody st) (defScope st) .none kV dc pm an cd ct), sl⟩) (c : PySem.W.codeIn K cd qual = true) (i : PySem.W.isFn K (.ref f) = true) (k : PySem.W.keepIn K (.ref f) = true) : MD K C m qual st := ⟨f, _, fun_mk l c k, a, i, k⟩
theorem no_mk {h : Heap} {x : Str} (X : K.In h) (G : h.Ns mainGlobals mg) (a : PySem.W.nsIn K mainGlobals x = some none) : mg x = none := PySem.W.mg_none_of X G a
theorem gs_mk {h : Heap} {x z : Str} {t : Tok} (X : K.In h) (G : h.Ns mainGlobals mg) (a : PySem.W.nsIn K mainGlobals x = some (some (.str z t))) : ∃ u, mg x = some u ∧ RelV (.str z) u := ⟨_, PySem.W.mg_of X G a, _, rfl⟩
theorem gi_mk {h : Heap} {x : Str} {i : Int} {t : Tok} (X : K.In h) (G : h.Ns mainGlobals mg) (a : PySem.W.nsIn K mainGlobals x = some (some (.int i t))) : ∃ u, mg x = some u ∧ RelV (.int i) u := ⟨_, PySem.W.mg_of X G a, _, rfl⟩
theorem gr_mk {h : Heap} {x : Str} {a : Addr} (X : K.In h) (G : h.Ns mainGlobals mg) (e : PySem.W.nsIn K mainGlobals x = some (some (.ref a))) : ∃ u, mg x = some u ∧ RelV (.ref a) u := ⟨_, PySem.W.mg_of X G e, rfl⟩
theorem ga_mk {h : Heap} {x : Str} {a : Addr} (X : K.In h) (G : h.Ns mainGlobals mg) (e : PySem.W.nsIn K mainGlobals x = some (some (.ref a))) : mg x = some (.ref a) := PySem.W.mg_of X G e
theorem na_mk {C : Addr} {x : Str} (a : PySem.W.findIn K (.ref C) x = some none) : NoAttr K C x := a
theorem cfn_mk {C : Addr} {m : Str} {f : Addr} (a : PySem.W.findIn K (.ref C) m = some (some (.ref f))) (b : PySem.W.findCls K (.ref C) (.type "type") m = some (.val (.ref f))) (r : PySem.W.readsIn K C (.type "type") = true)
    (g : PySem.W.specialIn K (.ref C) "__getattribute__" = some (some (.builtin "type.__getattribute__"))) (k : PySem.W.keepIn K (.ref f) = true) : ∃ f, PySem.W.findIn K (.ref C) m = some (some (.ref f)) ∧ UX.CFn K C m f := ⟨f, a, b, ⟨r, g⟩, k⟩
theorem cm_mk {C : Addr} {m qual : Str} {st : Stmt} {q g : Addr} {rest : List Value} {oc kV dc pm cd ct : Value} {od an : Option Addr} {sl : Array (Option Value)} (b : PySem.W.findCls K (.ref C) (.type "type") m = some (.get (.builtin "classmethod.__get__") (.ref q) .none (.ref C))) (rc : PySem.W.recIn K q "classmethod" = some (.ref g :: rest))
    (r : PySem.W.readsIn K C (.type "type") = true) (ga : PySem.W.specialIn K (.ref C) "__getattribute__" = some (some (.builtin "type.__getattribute__"))) (fi : PySem.W.fnIn K g = true)
    (l : K.lookup g = some ⟨oc, od, .func (PySem.W.fnOf m qual (defArgs st) (defBody st) (defScope st) .none kV dc pm an cd ct), sl⟩) (c : PySem.W.codeIn K cd qual = true) (k : PySem.W.keepIn K (.ref g) = true) :
    ∃ q g fd, ClX.CRead K C (.type "type") ∧ ClX.CMet K C (.type "type") m q g ∧ Fun K m qual st g fd := ⟨q, g, _, ⟨r, ga⟩, ⟨b, ⟨rest, rc⟩, fi⟩, fun_mk l c k⟩
/-- C(..) from its __init__ -/
theorem kn_of {C : Addr} {x : Str} {k : Nat} {sp : Sp} (d : Mn P w K mg base CX0 k C "__init__" sp) (mk : PySem.W.makesIn K C = true) (kc : PySem.W.keepIn K (.ref C) = true) (gc : mg x = some (.ref C)) : Kn P w K mg base CX0 k C x sp := by
  obtain ⟨f, fd, ps, FO, M, B⟩ := d.ex
  exact ⟨f, fd, ps, FO, ⟨mk, M.at_, M.fn, kc⟩, B, gc⟩
/-- C.m(self, ..) from its def -/
theorem bn_of {C : Addr} {x m : Str} {k : Nat} {sp : Sp} (d : Mn P w K mg base CX0 k C m sp) (h : ∃ f, PySem.W.findIn K (.ref C) m = some (some (.ref f)) ∧ UX.CFn K C m f) (gc : mg x = some (.ref C)) : UX.Bn P w K mg base k C x m sp := by
  obtain ⟨f, fd, ps, FO, M, B⟩ := d.ex
  obtain ⟨f2, e, c⟩ := h
  have z := M.at_.symm.trans e
  cases z
  exact ⟨f, fd, ps, FO, c, B, gc⟩
theorem ox_mk {C : Addr} {nm q : Str} {N : Addr} {bs bm : List Value} {sn : List Str} {sub : List Value} {ab : Bool} {col : Option Bool} {dd : Option Addr} {k0 k1 k2 k3 k5 : Option Value} (l : K.lookup C = some (excClassObj nm q C N bs bm true sn sub ab col dd k0 k1 k2 k3 k5 "ValueError.__new__")) (hb : PySem.HandSPX.refsVE bm = true)
    (sa : PySem.W.findIn K (.ref C) "__setattr__" = some (some (.builtin "object.__setattr__"))) (e : PySem.W.subIn K (.ref C) (.type "BaseException") = some true) (t : PySem.W.typeIn K (.ref C) = some (.type "type")) (k : PySem.W.keepIn K (.ref C) = true) : OexC K C := ⟨⟨nm, q, N, bs, bm, sn, sub, ab, col, dd, k0, k1, k2, k3, k5, l, hb⟩, sa, e, t, k⟩
theorem xd_mk {h : Heap} {C : Addr} {x qual : Str} {st : Stmt} {f c cc : Addr} {oc kV doc pm ct : Value} {od an : Option Addr} {osl : Array (Option Value)} {ccl : Value} {cdd : Option Addr} {vs : Array Value} {ccs : Array (Option Value)} {file : Str} {tf : Tok} {cl : Value} {cld : Option Addr} {csl : Array (Option Value)} (X : K.In h) (G : h.Ns mainGlobals mg) (ox : OexC K C)
    (gc : PySem.W.nsIn K mainGlobals x = some (some (.ref C))) (fi : PySem.W.findIn K (.ref C) "__init__" = some (some (.ref f))) (lk : K.lookup f = some ⟨oc, od, .func (PySem.W.fnX "__init__" qual (defArgs st) (defBody st) (defScope st) [("__class__", cc)] .none kV doc pm an (.ref c) ct), osl⟩) (hcd : PySem.W.codeIn K (.ref c) qual = true)
    (ty : PySem.W.typeIn K (.ref f) = some (.type "function")) (par : ∃ ar, ((defArgs st).posonlyargs ++ (defArgs st).args).head? = some ar ∧ ar.arg = "self") (lc : K.lookup c = some ⟨ccl, cdd, .fields vs, ccs⟩) (v2 : vs[2]? = some (.str file tf)) (fl : ((P.main.file : Str) == file) = true) (top : (P.main.scope.names.lookup ("super" : Str)).isSome = false)
    (lcc : K.lookup cc = some ⟨cl, cld, .cell (some (.ref C)), csl⟩) (nos : PySem.W.nsIn K mainGlobals "super" = some none) (sub : PySem.W.mroIn K C (.ref C) = some true) (op : PySem.W.nsIn K cStatics "thirdparty.any" = some none) (al : PySem.W.ks_superIn K C C "__init__" = some (some wr)) : XD P K mg C x qual st :=
  ⟨⟨f, c, cc, oc, kV, doc, pm, ct, od, an, osl, lk, hcd, ⟨⟨oc, od, osl, lk⟩, par, ⟨ccl, cdd, vs, ccs, file, tf, lc, v2, fl⟩, top, ⟨cl, cld, csl, lcc⟩, PySem.W.mg_none_of X G nos, sub, op, al⟩, fi, ty⟩, ox, PySem.W.mg_of X G gc⟩
theorem kx_of {C : Addr} {x : Str} {k : Nat} {sp : Sp} (d : Mn P w K mg base (L2.CX P w) k C "__init__" sp) (mk : PySem.W.makesIn K C = true) (kc : PySem.W.keepIn K (.ref C) = true) (gc : mg x = some (.ref C)) : Kn P w K mg base (L2.CX P w) k C x sp := by
  obtain ⟨f, fd, ps, FO, M, B⟩ := d.ex
  exact ⟨f, fd, ps, FO, ⟨mk, M.at_, M.fn, kc⟩, B, gc⟩
theorem callf_mk {C : Addr} {f : Addr} (a : PySem.W.findIn K (.ref C) "__call__" = some (some (.ref f))) (b : PySem.W.fnIn K f = true) : ∃ f, PySem.W.findIn K (.ref C) "__call__" = some (some (.ref f)) ∧ PySem.W.fnIn K f = true := ⟨f, a, b⟩
/-- everything that the law wants of the module -/
structure All (P : Program) (K : PySem.W.Frag) (mg : Str → Option Value) (Fo UF WE : Addr) : Prop where
  xdUF : XD P K mg UF "UnknownFormula" "UnknownFormula.__init__" s_UF
  xl : FmX K mg Fo UF WE
  gFo : mg "Formulas" = some (.ref Fo)
  mkFo : PySem.W.makesIn K Fo = true
  kcFo : PySem.W.keepIn K (.ref Fo) = true
  cf : ∃ f, PySem.W.findIn K (.ref Fo) "__call__" = some (some (.ref f)) ∧ PySem.W.fnIn K f = true
  d_law_is_number : TD K mg "_law_is_number" s__law_is_number
  d_law_mixed : TD K mg "_law_mixed" s__law_mixed
  d_law_pool : TD K mg "_law_pool" s__law_pool
  d_law_draw : TD K mg "_law_draw" s__law_draw
  d_law_names : TD K mg "_law_names" s__law_names
  d_law_same : TD K mg "_law_same" s__law_same
  d_law_same_rows : TD K mg "_law_same_rows" s__law_same_rows
  d_law_called : TD K mg "_law_called" s__law_called
  d_law_due : TD K mg "_law_due" s__law_due
  m_init : MD K Fo "__init__" "Formulas.__init__" s_Formulas___init__
  m_call : MD K Fo "__call__" "Formulas.__call__" s_Formulas___call__
  m_rows : MD K Fo "rows" "Formulas.rows" s_Formulas_rows
  m_total : MD K Fo "total" "Formulas.total" s_Formulas_total
theorem law_of {Fo UF WE : Addr} (a : All P K mg Fo UF WE) {f0 : Addr} {fd0 : FuncData} (F0 : Fun K "law" "law" s_law f0 fd0) : FnOk P w K mg base CX0 30 f0 fd0 ["_law_script"] (sp_law K) := by
  have X := a.xl
  have T := X.toFmT
  have N := T.toNm
  have xU : Xn P w K mg base 1 UF "UnknownFormula" (sp_UF (K := K) UF) := x_UF a.xdUF
  have iF : Mn P w K mg base CX0 1 Fo "__init__" (sp_finit P w Fo) := m_finit T a.m_init
  have kF : Kn P w K mg base CX0 1 Fo "Formulas" (sp_finit P w Fo) := kn_of iF a.mkFo a.kcFo a.gFo
  have mT : Mn P w K mg base CX0 1 Fo "total" (sp_ftotal P w Fo) := m_ftotal T a.m_total
  have mR : Mn P w K mg base CX0 1 Fo "rows" (sp_frows P w Fo) := m_frows T a.m_rows
  have mC : Mn P w K mg base (L2.CX P w) 3 Fo "__call__" (sp_fcall P w K Fo UF) := m_fcall T a.m_call mT xU
  have hmix : Dn P w K mg base CX0 1 "_law_mixed" sp_mixed := d_mixed N a.d_law_mixed
  have hpool : Dn P w K mg base CX0 2 "_law_pool" (sp_pool K) := d_pool N a.d_law_pool hmix
  have hdraw : Dn P w K mg base CX0 1 "_law_draw" sp_draw := d_draw N a.d_law_draw
  have hnames : Dn P w K mg base CX0 2 "_law_names" sp_names := d_names N a.d_law_names hdraw
  have hnum : Dn P w K mg base CX0 1 "_law_is_number" sp_isnum := d_isnum N a.d_law_is_number
  have hsame : Dn P w K mg base CX0 2 "_law_same" sp_same := d_same N a.d_law_same hnum
  exact ok_law X F0 hpool hdraw hnames hnum (d_ldue N a.d_law_due) (d_lcalled X a.d_law_called (UX.Mn.con mC a.cf)) (d_srows N a.d_law_same_rows hsame) kF mR
theorem fin_of {l : PySem.W.OpenLaw} {w : World} {h : Heap} {fa Fo UF WE : Addr} (X : K.In h) (G : h.Ns mainGlobals mg) (hfa : mg "law" = some (.ref fa)) (a : All l.prog K mg Fo UF WE)
    {f1 : Addr} {od1 an1 : Option Addr} {sl1 : Array (Option Value)} {oc1 kV1 dc1 pm1 cd1 ct1 : Value}
    (a1 : PySem.W.nsIn K mainGlobals "law" = some (some (.ref f1))) (l1 : K.lookup f1 = some ⟨oc1, od1, .func (PySem.W.fnOf "law" "law" (defArgs s_law) (defBody s_law) (defScope s_law) .none kV1 dc1 pm1 an1 cd1 ct1), sl1⟩) (c1 : PySem.W.codeIn K cd1 "law" = true) (k1 : PySem.W.keepIn K (.ref f1) = true) :
    ∃ fd : FuncData, (∀ (s : Shared) (v : Value), BindsTo s fd ⟨[v], []⟩ [("_law_script", v)]) ∧ ∀ base : Heap, K.In base → base.Ns mainGlobals mg → FnOk l.prog w K mg base CX0 30 fa fd ["_law_script"] (sp_law K) := by
  have e := hfa.symm.trans (PySem.W.mg_of X G a1)
  cases e
  have F1 := fun_mk (st := s_law) l1 c1 k1
  exact ⟨PySem.W.fnOf "law" "law" (defArgs s_law) (defBody s_law) (defScope s_law) .none kV1 dc1 pm1 an1 cd1 ct1, fun s v => .of_eq rfl, fun base _ _ => law_of a F1⟩
theorem walk {l : PySem.W.OpenLaw} {q : Program} {loose : List Str} {XP : (Str → Option Value) → Heap → Prop} {YP : World → Heap → Prop} {d : DefRec} {K : Params → PySem.W.Frag} (hn : l.most = some 63) (hdf : d.params.defaults = [])
    (hY : ∀ (w : World) (h : Heap), YP w h → (K w.params).In h)
    (F : ∀ (w : World) (mg : Str → Option Value) (fa : Addr) (h : Heap), (K w.params).In h → h.Ns mainGlobals mg → mg d.name = some (.ref fa) →
      ∃ fd : FuncData, (∀ (s : Shared) (u : Value), BindsTo s fd ⟨[u], []⟩ [("_law_script", u)]) ∧ ∀ base : Heap, (K w.params).In base → base.Ns mainGlobals mg → FnOk l.prog w (K w.params) mg base CX0 30 fa fd ["_law_script"] (sp_law (K w.params))) :
    PySem.W.WalkO q loose XP YP l.row.toRowW d [] (fun f vs => PySem.call f vs) :=
  L2.walk_of (n := 63) (k := 30) (x := "_law_script") (CX := fun _ => CX0) (sp := fun w => sp_law (K w.params)) hn (by decide) hdf ⟨rfl, by decide, by decide⟩ hY F (fun _ _ a ns hl _ hS => ⟨a, ns, rfl, hS, hl, fun _ => rfl⟩) fun _ _ _ _ _ z => z
end
end U

set_option Elab.async false
open PySem PySem.W PyProof.Rows
set_option maxRecDepth 100000 in
set_option maxHeartbeats 0 in
theorem PySem.Challenge.cw_untoldrule_k28_formulas_have_numbers_holds : PySem.Challenge.rw_untoldrule_k28_formulas_have_numbers.Holds := by
  w_on; o_law; k_head; (case hw => w_witness2)
  k_fill
  refine U.walk (l := PySem.Challenge.rw_untoldrule_k28_formulas_have_numbers) rfl rfl (fun w h Y => by first | exact PySem.W.kIn_of Y | exact PySem.W.km_in_of Y) ?F
  case F =>
    intro w mg fa h KX G hmg
    refine' U.fin_of KX G hmg (Fo := ?adr_Fo) (UF := ?adr_UF) (WE := ?adr_WE) { xdUF := ?xdUF_1, xl := { toFmT := { toNm := { n_int := ?n_int_24, n_bool := ?n_bool_26, n_str := ?n_str_28, n_list := ?n_list_30, n_tuple := ?n_tuple_32, n_set := ?n_set_34, n_len := ?n_len_36, n_abs := ?n_abs_38, n_all := ?n_all_40, n_iter := ?n_iter_42, n_range := ?n_range_44, n_zip := ?n_zip_46, n_isinstance := ?n_isinstance_48 }, cls := ⟨?cls_50, ?cls_51, ?cls_52, ?cls_53⟩, a_starts := ?a_starts_54, a_numbers := ?a_numbers_56, na := ?na_58 }, n_ValueError := ?n_ValueError_59, c_WeaveError := ?c_WeaveError_61, g_UF := ?g_UF_63, xfI := ⟨?xfI_65, ?xfI_66, ?xfI_67, ?xfI_68⟩, ecI := ⟨?ecI_69, ?ecI_70, ?ecI_71, ?ecI_72, ?ecI_73, ?ecI_74, ?ecI_75, ?ecI_76⟩, ii := ?ii_77, iw := ?iw_78, iv := ?iv_79 }, gFo := ?gFo_80, mkFo := ?mkFo_82, kcFo := ?kcFo_83, cf := ?cf_84, d_law_is_number := ?d_law_is_number_87, d_law_mixed := ?d_law_mixed_92, d_law_pool := ?d_law_pool_97, d_law_draw := ?d_law_draw_102, d_law_names := ?d_law_names_107, d_law_same := ?d_law_same_112, d_law_same_rows := ?d_law_same_rows_117, d_law_called := ?d_law_called_122, d_law_due := ?d_law_due_127, m_init := ?m_init_132, m_call := ?m_call_138, m_rows := ?m_rows_144, m_total := ?m_total_150 } ?a1 ?l1 ?k1 ?k2
    (case n_int_24 => refine' U.no_mk KX G ?zz_25; (case zz_25 => k_is))
    (case n_bool_26 => refine' U.no_mk KX G ?zz_27; (case zz_27 => k_is))
    (case n_str_28 => refine' U.no_mk KX G ?zz_29; (case zz_29 => k_is))
    (case n_list_30 => refine' U.no_mk KX G ?zz_31; (case zz_31 => k_is))
    (case n_tuple_32 => refine' U.no_mk KX G ?zz_33; (case zz_33 => k_is))
    (case n_set_34 => refine' U.no_mk KX G ?zz_35; (case zz_35 => k_is))
    (case n_len_36 => refine' U.no_mk KX G ?zz_37; (case zz_37 => k_is))
    (case n_abs_38 => refine' U.no_mk KX G ?zz_39; (case zz_39 => k_is))
    (case n_all_40 => refine' U.no_mk KX G ?zz_41; (case zz_41 => k_is))
    (case n_iter_42 => refine' U.no_mk KX G ?zz_43; (case zz_43 => k_is))
    (case n_range_44 => refine' U.no_mk KX G ?zz_45; (case zz_45 => k_is))
    (case n_zip_46 => refine' U.no_mk KX G ?zz_47; (case zz_47 => k_is))
    (case n_isinstance_48 => refine' U.no_mk KX G ?zz_49; (case zz_49 => k_is))
    (case n_ValueError_59 => refine' U.no_mk KX G ?zz_60; (case zz_60 => k_is))
    (case c_WeaveError_61 => refine' U.gr_mk KX G ?zz_62; (case zz_62 => k_is))
    (case g_UF_63 => refine' U.ga_mk KX G ?zz_64; (case zz_64 => k_is))
    (case gFo_80 => refine' U.ga_mk KX G ?zz_81; (case zz_81 => k_is))
    (case xdUF_1 => refine' U.xd_mk KX G ?zx_ox_2 ?zx_gc_3 ?zx_fi_4 ?zx_lk_5 ?zx_hcd_6 ?zx_ty_7 ?zx_par_8 ?zx_lc_9 ?zx_v2_10 ?zx_fl_11 ?zx_top_12 ?zx_lcc_13 ?zx_nos_14 ?zx_sub_15 ?zx_op_16 ?zx_al_17; (case zx_gc_3 => k_is); (case zx_ox_2 => refine' U.ox_mk ?zo_18 ?zo_19 ?zo_20 ?zo_21 ?zo_22 ?zo_23; (case zo_18 => k_is); (case zo_19 => rfl); (case zo_20 => k_is); (case zo_21 => k_is); (case zo_22 => k_is); (case zo_23 => k_is)); (case zx_fi_4 => k_is); (case zx_lk_5 => k_is); (case zx_hcd_6 => k_is); (case zx_ty_7 => k_is); (case zx_par_8 => exact ⟨_, rfl, rfl⟩); (case zx_lc_9 => k_is); (case zx_v2_10 => rfl); (case zx_fl_11 => first | rfl | decide +kernel); (case zx_top_12 => first | rfl | decide +kernel); (case zx_lcc_13 => k_is); (case zx_nos_14 => k_is); (case zx_sub_15 => k_is); (case zx_op_16 => k_is); (case zx_al_17 => ks_is))
    (case cls_50 => k_is)
    (case cls_51 => k_is)
    (case cls_52 => k_is)
    (case cls_53 => k_is)
    (case a_starts_54 => refine' U.na_mk  ?zz_55; (case zz_55 => k_is))
    (case a_numbers_56 => refine' U.na_mk  ?zz_57; (case zz_57 => k_is))
    (case na_58 => k_is)
    (case xfI_65 => k_is)
    (case xfI_66 => k_is)
    (case xfI_67 => k_is)
    (case xfI_68 => k_is)
    (case ecI_69 => k_is)
    (case ecI_70 => k_is)
    (case ecI_71 => k_is)
    (case ecI_72 => k_is)
    (case ecI_73 => k_is)
    (case ecI_74 => k_is)
    (case ecI_75 => k_is)
    (case ecI_76 => k_is)
    (case ii_77 => kernel_rfl)
    (case iw_78 => kernel_rfl)
    (case iv_79 => kernel_rfl)
    (case mkFo_82 => k_is)
    (case kcFo_83 => k_is)
    (case cf_84 => refine' U.callf_mk  ?zz_85 ?zz_86; (case zz_85 => k_is); (case zz_86 => k_is))
    (case d_law_is_number_87 => refine' U.td_mk KX G ?zz_88 ?zz_89 ?zz_90 ?zz_91; (case zz_88 => k_is); (case zz_89 => k_is); (case zz_90 => k_is); (case zz_91 => k_is))
    (case d_law_mixed_92 => refine' U.td_mk KX G ?zz_93 ?zz_94 ?zz_95 ?zz_96; (case zz_93 => k_is); (case zz_94 => k_is); (case zz_95 => k_is); (case zz_96 => k_is))
    (case d_law_pool_97 => refine' U.td_mk KX G ?zz_98 ?zz_99 ?zz_100 ?zz_101; (case zz_98 => k_is); (case zz_99 => k_is); (case zz_100 => k_is); (case zz_101 => k_is))
    (case d_law_draw_102 => refine' U.td_mk KX G ?zz_103 ?zz_104 ?zz_105 ?zz_106; (case zz_103 => k_is); (case zz_104 => k_is); (case zz_105 => k_is); (case zz_106 => k_is))
    (case d_law_names_107 => refine' U.td_mk KX G ?zz_108 ?zz_109 ?zz_110 ?zz_111; (case zz_108 => k_is); (case zz_109 => k_is); (case zz_110 => k_is); (case zz_111 => k_is))
    (case d_law_same_112 => refine' U.td_mk KX G ?zz_113 ?zz_114 ?zz_115 ?zz_116; (case zz_113 => k_is); (case zz_114 => k_is); (case zz_115 => k_is); (case zz_116 => k_is))
    (case d_law_same_rows_117 => refine' U.td_mk KX G ?zz_118 ?zz_119 ?zz_120 ?zz_121; (case zz_118 => k_is); (case zz_119 => k_is); (case zz_120 => k_is); (case zz_121 => k_is))
    (case d_law_called_122 => refine' U.td_mk KX G ?zz_123 ?zz_124 ?zz_125 ?zz_126; (case zz_123 => k_is); (case zz_124 => k_is); (case zz_125 => k_is); (case zz_126 => k_is))
    (case d_law_due_127 => refine' U.td_mk KX G ?zz_128 ?zz_129 ?zz_130 ?zz_131; (case zz_128 => k_is); (case zz_129 => k_is); (case zz_130 => k_is); (case zz_131 => k_is))
    (case m_init_132 => refine' U.md_mk  ?zz_133 ?zz_134 ?zz_135 ?zz_136 ?zz_137; (case zz_133 => k_is); (case zz_134 => k_is); (case zz_135 => k_is); (case zz_136 => k_is); (case zz_137 => k_is))
    (case m_call_138 => refine' U.md_mk  ?zz_139 ?zz_140 ?zz_141 ?zz_142 ?zz_143; (case zz_139 => k_is); (case zz_140 => k_is); (case zz_141 => k_is); (case zz_142 => k_is); (case zz_143 => k_is))
    (case m_rows_144 => refine' U.md_mk  ?zz_145 ?zz_146 ?zz_147 ?zz_148 ?zz_149; (case zz_145 => k_is); (case zz_146 => k_is); (case zz_147 => k_is); (case zz_148 => k_is); (case zz_149 => k_is))
    (case m_total_150 => refine' U.md_mk  ?zz_151 ?zz_152 ?zz_153 ?zz_154 ?zz_155; (case zz_151 => k_is); (case zz_152 => k_is); (case zz_153 => k_is); (case zz_154 => k_is); (case zz_155 => k_is))
    (case a1 => k_is); (case l1 => k_is); (case k1 => k_is); (case k2 => k_is)


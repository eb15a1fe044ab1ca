import PyProof.Rows.All
import KE.OsRunLaw
import PySem.Challenge.RW_untoldrule_k21_whole_rows_are_least
import Wide.All
import OpenK.AllK
import Wide.FinOn
import HandS.ForMost
import HandS.ForExc
import HandS.Wide
import HandS.IsInst
import HandS.Property
import HandS.GenList
import HandS.GenYield
import HandS.Star
import HandS.StrMore
import HandS.Conv
import HandS.Flow
import HandS.TupAny
import HandS.TupMul
import HandS.Deep
import HandS.Evl
import HandS.RaiseMore
import HandS.Zip
import HandS.Walk
import HandS.TryMany
import HandS.ExcInit
import HandS.ExcSuper
import HandS.Strs
import HandS.OwnIter
import HandS.IterNext
import KE.GoesMore
import KE.GoesZip
import HandS.Codes
import HandS.WordsExc
import KE.KSuper
import HandS.Nested
import HandS.ExcIs
import HandS.ExcOwn
import HandS.RaiseFrom
import HandS.HotCalls
import HandS.FStr
import PyProof.FString2
import KE.KWithOwn
import HandS.Finally
import KE.KUnpackStar
import HandS.ClsMeth
import HandS.CallLocal
import KE.GoesEnumKw
import HandS.ExcField
import HandS.DictComp
import HandS.ListItems
import HandS.SlotsOwn
import HandS.BoundDict
import HandS.TupLe
import HandS.IterVal
import KE.KCallOwn
import KE.KDictKeyed
import KE.GoesEnum
import PyProof.Rows.SumAny
import HandS.SetFor
import KE.KDictWalk
import HandS.Records
import HandS.Defaults
import HandS.EndTab
import HandS.DictTup
import KE.KDictDisplayH
import KE.DatumOrd
import KE.KNestM
set_option Elab.async false
set_option maxRecDepth 100000
set_option maxHeartbeats 4000000
/-! the head's run, looked at in parts: each part is a run of its own in the kernel -/
section
open PySem PySem.W PyProof.Rows
theorem U.tri3 {α β γ δ : Type} {o : Option α} {f : α → β} {g : α → γ} {h : α → δ} {a : β} {b : γ} {c : δ} (h1 : o.map f = some a) (h2 : o.map g = some b) (h3 : o.map h = some c) (_ : (0 : Nat) = 0) : o.map (fun s => (f s, g s, h s)) = some (a, b, c) := by
  cases o with
  | none => cases h1
  | some x => cases h1; cases h2; cases h3; rfl
abbrev U.R0 : OpenRow := OpenLaw.row PySem.Challenge.rw_untoldrule_k21_whole_rows_are_least
abbrev U.qv : Program := view U.R0.prog [1, 2, 3, 4, 5, 6, 7, 8, 9, 11, 14, 15, 16, 18, 19, 20, 21, 22, 23, 24, 25, 26, 27, 28, 29, 30, 31, 32, 34, 35, 36, 37, 38, 39, 40, 42, 43, 44, 46, 47, 48, 49, 51, 52, 53, 54, 55, 56, 57, 58, 59, 60, 61, 62, 63, 64, 65, 66, 67, 68, 69, 70, 71, 72, 73, 74]
abbrev U.lo : List PySem.Str := ["rows_from", "ReadWrite", "Program"]
abbrev U.Xt (q : Program) (s : Shared) : Bool := xlAt q [] s && recOk (OpenRow.toRowW U.R0).records s
noncomputable abbrev U.run (w : World) (os : OsState) : Option SharedT := HeadRun.endF (HeadRun.stepQ (HeadRun.denQ HeadRun.tabQ) (OpenRow.toRowW U.R0).prog w) 12410 (OpenRow.toRowW U.R0).prog w os
theorem U.lookA (w : World) (os : OsState) : (U.run w os).map (fun s => HeadRun.looksF (OpenRow.toRowW U.R0).prog (boot_heap w.params) s.abs) = some true := by kernel_rfl
theorem U.lookB1 (w : World) (os : OsState) : (U.run w os).map (fun s => (HeadRun.seenQ U.qv U.lo (importedModules (OpenRow.toRowW U.R0).prog.main.body) (U.Xt U.qv) s.abs).1) = some (expectedOf U.qv) := by kernel_rfl
theorem U.lookB2 (w : World) (os : OsState) : (U.run w os).map (fun s => (HeadRun.seenQ U.qv U.lo (importedModules (OpenRow.toRowW U.R0).prog.main.body) (U.Xt U.qv) s.abs).2.1) = some (bltViewBooted) := by kernel_rfl
theorem U.lookB3 (w : World) (os : OsState) : (U.run w os).map (fun s => (HeadRun.seenQ U.qv U.lo (importedModules (OpenRow.toRowW U.R0).prog.main.body) (U.Xt U.qv) s.abs).2.2.1) = some (true) := by kernel_rfl
theorem U.lookB4 (w : World) (os : OsState) : (U.run w os).map (fun s => (HeadRun.seenQ U.qv U.lo (importedModules (OpenRow.toRowW U.R0).prog.main.body) (U.Xt U.qv) s.abs).2.2.2.1) = some (true) := by kernel_rfl
theorem U.lookB5 (w : World) (os : OsState) : (U.run w os).map (fun s => (HeadRun.seenQ U.qv U.lo (importedModules (OpenRow.toRowW U.R0).prog.main.body) (U.Xt U.qv) s.abs).2.2.2.2.1) = some (pinGoodD (drecsOf U.qv)) := by kernel_rfl
theorem U.lookB6 (w : World) (os : OsState) : (U.run w os).map (fun s => (HeadRun.seenQ U.qv U.lo (importedModules (OpenRow.toRowW U.R0).prog.main.body) (U.Xt U.qv) s.abs).2.2.2.2.2.1) = some (plainGoodE U.qv (looseW U.qv U.lo)) := by kernel_rfl
theorem U.lookB7 (w : World) (os : OsState) : (U.run w os).map (fun s => (HeadRun.seenQ U.qv U.lo (importedModules (OpenRow.toRowW U.R0).prog.main.body) (U.Xt U.qv) s.abs).2.2.2.2.2.2.1) = some (plainGoodD U.qv U.lo) := by kernel_rfl
theorem U.lookB8 (w : World) (os : OsState) : (U.run w os).map (fun s => (HeadRun.seenQ U.qv U.lo (importedModules (OpenRow.toRowW U.R0).prog.main.body) (U.Xt U.qv) s.abs).2.2.2.2.2.2.2.1) = some (wideGood U.qv) := by kernel_rfl
theorem U.lookB9 (w : World) (os : OsState) : (U.run w os).map (fun s => (HeadRun.seenQ U.qv U.lo (importedModules (OpenRow.toRowW U.R0).prog.main.body) (U.Xt U.qv) s.abs).2.2.2.2.2.2.2.2) = some (clsGoodW U.qv U.lo) := by kernel_rfl
theorem U.pairO {σ β γ : Type} {o : Option σ} {f : σ → β × γ} {a : β} {b : γ} (h1 : o.map (fun s => (f s).1) = some a) (h2 : o.map (fun s => (f s).2) = some b) : o.map f = some (a, b) := by
  cases o with
  | none => cases h1
  | some x => exact congrArg some (Prod.ext (Option.some.inj h1) (Option.some.inj h2))
theorem U.lookB (w : World) (os : OsState) : (U.run w os).map (fun s => HeadRun.seenQ U.qv U.lo (importedModules (OpenRow.toRowW U.R0).prog.main.body) (U.Xt U.qv) s.abs) = some (openGood U.qv U.lo) :=
  U.pairO (U.lookB1 w os) (U.pairO (U.lookB2 w os) (U.pairO (U.lookB3 w os) (U.pairO (U.lookB4 w os) (U.pairO (U.lookB5 w os) (U.pairO (U.lookB6 w os) (U.pairO (U.lookB7 w os) (U.pairO (U.lookB8 w os) (U.lookB9 w os))))))))
theorem U.headB {q : Program} (hq : U.qv = q) (w : World) (os : OsState) {d : Type} {h : SharedT → d} {c : d} (hC : (U.run w os).map h = some c) :
    (U.run w os).map (fun s => (HeadRun.looksF (OpenRow.toRowW U.R0).prog (boot_heap w.params) s.abs, HeadRun.seenQ q U.lo (importedModules (OpenRow.toRowW U.R0).prog.main.body) (U.Xt q) s.abs, h s)) = some (true, openGood q U.lo, c) := by
  subst hq
  exact U.tri3 (U.lookA w os) (U.lookB w os) hC rfl
end
set_option Elab.async false
set_option linter.all false
set_option maxRecDepth 100000
set_option maxHeartbeats 2000000
/-! rules of our own: text * int, tuple * int, len(set(texts)) -/
namespace UL
open PySem PySem.Spec PyProof.Rows L2
/-! ### text * 0, text * 1 -/
def rMulS : R2 := fun x y H Q => ∃ z n, x = .str z ∧ y = .int n ∧ ((n = 0 ∧ Q (.str Str.empty) H) ∨ (n = 1 ∧ Q (.str z) H))
theorem op_mulS {X : Cx} : OpR X (binaryOp .Mult) rMulS := by
  intro pins s σ H x y v u Q I rx ry h
  obtain ⟨z, n, rfl, rfl, h⟩ := h
  obtain ⟨t, rfl⟩ := rx
  obtain ⟨t', rfl⟩ := ry
  rcases h with ⟨rfl, q⟩ | ⟨rfl, q⟩
  · exact P.mul_str_none (by decide) (by decide) ⟨.str Str.empty, H, I.tok _, ⟨_, rfl⟩, q⟩
  · refine P.mul_str (by decide) (fun _ e => ?_) (fun _ e => ?_) ?_
    · simp at e
    · simp at e
    · rw [if_neg (by decide), if_pos (by simp)]
      exact ⟨.str z, H, I, ⟨_, rfl⟩, q⟩
/-! ### tuple * int -/
theorem tuple_mul1 (l : Addr) (items : Array Value) (n : Nat) (dd : Option Addr) (sl : Array (Option Value)) (x : Int) (u : Tok) (c0 : (decide (x < -(2 ^ 63)) || decide (x ≥ 2 ^ 63)) = false) (c1 : (items.isEmpty || x == 1) = true) :
    Meets (Builtin.«tuple.__mul__» ⟨[.ref l, .int x u], []⟩) (fun _ R s => s.heap.get? l = some { cls := .type "tuple", dict := dd, data := .seq items n, slots := sl } ∧
      R (.ok (.ret (Value.ref l))) s) :=
  .of_wp fun prog w A R s h => by
    obtain ⟨hp, g, d, tk, os⟩ := s
    obtain ⟨hl, h⟩ := h
    have f1 := AutoSeq1.idx_int
    wp_walk using wpAny_loadPart' hl
    repeat (first
      | (refine wpAny_ite_false (decide_eq_false (by rw [c0]; exact Bool.false_ne_true)) ?_; wp_walk using wpAny_loadPart' hl)
      | (refine wpAny_ite_true (decide_eq_true c1) ?_; wp_walk using wpAny_loadPart' hl))
    exact ⟨_, rfl, h⟩
/-- the answer is a tuple of the items so often: a new one, or the same -/
def rRepU (K : PySem.W.Frag) : R2 := fun x y H Q => ∃ l k xs, x = .ref l ∧ y = .int k ∧ SqT K H l xs ∧ xs ≠ [] ∧ 1 ≤ k ∧ k ≤ 1000 ∧ xs.length ≤ 1000 ∧ (k = 1 → Q (.ref l) H) ∧ (2 ≤ k → ∀ p, H p = none → Q (.ref p) (upd H p (.tup (List.replicate k.toNat xs).flatten)))
theorem op_repU {X : Cx} : OpR X (binaryOp .Mult) (rRepU X.K) := by
  intro pins s σ H x y v u Q I rx ry h
  obtain ⟨l, k, xs, rfl, rfl, hT, hne, h1, h2, hz, q1, q2⟩ := h
  by_cases hk : k = 1
  · subst hk
    cases rx
    obtain ⟨t, rfl⟩ := ry
    obtain ⟨its, r, ⟨⟨cls, dd, data, sl⟩, ho, hc, n, hd⟩, hs⟩ := I.tuple hT
    simp only at hc hd
    subst hc hd
    have c0 : (decide ((1 : Int) < -(2 ^ 63)) || decide ((1 : Int) ≥ 2 ^ 63)) = false := by decide
    have c1 : (its.toArray.isEmpty || (1 : Int) == 1) = true := by simp
    refine wpAny_binaryOp_repeat_ref (T := "tuple") (U := "int") (by decide) ⟨_, ho, rfl⟩ (fun s' => typeIs_int s' 1 t) noFill_tuple_mul F.fills_int_mul F.slot_int_rmul repeat_tuple F.slot_int_index.lookup
      (call_meets F.slot_int_rmul (typeIs_int s 1 t) F.entry_int_rmul (F.args_int_rmul_2 _ _) (int_rmul_tuple 1 t l its.toArray n dd sl)
        ⟨ho, rfl, ⟨_, ho, rfl⟩, call_meets F.slot_tuple_mul ⟨_, ho, rfl⟩ F.entry_tuple_mul (F.args_tuple_mul_2 _ _) (tuple_mul1 l its.toArray n dd sl 1 t c0 c1) ⟨ho, ?_⟩⟩)
    exact ⟨.ref l, H, I, rfl, q1 rfl⟩
  · exact op_repT pins s σ H _ _ v u Q I rx ry ⟨l, k, xs, rfl, rfl, hT, hne, by omega, h2, hz, fun p hp => q2 (by omega) p hp⟩
end UL
/-! ### len(set(texts)) -/
namespace UL
open PySem PySem.Spec PyProof.Rows
/-- the texts met so far, each once -/
def met (xs : List Str) : List Str := xs.foldl (fun acc x => if acc.any (· == x) then acc else acc ++ [x]) []
theorem met_snoc (xs : List Str) (x : Str) : met (xs ++ [x]) = if (met xs).any (· == x) then met xs else met xs ++ [x] := by
  unfold met
  rw [List.foldl_append]
  rfl
theorem met_len (xs : List Str) : (met xs).length ≤ xs.length := by
  have h : ∀ (ys acc : List Str), (ys.foldl (fun acc x => if acc.any (· == x) then acc else acc ++ [x]) acc).length ≤ acc.length + ys.length := by
    intro ys
    induction ys with
    | nil => intro acc; simp
    | cons y r ih =>
      intro acc
      rw [List.foldl_cons]
      refine Nat.le_trans (ih _) ?_
      split <;> simp only [List.length_append, List.length_cons, List.length_nil] <;> omega
  simpa [met] using h xs []
theorem met_take (xs : List Str) {i : Nat} (h : i < xs.length) (k : Str) :
    (((met (xs.take i)).any (· == k) || decide (k = xs.getD i Str.empty)) = (met (xs.take (i + 1))).any (· == k)) ∧
      (if (met (xs.take i)).any (· == xs.getD i Str.empty) = true then (met (xs.take i)).length else (met (xs.take i)).length + 1) = (met (xs.take (i + 1))).length := by
  have hx : xs[i]? = some (xs.getD i Str.empty) := by
    rw [List.getD_eq_getElem?_getD]; simp [h]
  have ht : xs.take (i + 1) = xs.take i ++ [xs.getD i Str.empty] := by
    rw [List.take_add_one, hx]; rfl
  rw [ht, met_snoc]; generalize xs.getD i Str.empty = x
  by_cases e : (met (xs.take i)).any (· == x) = true
  · rw [if_pos e, if_pos e]
    refine ⟨?_, rfl⟩
    by_cases e2 : k = x
    · subst e2; simp [e]
    · simp [e2]
  · rw [if_neg e, if_neg e, List.any_append]
    refine ⟨?_, by simp⟩
    by_cases e2 : k = x
    · subst e2; simp
    · have hb : (x == k) = false := beq_eq_false_iff_ne.mpr fun z => e2 z.symm
      simp [e2, hb]
section
variable {prog : Program} {w : World} {A : Around} {E : Value → Shared → Prop} {s : Shared} {I : Addr} {fp wr : List Addr} {G : Array GenState → Array GenState → Prop} {n : Nat} {P : Nat → Value → Prop} {St : Nat → Shared → Prop}
/-- the set at S holds the first i texts -/
def Holds (prog : Program) (w : World) (S : Addr) (xs : List Str) (i : Nat) (h : Heap) : Prop := h.SetOf (PySem.strKind prog w) S (fun k => (met (xs.take i)).any (· == k)) (met (xs.take i)).length
theorem Holds.at {S : Addr} {xs : List Str} {i : Nat} {h h' : Heap} (x : Holds prog w S xs i h) (k : ∀ o, h.get? S = some o → h'.get? S = some o) : Holds prog w S xs i h' := by
  obtain ⟨o, es, ep, t, ho, r⟩ := x; exact ⟨o, es, ep, t, k o ho, r⟩
/-- the walk that fills a set with texts, from turn i on -/
theorem fills (W : WalksS prog w A.in1 I fp wr G n P St) {S : Addr} (hS : S ∉ fp) {xs : List Str} (hl : xs.length = n) (hb : n + 1 < scanBound) (hv : ∀ i v, P i v → ∃ t, v = .str (xs.getD i Str.empty) t) {R : Result → Shared → Prop} :
    ∀ (d i : Nat) (s : Shared), i + d = n → St i s → Holds prog w S xs i s.heap → (∀ s', Moved (S :: wr) G s s' → Holds prog w S xs n s'.heap → R (.ok (.ret .none)) s') →
      codeAny (model prog w) A (.builtin "set.update.loop" ⟨[.ref S, .ref I], []⟩) R s := by
  have nw : S ∉ wr := fun z => hS (W.sub _ z)
  have up : ∀ b ∈ wr, b ∈ S :: wr := fun b z => List.mem_cons_of_mem _ z
  intro d
  induction d with
  | zero =>
    intro i s e st hd hR
    cases (show i = n from e)
    refine codeAny_builtin PyProof.Rows.F.entry_set_update_loop ?_; rw [Around.under_plainId PyProof.Rows.F.plain_set_update_loop _]
    refine wpAny_bind (m := pyNext (.ref I)) (W.done s _ _ st fun s' m => wpAny_pure (hR s' (m.mono up) (hd.at fun o q => m.heap S o nw q)))
  | succ d ih =>
    intro i s e st hd hR
    have lt : i < n := by omega
    refine codeAny_builtin PyProof.Rows.F.entry_set_update_loop ?_; rw [Around.under_plainId PyProof.Rows.F.plain_set_update_loop _]
    refine wpAny_bind (m := pyNext (.ref I)) (W.item i s _ _ lt st fun v s' p st' m => ?_)
    obtain ⟨t, rfl⟩ := hv i v p
    have ml : (met (xs.take i)).length ≤ i := Nat.le_trans (met_len _) (by rw [List.length_take]; omega)
    refine wpAny_bind (m := holding [Value.str (xs.getD i Str.empty) t] (setAdd S (.str (xs.getD i Str.empty) t))) (wpAny_holding ?_)
    unfold setAdd
    refine wpAny_holding (wpAny_bind ((PySem.strKind prog w).pyHash (k := xs.getD i Str.empty) (strKind_is _ _ _ _) ?_))
    have hd' : Holds prog w S xs i s'.heap := hd.at fun o q => m.heap S o nw q
    refine wpAny_setAddHashed_of (knd := PySem.strKind prog w) (s := { s' with toks := s'.toks + 1 }) (strKind_is _ _ _ _) rfl hd' (by omega) fun h' sb new => ?_
    have hd2 : Holds prog w S xs (i + 1) h' := by
      obtain ⟨o, es, ep, tb, ho, r⟩ := new
      have e1 := fun k => (met_take xs (show i < xs.length by omega) k).1
      have e2 := (met_take xs (show i < xs.length by omega) Str.empty).2
      exact SetOf_congr ⟨o, es, ep, tb, ho, r⟩ e1 e2
    have off : ∀ b, b ∈ fp → b ≠ S := fun b z q => hS (q ▸ z)
    refine wpAny_pure ⟨plainId_quiet PyProof.Rows.F.plain_set_update_loop _, ih (i + 1) _ (by omega) (W.frame _ s' _ _ st' (Nat.le_succ _) fun b z o q => (sb.2 b (off b z)).trans q) hd2 fun s2 m2 q2 => hR s2 ?_ q2⟩
    exact Moved.trans W.gtrans ((m.mono up).then_heap (Nat.le_succ _) fun b o z q => (sb.2 b fun y => z (y ▸ List.mem_cons_self)).trans q) m2
/-- set(x): a new set, then its __init__ -/
theorem call_set1 {x : Value} {Q : Value → Shared → Prop} (h : ∀ led : Bool, wpAny (model prog w) A.in1.in1 (Builtin.«set.__init__» ⟨[.ref s.heap.objs.size, x], []⟩)
      (fun fin s' => match fin with | .done f => wants (fun r s₂ => r = .none ∧ Q (.ref s.heap.objs.size) s₂) E (.ok f) s' | .again c' => c'.quiet = true ∧ codeAny (model prog w) A.in1 c' (wants (fun r s₂ => r = .none ∧ Q (.ref s.heap.objs.size) s₂) E) s')
      (fun e s' => wants (fun r s₂ => r = .none ∧ Q (.ref s.heap.objs.size) s₂) E (.error e) s') { s with heap := s.heap.push { cls := .type "set", dict := none, data := .set #[] 0 (.fresh 0 0 led) } }) :
    wpAny (model prog w) A (call (.type "set") [x]) Q E s := by
  have ⟨c, tl, hmro⟩ := PySem.F.called_set.mro; have hmade := PySem.F.called_set.made; have hsub := PySem.F.called_set.sub
  refine wpAny_call (codeAny_of_tree (wpAny_pure ⟨Code.quiet_builtin _ (by decide +kernel), codeAny_builtin PySem.F.entry_type_call ?_⟩))
  rw [Around.under_plain (weight_type_call_type "set" [x] []) rfl]
  have h1 := PySem.F.called_set.notType; have h2 := PySem.F.called_set.canCreate; have hct := PySem.F.typeCall_set_1 x
  repeat (any_goals (first | assumption | wp_step))
  refine codeAny_mono (code_set_new_1 x (E := E) (Q₁ := fun obj s₁ => ∃ led : Bool, obj = .ref s.heap.objs.size ∧ s₁ = { s with heap := s.heap.push { cls := .type "set", dict := none, data := .set #[] 0 (.fresh 0 0 led) } }) fun led => ⟨led, rfl, rfl⟩) fun r s₁ hr => ?_
  match r, hr with
  | .error e, hr => exact hr
  | .ok .next, hr | .ok .brk, hr | .ok .cont, hr => exact hr.elim
  | .ok (.ret obj), ⟨led, e1, e2⟩ =>
    subst e1 e2
    have hT : Shared.TypeIs { s with heap := s.heap.push { cls := .type "set", dict := none, data := .set #[] 0 (.fresh 0 0 led) } } (.ref s.heap.objs.size) "set" := ⟨_, Heap.get?_push_size _ rfl, rfl⟩
    have hli := PySem.F.called_set.init.lookup; have hbi := PySem.F.called_set.init.bind (.ref s.heap.objs.size)
    repeat (any_goals (first | assumption | wp_step))
    refine codeAny_mono (codeAny_call_builtin PySem.F.called_set.init.plain PySem.F.entry_set_init (check_set_init_1 hT (h led))) fun r₂ s₂ hr₂ => ?_
    match r₂, hr₂ with
    | .error e, hr₂ => exact hr₂
    | .ok .next, hr₂ | .ok .brk, hr₂ | .ok .cont, hr₂ => exact hr₂.elim
    | .ok (.ret r), ⟨e1, hq⟩ =>
      subst e1
      repeat (any_goals (first | assumption | wp_step))
abbrev freshSet (led : Bool) : Obj := { cls := .type "set", dict := none, data := .set #[] 0 (.fresh 0 0 led) }
/-- the same of a list, of a tuple -/
theorem call_set_strs {l : Addr} {items : Array Value} {xs : List Str} {Q : Value → Shared → Prop} (hh : A.handled = none) (hl : s.heap.IsList l items ∨ s.heap.IsTuple l items) (hi : StrsAre items.toList xs) (hb : items.size + 1 < scanBound)
    (h : ∀ (h' : Heap) (tk : Nat), Holds prog w s.heap.objs.size xs items.size h' → (∀ b o, b < s.heap.objs.size → s.heap.get? b = some o → h'.get? b = some o) → Q (.ref s.heap.objs.size) { s with heap := h', toks := tk }) :
    wpAny (model prog w) A (call (.type "set") [.ref l]) Q E s := by
  have hsz : xs.length = items.size := by rw [← StrsAre.len_eq hi, Array.length_toList]
  have hval : ∀ (i : Nat) (v : Value), items[i]? = some v → ∃ t, v = .str (xs.getD i Str.empty) t := fun i v hv => SS.strs_at hi i v (by rw [Array.getElem?_toList]; exact hv)
  have h3 : A.in1.in1.in1.handled = none := by simp [hh]
  refine call_set1 fun led => ?_
  have gS : (s.heap.push (freshSet led)).get? s.heap.objs.size = some (freshSet led) := Heap.get?_push_size _ rfl
  -- once an iterator stands behind the set
  have fin : ∀ (cl : String) (vs : Array Value) (l0 : Addr) (P : Nat → Value → Prop) (St : Nat → Heap → Prop), (∀ i v, P i v → ∃ t, v = .str (xs.getD i Str.empty) t) →
      Walks prog w A.in1.in1.in1 (s.heap.objs.size + 1) [s.heap.objs.size + 1, l0] [s.heap.objs.size + 1] items.size P St → l0 < s.heap.objs.size → St 0 ((s.heap.push (freshSet led)).push { cls := .type cl, data := .fields vs }) →
      codeAny (model prog w) A.in1.in1 (.builtin "set.update.loop" ⟨[.ref s.heap.objs.size, .ref (s.heap.objs.size + 1)], []⟩) (fun r s' => r = .ok (.ret .none) ∧ ∃ h' tk, s' = { s with heap := h', toks := tk } ∧ Holds prog w s.heap.objs.size xs items.size h' ∧
        (∀ b o, b < s.heap.objs.size → s.heap.get? b = some o → h'.get? b = some o)) { s with heap := (s.heap.push (freshSet led)).push { cls := .type cl, data := .fields vs } } := by
    intro cl vs l0 P St hP W hl0 st
    refine fills W.toS (by simp only [List.mem_cons, List.not_mem_nil, or_false, not_or]; exact ⟨Nat.ne_of_lt (Nat.lt_succ_self _), Nat.ne_of_gt hl0⟩) hsz hb hP items.size 0 _ (by omega) st ?_ fun s' m q => ?_
    · exact SetOf_congr ((setObjOf_fresh (knd := PySem.strKind prog w) led).setOf (Heap.get?_push_of_some _ gS) (by unfold scanBound; omega)) (fun _ => rfl) rfl
    · obtain ⟨h', g', d', tk', os'⟩ := s'
      cases (show g' = s.gens from m.gens); cases (show d' = s.drawn from m.drawn); cases (show os' = s.os from m.os)
      refine ⟨rfl, h', tk', rfl, q, fun b o lt e => m.heap b o ?_ (Heap.get?_push_of_some _ (Heap.get?_push_of_some _ e))⟩
      simp only [List.mem_cons, List.not_mem_nil, or_false, not_or]; exact ⟨Nat.ne_of_lt lt, Nat.ne_of_lt (Nat.lt_succ_of_lt lt)⟩
  have push1 : (s.heap.push (freshSet led)).objs.size = s.heap.objs.size + 1 := Heap.size_push _ _
  have gI : ∀ (cl : String) (vs : Array Value), ((s.heap.push (freshSet led)).push { cls := .type cl, data := .fields vs }).get? (s.heap.objs.size + 1) = some { cls := .type cl, data := .fields vs } := fun cl vs => by
    have g := Heap.get?_push_size (s.heap.push (freshSet led)) (o := { cls := .type cl, data := .fields vs }) rfl
    rwa [push1] at g
  rcases hl with ⟨⟨ocls, odict, odata, oslots⟩, ho, hc, nl, hd⟩ | ⟨⟨ocls, odict, odata, oslots⟩, ho, hc, nl, hd⟩
  all_goals (simp only at hc hd; subst hc hd)
  · have ho' := Heap.get?_push_of_some (freshSet led) ho
    have hl1 : (s.heap.push (freshSet led)).IsList l items := ⟨_, ho', rfl, nl, rfl⟩
    have f1 := PySem.F.sub_list_set; have f2 := PySem.F.sub_list_frozenset; have f3 : (Value.type "list" == Value.type "dict") = false := by decide
    unfold Builtin.«set.__init__» noKeywords Builtin.Frozenset.updateFrom; generalize hPI : pyIter = PI; wp_walk; subst hPI
    refine wpAny_pyIter_list hl1 (wpAny_bind (wpAny_runValue ?_))
    rw [push1]
    have lt := Heap.lt_size ho
    refine codeAny_mono (fin _ _ l _ _ hval (Walks.list h3 _ l (Nat.ne_of_lt (Nat.lt_succ_of_lt lt)) items) lt ⟨⟨_, gI _ _, rfl, rfl⟩, hl1.push _⟩) fun r s' q => ?_
    obtain ⟨e1, h', tk, e2, q1, q2⟩ := q
    subst e1 e2
    exact wpAny_pure (wpAny_pure ⟨rfl, h h' tk q1 q2⟩)
  · have ho' := Heap.get?_push_of_some (freshSet led) ho
    have hl1 : (s.heap.push (freshSet led)).IsTuple l items := ⟨_, ho', rfl, nl, rfl⟩
    have f1 : isSubtype (.type "tuple") (.type "set") = pure false := by rw [isSubtype_type]; kernel_rfl
    have f2 : isSubtype (.type "tuple") (.type "frozenset") = pure false := by rw [isSubtype_type]; kernel_rfl
    have f3 : (Value.type "tuple" == Value.type "dict") = false := by decide
    unfold Builtin.«set.__init__» noKeywords Builtin.Frozenset.updateFrom; generalize hPI : pyIter = PI; wp_walk; subst hPI
    refine wpAny_pyIter_tuple hl1 (wpAny_bind (wpAny_runValue ?_))
    rw [push1]
    have lt := Heap.lt_size ho
    refine codeAny_mono (fin _ _ l _ _ hval (Walks.tuple h3 _ l (Nat.ne_of_lt (Nat.lt_succ_of_lt lt)) items) lt ⟨⟨_, gI _ _, rfl, rfl⟩, hl1.push _⟩) fun r s' q => ?_
    obtain ⟨e1, h', tk, e2, q1, q2⟩ := q
    subst e1 e2
    exact wpAny_pure (wpAny_pure ⟨rfl, h h' tk q1 q2⟩)
end
section
open L2
variable {X : Cx}
theorem strs_of_vals : ∀ {zs : List Str} {us : List Value}, Vals (zs.map V.str) us → StrsAre us zs
  | [], _, .nil => .nil
  | z :: zs, _, .cons r t => by obtain ⟨tk, rfl⟩ := r; exact .cons _ _ (strs_of_vals t)
def tLenSetS (K : PySem.W.Frag) (ta : TE) : TE := fun σ H Q => ta σ H fun x H1 => ∃ (l : Addr) (zs : List Str), x = V.ref l ∧ (SqL K H1 l (zs.map V.str) ∨ SqT K H1 l (zs.map V.str)) ∧ zs.length < 64 ∧ Q (.int (met zs).length) H1
theorem pe_lenSetS {a : Expr} {ta : TE} {p p2 q pos : Pos} (hc : X.calm = true) (hg : Gl X "len") (hm : X.mg "len" = none) (hg2 : Gl X "set") (hm2 : X.mg "set" = none) (ha : PE X a ta)
    (na : starEach [a] X.env = (false, eval a X.env) :: starEach [] X.env := by rfl) : PE X (.Call (.Name "len" p) [.Call (.Name "set" p2) [a] [] q] [] pos) (tLenSetS X.K ta) := by
  refine ⟨fun pins s σ H Q I h => Call_ (ld_blt I hg hm PySem.boot_len (callWith_builtin1 (args_cons (Call_ (ld_blt I hg2 hm2 boot_set ?_)) rfl) rfl rfl))⟩
  refine callWith_type1 (args_cons (thn (ha.run pins s σ H _ I h) fun v s1 ⟨x, H1, I1, r1, q1⟩ => args_nil ?_) na) na rfl
  obtain ⟨l, zs, rfl, hq, hn, q1⟩ := q1
  cases r1
  have go : ∀ its : List Value, Vals (zs.map V.str) its → (s1.heap.IsList l its.toArray ∨ s1.heap.IsTuple l its.toArray) → its.length = zs.length := fun its r _ => by rw [← r.length, List.length_map]
  obtain ⟨its, r, pl⟩ : ∃ its : List Value, Vals (zs.map V.str) its ∧ (s1.heap.IsList l its.toArray ∨ s1.heap.IsTuple l its.toArray) := by
    rcases hq with hq | hq
    · obtain ⟨its, r, pl, _⟩ := I1.list hq; exact ⟨its, r, .inl pl.isList⟩
    · obtain ⟨its, r, pl, _⟩ := I1.tuple hq; exact ⟨its, r, .inr pl⟩
  have hl : its.toArray.size = zs.length := by rw [List.size_toArray, ← r.length, List.length_map]
  refine call_set_strs (I1.ok.hd hc) pl (xs := zs) (by simpa using strs_of_vals r) (by unfold scanBound; omega) fun h' tk hS hk => args_nil ?_
  rw [hl] at hS
  unfold Holds at hS
  rw [List.take_length] at hS
  obtain ⟨o, es, ep, t, ho, hex, hd, _, _, _, hf, hn2⟩ := hS
  have I2 : Inv X pins σ H1 { s1 with heap := h', toks := tk } := I1.kept fun b o e => hk b o (Heap.lt_size e) e
  have := met_len zs
  exact call_len_set ho hex hd hf (by rw [hn2] <;> omega) ⟨.int (met zs).length, H1, I2.tok _, ⟨_, by rw [hn2]⟩, q1⟩
end
end UL
set_option Elab.async false
set_option linter.all false
set_option maxRecDepth 100000
set_option maxHeartbeats 2000000
/-! own __getitem__, __setitem__, __iter__ -/
namespace UL
open PySem PySem.Spec PyProof.Rows L2
section
variable {X : Cx} {CX : CXT} {k : Nat} {C f a dx : Addr} {fs : List (Str × V)} {fd : FuncData} {ps : List Str} {sp : Sp} {E : XK} {pins : List (Addr × Obj)} {σ : L2.St} {H : Hp} {s : Shared}
theorem inst_of (I : Inv X pins σ H s) (e : H a = some (.ins C dx fs)) : ∃ od, PySem.W.InstAt s.heap a (PySem.W.instObj C dx) C (some od) := by
  obtain ⟨mA, O, _⟩ := ins_get I.hok e
  obtain ⟨od, J, _⟩ := O.look
  exact ⟨od, J⟩
/-! ### o[i] by an own __getitem__ -/
def tSubO (C : Addr) (sp : Sp) (E : XK) (ta tb : TE) : TE := fun σ H Q => ta σ H fun x H1 => tb σ H1 fun y H2 => ∃ a dx fs, x = .ref a ∧ H2 a = some (.ins C dx fs) ∧ sp [.ref a, y] H2 Q E
/-! ### o[i] = v by an own __setitem__ -/
/-! ### iter(a tuple) -/
/-- something that nobody asks for any more -/
def Gone : HO := .ext fun _ => True
/-! ### list(o), where o's own __iter__ hands back an iterator over a tuple -/
theorem upd_self {H : Hp} {a : Addr} {o : HO} (h : H a = some o) : upd H a o = H := by
  funext b
  by_cases e : b = a
  · rw [e, upd_same, h]
  · rw [upd_ne e]
end
end UL
set_option Elab.async false
set_option linter.all false
set_option maxRecDepth 100000
set_option maxHeartbeats 2000000
/-! zip of two sequences of any two kinds; yield from a list -/
namespace UL
open PySem PySem.Spec PyProof.Rows L2
inductive Kd where | l | t
def Kd.Iter : Kd → Heap → Addr → Addr → Nat → Prop
  | .l, h, it, a, i => h.IsListIter it a i
  | .t, h, it, a, i => h.IsTupleIter it a i
def Kd.Is : Kd → Heap → Addr → Array Value → Prop
  | .l, h, a, xs => h.IsList a xs
  | .t, h, a, xs => h.IsTuple a xs
def Kd.Sq : Kd → PySem.W.Frag → Hp → Addr → List V → Prop
  | .l, K, H, a, xs => SqL K H a xs
  | .t, K, H, a, xs => SqT K H a xs
def Kd.obj : Kd → Addr → Obj
  | .l, a => { cls := .type "list_iterator", data := .fields #[.ref a, .int 0 0] }
  | .t, a => { cls := .type "tuple_iterator", data := .fields #[.ref a, .int 0 0] }
theorem Kd.begins (k : Kd) (a : Addr) (xs : Array Value) : Begins (.ref a) (k.obj a) fun h => k.Is h a xs := match k with
  | .l => begins_list a xs
  | .t => begins_tuple a xs
theorem Kd.start (k : Kd) {h : Heap} {it a : Addr} (e : h.get? it = some (k.obj a)) : k.Iter h it a 0 := match k, e with
  | .l, e => ⟨_, e, rfl, rfl⟩
  | .t, e => ⟨_, e, rfl, rfl⟩
theorem Kd.iterAt (k : Kd) {h h' : Heap} {it a : Addr} {i : Nat} (x : k.Iter h it a i) (f : ∀ o, h.get? it = some o → h'.get? it = some o) : k.Iter h' it a i := match k, x with
  | .l, x => Heap.IsListIter.at x f
  | .t, x => Heap.IsTupleIter.at x f
theorem Kd.iterObj (k : Kd) {h : Heap} {it a : Addr} {i : Nat} (x : k.Iter h it a i) : ∃ o, h.get? it = some o ∧ ∀ v, o.data ≠ .cell v := match k, x with
  | .l, ⟨o, e, _, d⟩ => ⟨o, e, fun v q => by rw [d] at q; cases q⟩
  | .t, ⟨o, e, _, d⟩ => ⟨o, e, fun v q => by rw [d] at q; cases q⟩
theorem Kd.draws (k : Kd) {prog : Program} {w : World} {A : Around} (hh : A.handled = none) (it a : Addr) (ne : a ≠ it) (xs : Array Value) : Draws prog w A it [it, a] xs.size (fun i v => xs[i]? = some v) (fun i h => k.Iter h it a i ∧ k.Is h a xs) := match k with
  | .l => Draws.list hh it a ne xs
  | .t => Draws.tuple hh it a ne xs
section
variable {X : Cx} {pins : List (Addr × Obj)} {σ : L2.St} {H : Hp} {s : Shared} {a : Addr} {xs ys : List V}
theorem Kd.read (k : Kd) (I : Inv X pins σ H s) (h : k.Sq X.K H a xs) : ∃ its : List Value, Vals xs its ∧ k.Is s.heap a its.toArray := match k, h with
  | .l, h => let ⟨its, r, p, _⟩ := I.list h; ⟨its, r, p.isList⟩
  | .t, h => let ⟨its, r, p, _⟩ := I.tuple h; ⟨its, r, p⟩
theorem Kd.inj (k : Kd) (I : Inv X pins σ H s) (h : k.Sq X.K H a xs) (h' : k.Sq X.K H a ys) : xs = ys := match k, h, h' with
  | .l, h, h' => I.list_inj h h'
  | .t, h, h' => I.tuple_inj h h'
theorem Kd.lt (k : Kd) {h : Heap} {xs : Array Value} (x : k.Is h a xs) : a < h.objs.size := match k, x with
  | .l, ⟨_, e, _⟩ => Heap.lt_size e
  | .t, ⟨_, e, _⟩ => Heap.lt_size e
end
/-- the items of the two at each turn, in new pairs -/
def ItzK (k1 k2 : Kd) (K : PySem.W.Frag) (a b : Addr) : It :=
  ⟨fun i H => ∃ (xs ys : List V) (x y : V), k1.Sq K H a xs ∧ k2.Sq K H b ys ∧ xs[i]? = some x ∧ ys[i]? = some y,
    fun i H v H' => ∃ T x y, v = .ref T ∧ H T = none ∧ H' = upd H T (.tup [x, y]) ∧ (∀ xs, k1.Sq K H a xs → xs[i]? = some x) ∧ ∀ ys, k2.Sq K H b ys → ys[i]? = some y,
    fun i H => ∃ xs ys : List V, k1.Sq K H a xs ∧ k2.Sq K H b ys ∧ i ≤ xs.length ∧ i ≤ ys.length ∧ (xs.length = i ∨ ys.length = i)⟩
theorem turn_zipK {P : Program} {w : World} {K : PySem.W.Frag} {elts : List Expr} {kk : Nat} {tpos : Pos} {k1 k2 : Kd} {a b z TI TO i1 i2 : Addr} (S : ZipSep2 z TI TO i1 i2 [i1, a] [i2, b]) (na : a ≠ i1) (nb : b ≠ i2) :
    Turn P w K (.Tuple elts kk tpos) (ItzK k1 k2 K a b) [z, TI, TO, i1, i2] z (fun i h => IsZip h z TI TO .none ∧ IsTupOf2 h TI (.ref i1) (.ref i2) ∧ (∃ x y, IsTupOf2 h TO x y) ∧ k1.Iter h i1 a i ∧ k2.Iter h i2 b i) where
  mem := by simp
  obj := fun i h st c hc => by
    obtain ⟨hz, hTI, ⟨x, y, hTO⟩, h1, h2⟩ := st
    simp only [List.mem_cons, List.not_mem_nil, or_false] at hc
    rcases hc with q | q | q | q | q <;> subst q
    · exact ⟨_, hz, fun v q => nomatch q⟩
    · exact ⟨_, hTI, fun v q => nomatch q⟩
    · exact ⟨_, hTO, fun v q => nomatch q⟩
    · exact k1.iterObj h1
    · exact k2.iterObj h2
  keep := fun i h h' st k => by
    obtain ⟨hz, hTI, ⟨x, y, hTO⟩, h1, h2⟩ := st
    exact ⟨k z (by simp) _ hz, k TI (by simp) _ hTI, ⟨x, y, k TO (by simp) _ hTO⟩, k1.iterAt h1 fun o q => k i1 (by simp) o q, k2.iterAt h2 fun o q => k i2 (by simp) o q⟩
  item := by
    intro X hP hw hK hc i pins s σ H E I hf st hg
    subst hP hw hK
    obtain ⟨hz, hTI, ⟨x0, y0, hTO⟩, h1, h2⟩ := st
    obtain ⟨xs, ys, x, y, hqx, hqy, hx, hy⟩ := hg
    obtain ⟨its, rv, p⟩ := k1.read I hqx
    obtain ⟨its2, rv2, p2⟩ := k2.read I hqy
    obtain ⟨u, hu, ru⟩ := rv.get hx
    obtain ⟨u2, hu2, ru2⟩ := rv2.get hy
    have hzl : z < s.heap.objs.size := Heap.lt_size hz
    have l1 : i < its.toArray.size := by rw [List.size_toArray]; exact (List.getElem?_eq_some_iff.mp hu).1
    have l2 : i < its2.toArray.size := by rw [List.size_toArray]; exact (List.getElem?_eq_some_iff.mp hu2).1
    have hh : X.A.in1.handled = none := I.ok.hd hc
    refine wpAny_pyNext_zipD2_item S (k1.draws hh i1 a na its.toArray) (k2.draws hh i2 b nb its2.toArray) hz hTI hTO ⟨h1, p⟩ ⟨h2, p2⟩ l1 l2 fun x1 x2 h' tk q1 q2 z' TO' st1 st2 hT hsz hk => ?_
    have e1 : x1 = u := by rw [List.getElem?_toArray, hu] at q1; exact (Option.some.inj q1).symm
    have e2 : x2 = u2 := by rw [List.getElem?_toArray, hu2] at q2; exact (Option.some.inj q2).symm
    subst e1 e2
    refine ⟨_, rfl, wpAny_letOwnedTupleGo_zip (s := { s with heap := h', toks := tk }) z' fun h'' z'' sb => ?_⟩
    have hT2 := (sb.2 _ (Nat.ne_of_gt hzl)).trans hT
    have all : ∀ c o, c ∉ [z, TI, TO, i1, i2] → s.heap.get? c = some o → h''.get? c = some o := fun c o hb q => by
      simp only [List.mem_cons, List.not_mem_nil, or_false, not_or] at hb
      exact (sb.2 c hb.1).trans (hk c o hb.1 hb.2.2.1 hb.2.2.2.1 hb.2.2.2.2 q)
    have I1 := I.turnedNew (ob := .tup [x, y]) (h' := h'') (t' := tk) all hf (Nat.le_refl _) ⟨by show 2 ≤ sizeLine; decide, [x1, x2], .cons ru (.cons ru2 .nil), ⟨_, hT2, rfl, _, rfl⟩⟩
    refine ⟨.ref s.heap.objs.size, _, I1, rfl, ⟨_, x, y, rfl, I.hok.fresh (Nat.le_refl _), rfl, fun l hl => by rw [k1.inj I hl hqx]; exact hx, fun l hl => by rw [k2.inj I hl hqy]; exact hy⟩, ⟨z'', ?_, ⟨x1, x2, ?_⟩, ?_, ?_⟩, fun c hcm => ?_⟩
    · exact (sb.2 _ S.TIz).trans (hk _ _ S.TIz S.TITO S.TIi1 S.TIi2 hTI)
    · exact (sb.2 _ S.TOz).trans TO'
    · exact k1.iterAt st1.1 fun o q => (sb.2 _ S.zi1.symm).trans q
    · exact k2.iterAt st2.1 fun o q => (sb.2 _ S.zi2.symm).trans q
    · rw [upd_ne (fun e => ?_)]
      · exact (hf c hcm).1
      · subst e
        simp only [List.mem_cons, List.not_mem_nil, or_false] at hcm
        obtain ⟨_, e1, _⟩ := k1.iterObj h1; obtain ⟨_, e2, _⟩ := k2.iterObj h2
        have g1 := Heap.lt_size e1; have g2 := Heap.lt_size e2; have g3 := Heap.lt_size hTI; have g4 := Heap.lt_size hTO
        rcases hcm with q | q | q | q | q
        · exact absurd q (Nat.ne_of_gt hzl)
        · exact absurd q (Nat.ne_of_gt g3)
        · exact absurd q (Nat.ne_of_gt g4)
        · exact absurd q (Nat.ne_of_gt g1)
        · exact absurd q (Nat.ne_of_gt g2)
  done := by
    intro X hP hw hK hc i pins s σ H E I hf st hg
    subst hP hw hK
    obtain ⟨hz, hTI, ⟨x0, y0, hTO⟩, h1, h2⟩ := st
    obtain ⟨xs, ys, hqx, hqy, le1, le2, hend⟩ := hg
    obtain ⟨its, rv, p⟩ := k1.read I hqx
    obtain ⟨its2, rv2, p2⟩ := k2.read I hqy
    have l1 : xs.length = its.toArray.size := by rw [List.size_toArray]; exact rv.length
    have l2 : ys.length = its2.toArray.size := by rw [List.size_toArray]; exact rv2.length
    have hh : X.A.in1.handled = none := I.ok.hd hc
    refine wpAny_pyNext_zipD2_end S (k1.draws hh i1 a na its.toArray) (k2.draws hh i2 b nb its2.toArray) hz hTI hTO ⟨h1, p⟩ ⟨h2, p2⟩ (by omega) (by omega) (by omega) fun h' tk hk => ⟨rfl, I.turnedL (t' := tk) (ch := [z, TI, TO, i1, i2]) (fun c o hb q => ?_) hf⟩
    simp only [List.mem_cons, List.not_mem_nil, or_false, not_or] at hb
    exact hk c o hb.1 hb.2.2.1 hb.2.2.2.1 hb.2.2.2.2 q
  self := fun A i s Q E st h => wpAny_pyIter_zip st.1 h
theorem zip_it {X : Cx} {pins : List (Addr × Obj)} {σ : L2.St} {H : Hp} {s : Shared} {R : It → Hp → Prop} {elts : List Expr} {kk : Nat} {tpos : Pos} (k1 k2 : Kd) {a b : Addr} {xs ys : List V} (I : Inv X pins σ H s) (hx : k1.Sq X.K H a xs) (hy : k2.Sq X.K H b ys) (q : R (ItzK k1 k2 X.K a b) H) :
    wpAny (model X.prog X.w) X.A (call (.type "zip") [.ref a, .ref b]) (fun v s1 => wpAny (model X.prog X.w) X.A (pyIter v) (PIE X pins σ (.Tuple elts kk tpos) R) X.xe s1) X.xe s := by
  obtain ⟨its, rv, p⟩ := k1.read I hx
  obtain ⟨its2, rv2, p2⟩ := k2.read I hy
  have la := k1.lt p; have lb := k2.lt p2
  refine zip_begins2 (k1.begins a its.toArray) (k2.begins b its2.toArray) p p2 fun h' hz hTI hTO g1 g2 hsz hk => wpAny_pyIter_zip hz ?_
  have ns : ∀ j c : Nat, c < s.heap.objs.size → c ≠ s.heap.objs.size + j := fun j c h => by omega
  have S : ZipSep2 (s.heap.objs.size + 4) (s.heap.objs.size + 2) (s.heap.objs.size + 3) s.heap.objs.size (s.heap.objs.size + 1) [s.heap.objs.size, a] [s.heap.objs.size + 1, b] := by
    have a0 := ns 0 a la; have a1 := ns 1 a la; have a3 := ns 3 a la; have a4 := ns 4 a la
    have b0 := ns 0 b lb; have b3 := ns 3 b lb; have b4 := ns 4 b lb
    generalize s.heap.objs.size = n at *
    refine ⟨?_, ?_, ?_, ?_, ?_, ?_, ?_, ?_, ?_, ?_, ?_, ?_, ?_⟩ <;> (try simp only [List.mem_cons, List.not_mem_nil, or_false, not_or, true_or]) <;> (try trivial) <;> (first | (show ¬ (_ : Nat) = _; omega) | (refine ⟨?_, ?_⟩ <;> (show ¬ (_ : Nat) = _; omega)) | trivial)
  refine ⟨s.heap.objs.size + 4, [s.heap.objs.size + 4, s.heap.objs.size + 2, s.heap.objs.size + 3, s.heap.objs.size, s.heap.objs.size + 1], _, _, H, rfl, I.kept (t' := s.toks) hk, turn_zipK S (by have := ns 0 a la; simpa using this) (ns 1 b lb), ⟨hz, hTI, ⟨_, _, hTO⟩, k1.start g1, k2.start g2⟩, fun c hc => ?_, q⟩
  have hle : s.heap.objs.size ≤ c := by
    simp only [List.mem_cons, List.not_mem_nil, or_false] at hc
    rcases hc with z | z | z | z | z <;> subst z <;> first | exact Nat.le_add_right _ _ | exact Nat.le_refl _
  exact I.fpOk hle (I.hok.fresh hle)
/-- the same where either kind may come -/
def iZipB (K : PySem.W.Frag) (ta : TA) : TI := fun σ H R => ta σ H fun vs H1 => ∃ a b xs ys k1 k2, vs = [.ref a, .ref b] ∧ Kd.Sq k1 K H1 a xs ∧ Kd.Sq k2 K H1 b ys ∧ R (ItzK k1 k2 K a b) H1
theorem pi_zipB {X : Cx} {e e2 : Expr} {ta : TA} {p pos tpos : Pos} {elts : List Expr} {kk : Nat} (hg : Gl X "zip") (hm : X.mg "zip" = none) (ha : PA X [e, e2] ta)
    (hs : starEach [e, e2] X.env = (false, eval e X.env) :: starEach [e2] X.env := by rfl) (hpl : (backTo pos (starEach [e2] X.env)).any (·.1) = false := by rfl) :
    PI X (.Tuple elts kk tpos) (.Call (.Name "zip" p) [e, e2] [] pos) (iZipB X.K ta) := by
  refine ⟨fun pins s σ H R I h => Call_ (ld_blt I hg hm boot_zip (callWith_type1 (thn (ha.run pos pins s σ H _ I h) fun us s1 ⟨vs, H1, I1, r1, q1⟩ => ?_) hs hpl))⟩
  obtain ⟨a, b, xs, ys, k1, k2, e, hx, hy, q⟩ := q1
  subst e
  obtain ⟨u, w', rfl, ru, rw'⟩ := vals2 r1
  cases ru; cases rw'
  exact zip_it k1 k2 I1 hx hy q
/-- a loop over two sequences of one length that stay as they are -/
theorem for_zipK {K : PySem.W.Frag} {k1 k2 : Kd} {a b : Addr} {xs ys : List V} {g : TG} {tb : TS} {D : Ends} {σ : L2.St} {H : Hp} (hl : xs.length = ys.length) (Pv : Nat → L2.St → Hp → Prop) (h0 : Pv 0 σ H) (hq : ∀ i σ H, Pv i σ H → k1.Sq K H a xs ∧ k2.Sq K H b ys)
    (hs : ∀ (i : Nat) (x y : V) (T : Addr) (σ : L2.St) (H : Hp), xs[i]? = some x → ys[i]? = some y → Pv i σ H → H T = none → g (.ref T) σ (upd H T (.tup [x, y])) fun σ2 H2 => tb { D with nx := Pv (i + 1), ct := Pv (i + 1), bk := D.nx } σ2 H2) (hd : ∀ σ H, Pv xs.length σ H → D.nx σ H) :
    ∃ W : Nat → Nat → L2.St → Hp → Prop, (∃ m, W 0 m σ H) ∧ ∀ i m σ H, W i m σ H →
      ((ItzK k1 k2 K a b).stop i H ∧ D.nx σ H) ∨ ((ItzK k1 k2 K a b).go i H ∧ ∃ N : L2.St → Hp → Prop, (∀ σ' H', N σ' H' → ∃ m', m' < m ∧ W (i + 1) m' σ' H') ∧ ∀ x H', (ItzK k1 k2 K a b).yld i H x H' → g x σ H' fun σ2 H2 => tb { D with nx := N, ct := N, bk := D.nx } σ2 H2) := by
  refine ⟨fun i m σ H => m = xs.length - i ∧ i ≤ xs.length ∧ Pv i σ H, ⟨xs.length, by simp, Nat.zero_le _, h0⟩, ?_⟩
  rintro i m σ H ⟨rfl, hi, p⟩
  obtain ⟨q1, q2⟩ := hq i σ H p
  by_cases lt : i < xs.length
  · have lt2 : i < ys.length := by omega
    refine .inr ⟨⟨xs, ys, xs[i], ys[i], q1, q2, by simp [lt], by simp [lt2]⟩, Pv (i + 1), fun σ' H' p' => ⟨xs.length - (i + 1), by omega, rfl, lt, p'⟩, fun x H' y => ?_⟩
    obtain ⟨T, x1, y1, e, hT, e2, z1, z2⟩ := y
    subst e e2
    exact hs i x1 y1 T σ H (z1 xs q1) (z2 ys q2) p hT
  · have e : i = xs.length := by omega
    subst e
    exact .inl ⟨⟨xs, ys, q1, q2, Nat.le_refl _, by omega, .inl rfl⟩, hd σ H p⟩
end UL
set_option Elab.async false
set_option linter.all false
set_option maxRecDepth 100000
set_option maxHeartbeats 2000000
/-! yield from a list -/
namespace UL
open PySem PySem.Spec PyProof.Rows L2
def tYfLst (te : TE) : TYf := fun σ H Q => te σ H fun x H1 => ∃ a xs, x = .ref a ∧ H1 a = some (.lst xs) ∧ Q xs H1
end UL
set_option Elab.async false
set_option linter.all false
set_option maxRecDepth 100000
set_option maxHeartbeats 2000000
/-! bundles: a def, a method as they stand; rules for what may be of several kinds -/
namespace UL
open PySem PySem.Spec PyProof.Rows L2
/-! ### operators on values of several kinds -/
section
variable {X : Cx}
abbrev rAddS' : R2 := fun x y H Q => ∃ i j, x = .str i ∧ y = .str j ∧ i.length + j.length ≤ sizeLine ∧ Q (.str (i ++ j)) H
def rAddA (K : PySem.W.Frag) : R2 := fun x y H Q => rI0 (fun i j => .int (i + j)) x y H Q ∨ rAddS' x y H Q ∨ rCatA K x y H Q ∨ rCat x y H Q
theorem op_addA : OpR X (binaryOp .Add) (rAddA X.K) := OpR.or op_add (OpR.or op_add_str (OpR.or op_catA op_cat))
def rMulA (K : PySem.W.Frag) : R2 := fun x y H Q => rI CMul (fun i j => .int (i * j)) x y H Q ∨ rMulS x y H Q ∨ rRepU K x y H Q
theorem op_mulA : OpR X (binaryOp .Mult) (rMulA X.K) := OpR.or op_mul (OpR.or op_mulS op_repU)
def rEqA (K : PySem.W.Frag) : R2 := fun x y H Q => rEq x y H Q ∨ rEqD K x y H Q
def rNeA (K : PySem.W.Frag) : R2 := fun x y H Q => rNe x y H Q ∨ rNeD K x y H Q
theorem op_eqA (hu : X.A.units + 64 < cLine) : OpR X (compareOp .Eq) (rEqA X.K) := OpR.or op_eq (op_eqD hu)
theorem op_neA (hu : X.A.units + 64 < cLine) : OpR X (compareOp .NotEq) (rNeA X.K) := OpR.or op_ne (op_neD hu)
abbrev rInC : R2 := fun x y H Q => ∃ (c : Nat) (z : Str), x = .str ⟨#[c]⟩ ∧ y = .str z ∧ Q (.bl (decide (c ∈ z.cps.toList))) H
abbrev rNInC : R2 := fun x y H Q => ∃ (c : Nat) (z : Str), x = .str ⟨#[c]⟩ ∧ y = .str z ∧ Q (.bl (!decide (c ∈ z.cps.toList))) H
def rInA (K : PySem.W.Frag) : R2 := fun x y H Q => rInC x y H Q ∨ rIn K false x y H Q
def rNInA (K : PySem.W.Frag) : R2 := fun x y H Q => rNInC x y H Q ∨ rIn K true x y H Q
theorem op_inA : OpR X (compareOp .In) (rInA X.K) := OpR.or op_in_sign op_in_seq
theorem op_ninA : OpR X (compareOp .NotIn) (rNInA X.K) := OpR.or op_notIn_sign op_notIn_seq
def rIsNone : R2 := fun x y H Q => y = .non ∧ Q (.bl (decide (x = .non))) H
def rNotNone : R2 := fun x y H Q => y = .non ∧ Q (.bl (!decide (x = .non))) H
theorem op_isNone : OpR X (compareOp .Is) rIsNone := op_isN
theorem op_notNone : OpR X (compareOp .IsNot) rNotNone := op_notN
def rMod : R2 := rI (fun _ j => 0 < j) fun i j => .int (i % j)
def rDivW : R2 := rI CDivW fun i j => .int (i / j)
def rSub_ : R2 := rI0 fun i j => .int (i - j)
def rLt : R2 := rI0 fun i j => .bl (decide (i < j))
def rLe : R2 := rI0 fun i j => .bl (decide (i ≤ j))
def rGt_ : R2 := rI0 fun i j => .bl (decide (j < i))
def rGe_ : R2 := rI0 fun i j => .bl (decide (j ≤ i))
def rPow : R2 := rI CPow fun i j => .int (i ^ j.toNat)
theorem op_modA : OpR X (binaryOp .Mod) rMod := op_mod
theorem op_divA : OpR X (binaryOp .FloorDiv) rDivW := op_fdivW
theorem op_subA : OpR X (binaryOp .Sub) rSub_ := op_sub
theorem op_powA : OpR X (binaryOp .Pow) rPow := op_pow
theorem op_ltA : OpR X (compareOp .Lt) rLt := op_lt
theorem op_leA : OpR X (compareOp .LtE) rLe := op_le
theorem op_gtA : OpR X (compareOp .Gt) rGt_ := op_gt
def rNeg : V → Hp → VK → Prop := rU fun i => .int (-i)
/-! ### built-in calls -/
def cLen (K : PySem.W.Frag) : List V → Hp → VK → Prop := fun xs H Q => ∃ x n, xs = [x] ∧ LenV K x H n ∧ Q (.int n) H
theorem call_lenA : CallR X (.builtin "len") (cLen X.K) := call_len
def cAbs : List V → Hp → VK → Prop := fun xs H Q => ∃ i, xs = [.int i] ∧ Q (.int (if i < 0 then -i else i)) H
theorem call_absA : CallR X (.builtin "abs") cAbs := call_abs
def cInt : List V → Hp → VK → Prop := fun xs H Q => ∃ i, xs = [.int i] ∧ Q (.int i) H
theorem call_intA : CallR X (.type "int") cInt := fun pins s σ H xs us Q I r h => call_int1 pins s σ H xs us Q I r (.inl h)
def cList (K : PySem.W.Frag) : List V → Hp → VK → Prop := fun xs H Q => ∃ p ys, xs = [.ref p] ∧ (SqL K H p ys ∨ SqT K H p ys) ∧ ∀ l, H l = none → Q (.ref l) (upd H l (.lst ys))
theorem call_listA : CallR X (.type "list") (cList X.K) := call_list_of
def cTup (K : PySem.W.Frag) : List V → Hp → VK → Prop := fun xs H Q => ∃ p ys, xs = [.ref p] ∧ ((SqL K H p ys ∧ ∀ l, H l = none → Q (.ref l) (upd H l (.tup ys))) ∨ (SqT K H p ys ∧ Q (.ref p) H))
theorem call_tupA : CallR X (.type "tuple") (cTup X.K) := call_tuple_of
end
/-! ### a def of the top, a method, as they stand -/
structure TD (K : PySem.W.Frag) (mg : Str → Option Value) (x : Str) (st : Stmt) : Prop where
  ex : ∃ f fd, Fun K x x st f fd ∧ mg x = some (.ref f)
/-- .. and what it promises -/
structure Dn (P : Program) (w : World) (K : PySem.W.Frag) (mg : Str → Option Value) (base : Heap) (CX : CXT) (k : Nat) (x : Str) (sp : Sp) : Prop where
  ex : ∃ (f : Addr) (fd : FuncData) (ps : List Str), FnOk P w K mg base CX k f fd ps sp ∧ mg x = some (.ref f) ∧ PySem.W.keepIn K (.ref f) = true ∧ Binds K fd ps []
structure MD (K : PySem.W.Frag) (C : Addr) (m qual : Str) (st : Stmt) : Prop where
  ex : ∃ f fd, Fun K m qual st f fd ∧ Meth K C m f
structure Mn (P : Program) (w : World) (K : PySem.W.Frag) (mg : Str → Option Value) (base : Heap) (CX : CXT) (k : Nat) (C : Addr) (m : Str) (sp : Sp) : Prop where
  ex : ∃ (f : Addr) (fd : FuncData) (ps : List Str), FnOk P w K mg base CX k f fd ps sp ∧ Meth K C m f ∧ Binds K fd ps []
section
variable {P : Program} {w : World} {K : PySem.W.Frag} {mg : Str → Option Value} {base : Heap} {C : Addr} {x m qual : Str} {st : Stmt} {N ps : List Str} {k : Nat} {sp : Sp}
abbrev BindOk (x qual : Str) (st : Stmt) (ps : List Str) : Prop := ∀ (kV doc pm : Value) (an : Option Addr) (cdv ct : Value) (us : List Value), us.length = ps.length → bindArgs (PySem.W.fnOf x qual (defArgs st) (defBody st) (defScope st) .none kV doc pm an cdv ct) ⟨us, []⟩ = pure (ps.zip us)
abbrev Body0 (P : Program) (w : World) (K : PySem.W.Frag) (mg : Str → Option Value) (base : Heap) (qual : Str) (st : Stmt) (N : List Str) (k : Nat) (sp : Sp) : Prop :=
  ∀ (f : Addr) (cdv : Value) (A : Around) (outer : List Env) (s : Shared) (H : Hp) (vs : List V) (Q : VK) (E : XK), Room k (A.deeper (envOfC qual (defScope st) s.heap.objs.size f cdv)) → sp vs H Q E →
      ∃ t, PSs (cxOf CX0 P w K mg base N qual (defScope st) f cdv A outer s H E).nox (defBody st) t ∧ t { nx := fun _ H' => Q .non H', rt := Q } (L2.start N vs) H
abbrev BodyX (P : Program) (w : World) (K : PySem.W.Frag) (mg : Str → Option Value) (base : Heap) (qual : Str) (st : Stmt) (N : List Str) (k : Nat) (sp : Sp) : Prop :=
  ∀ (f : Addr) (cdv : Value) (A : Around) (outer : List Env) (s : Shared) (H : Hp) (vs : List V) (Q : VK) (E : XK), Room k (A.deeper (envOfC qual (defScope st) s.heap.objs.size f cdv)) → sp vs H Q E →
      ∃ t, PSs (cxOf (L2.CX P w) P w K mg base N qual (defScope st) f cdv A outer s H E) (defBody st) t ∧ t { nx := fun _ H' => Q .non H', rt := Q } (L2.start N vs) H
theorem TD.dn (D : TD K mg x st) (S : FnScope N ps (defScope st)) (b : BindOk x x st ps) (len : ∀ vs H Q E, sp vs H Q E → vs.length = ps.length) (body : Body0 P w K mg base x st N k sp) : Dn P w K mg base CX0 (k + 1) x sp :=
  let ⟨f, fd, F, hm⟩ := D.ex
  ⟨f, fd, ps, F.ok S len (body f), hm, F.kp, F.binds b⟩
theorem TD.dx (D : TD K mg x st) (S : FnScope N ps (defScope st)) (b : BindOk x x st ps) (len : ∀ vs H Q E, sp vs H Q E → vs.length = ps.length) (body : BodyX P w K mg base x st N k sp) : Dn P w K mg base (L2.CX P w) (k + 1) x sp :=
  let ⟨f, fd, F, hm⟩ := D.ex
  ⟨f, fd, ps, F.okX S len (body f), hm, F.kp, F.binds b⟩
theorem MD.mn (D : MD K C m qual st) (S : FnScope N ps (defScope st)) (b : BindOk m qual st ps) (len : ∀ vs H Q E, sp vs H Q E → vs.length = ps.length) (body : Body0 P w K mg base qual st N k sp) : Mn P w K mg base CX0 (k + 1) C m sp :=
  let ⟨f, fd, F, hm⟩ := D.ex
  ⟨f, fd, ps, F.ok S len (body f), hm, F.binds b⟩
theorem MD.mx (D : MD K C m qual st) (S : FnScope N ps (defScope st)) (b : BindOk m qual st ps) (len : ∀ vs H Q E, sp vs H Q E → vs.length = ps.length) (body : BodyX P w K mg base qual st N k sp) : Mn P w K mg base (L2.CX P w) (k + 1) C m sp :=
  let ⟨f, fd, F, hm⟩ := D.ex
  ⟨f, fd, ps, F.okX S len (body f), hm, F.binds b⟩
end
section
variable {X : Cx} {CX : CXT} {k j : Nat} {C : Addr} {sp : Sp} {E : XK} {x m : Str} {p pos apos : Pos} {e o : Expr} {es : List Expr} {ta : TE} {t : TA}
/-- f(e, ..) -/
theorem pe_d (d : Dn X.prog X.w X.K X.mg X.base CX k x sp) (hr : Room j X.A) (hk : k ≤ j) (hx : Passes CX X E) (hg : Gl X x) (ha : PA X (e :: es) t) (hdb : (x == ("__debug__" : Str)) = false := by decide)
    (he : starEach (e :: es) X.env = (false, eval e X.env) :: starEach es X.env := by rfl) (hpl : (backTo pos (starEach es X.env)).any (·.1) = false := by rfl) : PE X (.Call (.Name x p) (e :: es) [] pos) (tCall sp [] E t) := by
  obtain ⟨f, fd, ps, F, hm, hkp, hb⟩ := d.ex
  exact pe_call F (hr.mono hk) hg hm hkp hb .nil hx ha hdb he hpl
/-- o.m(e, ..), o.m() -/
theorem pe_m {pl : Sem Bool} (d : Mn X.prog X.w X.K X.mg X.base CX k C m sp) (c : Cls X.K C) (hr : Room j X.A) (hk : k ≤ j) (hx : Passes CX X E) (he : PE X o ta) (ha : PA X (e :: es) t)
    (hst : starEach (e :: es) X.env = (false, eval e X.env) :: starEach es X.env := by rfl) (hpl : (backTo pos (starEach es X.env)).any (·.1) = false := by rfl)
    (ht : eval (.Call (.Attribute o m apos) (e :: es) [] pos) X.env = (do
      let ov ← eval o X.env
      standAt apos.atName
      let (f, first) ← holding [ov] (getMethod ov m pl)
      callWith pos f first (backTo pos (starEach (e :: es) X.env)) (backToKw pos (keywordEach [] X.env))) := by rfl) : PE X (.Call (.Attribute o m apos) (e :: es) [] pos) (tMeth C m sp [] E ta t) := by
  obtain ⟨f, fd, ps, F, hm, hb⟩ := d.ex
  exact pe_meth he c hm F (hr.mono hk) hb .nil hx ha hst hpl ht
theorem pe_m' {pl : Sem Bool} (d : Mn X.prog X.w X.K X.mg X.base CX k C m sp) (c : Cls X.K C) (hr : Room j X.A) (hk : k ≤ j) (hx : Passes CX X E) (he : PE X o ta)
    (ht : eval (.Call (.Attribute o m apos) [] [] pos) X.env = (do
      let ov ← eval o X.env
      standAt apos.atName
      let (f, first) ← holding [ov] (getMethod ov m pl)
      callWith pos f first (backTo pos (starEach [] X.env)) (backToKw pos (keywordEach [] X.env))) := by rfl) : PE X (.Call (.Attribute o m apos) [] [] pos) (tMeth C m sp [] E ta tNil) := by
  obtain ⟨f, fd, ps, F, hm, hb⟩ := d.ex
  exact pe_meth0 he c hm F (hr.mono hk) hb .nil hx ht
/-- C(e, ..) -/
structure Kn (P : Program) (w : World) (K : PySem.W.Frag) (mg : Str → Option Value) (base : Heap) (CX : CXT) (k : Nat) (C : Addr) (x : Str) (sp : Sp) : Prop where
  ex : ∃ (f : Addr) (fd : FuncData) (ps : List Str), FnOk P w K mg base CX k f fd ps sp ∧ Mk K C f ∧ Binds K fd ps [] ∧ mg x = some (.ref C)
theorem pe_k (d : Kn X.prog X.w X.K X.mg X.base CX k C x sp) (hr : Room j X.A) (hk : k + 1 ≤ j) (hx : Passes CX X E) (hg : Gl X x) (ha : PA X (e :: es) t) (hdb : (x == ("__debug__" : Str)) = false := by decide)
    (he : starEach (e :: es) X.env = (false, eval e X.env) :: starEach es X.env := by rfl) (hpl : (backTo pos (starEach es X.env)).any (·.1) = false := by rfl) : PE X (.Call (.Name x p) (e :: es) [] pos) (tMake C sp [] E t) := by
  obtain ⟨f, fd, ps, F, M, hb, hm⟩ := d.ex
  exact pe_make M F (hr.mono hk) hg hm hb .nil hx ha hdb he hpl
end
/-! ### what of the heap is kept -/
/-- all but p is as it was -/
def But (p : Addr) (H H' : Hp) : Prop := ∀ b o, H b = some o → b ≠ p → H' b = some o
theorem Same.but {p : Addr} {H H' : Hp} (s : Same H H') : But p H H' := fun b o e _ => s b o e
theorem But.trans {p : Addr} {H H1 H2 : Hp} (a : But p H H1) (b : But p H1 H2) : But p H H2 := fun c o e n => b c o (a c o e n) n
theorem Same.new {H : Hp} {p : Addr} {o : HO} (h : H p = none) : Same H (upd H p o) := fun b u e => by rw [upd_ne (ne_of_none e h)]; exact e
theorem But.at_ {p : Addr} {H : Hp} {o : HO} : But p H (upd H p o) := fun b u e n => by rw [upd_ne n]; exact e
/-- changed at a place that H does not know -/
theorem Same.put {H H' : Hp} {p : Addr} {o : HO} (s : Same H H') (h : H p = none) : Same H (upd H' p o) := fun b u e => by rw [upd_ne (ne_of_none e h)]; exact s b u e
theorem But.put {q : Addr} {H H' : Hp} {p : Addr} {o : HO} (s : But q H H') (h : H p = none) : But q H (upd H' p o) := fun b u e n => by rw [upd_ne (ne_of_none e h)]; exact s b u e n
theorem Same.sqT {K : PySem.W.Frag} {a : Addr} {H H' : Hp} {xs : List V} (s : Same H H') (h : SqT K H a xs) : SqT K H' a xs := by
  rcases h with (h | ⟨o, h⟩) | h
  · exact .inl (.inl (s _ _ h))
  · exact .inl (.inr ⟨o, s _ _ h⟩)
  · exact .inr h
theorem Same.sqL {K : PySem.W.Frag} {a : Addr} {H H' : Hp} {xs : List V} (s : Same H H') (h : SqL K H a xs) : SqL K H' a xs := Same.seq s h
/-- the pool of drawn ints -/
def Pl (H : Hp) (p : Addr) : Prop := ∃ ns : List Int, H p = some (.lst (ns.map V.int))
theorem Pl.same {H H' : Hp} {p : Addr} (x : Pl H p) (s : Same H H') : Pl H' p := let ⟨ns, e⟩ := x; ⟨ns, s _ _ e⟩
theorem Pl.put {H : Hp} {p q : Addr} {o : HO} (x : Pl H p) (n : p ≠ q) : Pl (upd H q o) p := let ⟨ns, e⟩ := x; ⟨ns, by rw [upd_ne n]; exact e⟩
theorem Pl.ne {H : Hp} {p q : Addr} (x : Pl H p) (h : H q = none) : p ≠ q := let ⟨_, e⟩ := x; ne_of_none e h
theorem But.free {H H' : Hp} {p q : Addr} (s : But p H H') (x : Pl H' p) (h : H' q = none) : H q = none := by
  cases e : H q with
  | none => rfl
  | some o => rw [s q o e (Ne.symm (x.ne h))] at h; cases h
end UL
set_option Elab.async false
set_option linter.all false
set_option maxRecDepth 100000
set_option maxHeartbeats 2000000
/-! readings of the unions at values of known kind -/
namespace UL
open PySem PySem.Spec PyProof.Rows L2
section
variable {X : Cx} {K : PySem.W.Frag} {H : Hp} {Q : VK} {i j : Int} {x y : Str} {a b : Addr}
theorem op_inK (K : PySem.W.Frag) (h : X.K = K) : OpR X (compareOp .In) (rInA K) := h ▸ op_inA
theorem pa_starK (K : PySem.W.Frag) (hK : X.K = K) {e : Expr} {es : List Expr} {p : Pos} {te : TE} {t : TA} (he : PE X e te) (hr : PA X es t) (hs : starEach (.Starred e p :: es) X.env = (true, eval e X.env) :: starEach es X.env := by rfl) : PA X (.Starred e p :: es) (StX.tStar K te t) := hK ▸ StX.pa_star he hr hs
theorem cxK {CX : CXT} {P : Program} {w : World} {mg : Str → Option Value} {base : Heap} {N : List Str} {qual : Str} {scope : Scope} {f : Addr} {cd : Value} {A : Around} {outer : List Env} {s : Shared} {H : Hp} {E : XK} : (cxOf CX P w K mg base N qual scope f cd A outer s H E).K = K := rfl
theorem noxK : (X.nox).K = X.K := rfl
theorem addII : rAddA K (.int i) (.int j) H Q ↔ Q (.int (i + j)) H := by
  simp [rAddA, rI0, rCatA, rCat]
theorem addSS : rAddA K (.str x) (.str y) H Q ↔ (x.length + y.length ≤ sizeLine ∧ Q (.str (x ++ y)) H) := by
  simp [rAddA, rAddS', rI0, rCatA, rCat]
theorem mulII : rMulA K (.int i) (.int j) H Q ↔ (CMul i j ∧ Q (.int (i * j)) H) := by
  simp [rMulA, rI, rMulS, rRepU]
theorem cIntI : cInt [.int i] H Q ↔ Q (.int i) H := by simp [cInt]
theorem cAbsI : cAbs [.int i] H Q ↔ Q (.int (if i < 0 then -i else i)) H := by simp [cAbs]
theorem dpI {d : PyData} : Dp K H (.int i) d ↔ d = .int i := ⟨fun h => by cases h; rfl, fun h => h ▸ .int i⟩
theorem dpS {d : PyData} : Dp K H (.str x) d ↔ d = .str x := ⟨fun h => by cases h; rfl, fun h => h ▸ .str x⟩
theorem eqII : rEqA K (.int i) (.int j) H Q ↔ Q (.bl (decide (i = j))) H := by
  have e : (i == j) = decide (i = j) := rfl
  constructor
  · rintro (⟨_, q⟩ | ⟨d, e', h1, h2, _, _, q⟩)
    · simpa using q
    · rw [dpI] at h1 h2; subst h1 h2; exact q
  · intro q; exact .inl ⟨rfl, by simpa using q⟩
theorem neII : rNeA K (.int i) (.int j) H Q ↔ Q (.bl (!decide (i = j))) H := by
  constructor
  · rintro (⟨_, q⟩ | ⟨d, e', h1, h2, _, _, q⟩)
    · simpa using q
    · rw [dpI] at h1 h2; subst h1 h2; exact q
  · intro q; exact .inl ⟨rfl, by simpa using q⟩
theorem neSS : rNeA K (.str x) (.str y) H Q ↔ Q (.bl (!decide (x = y))) H := by
  have e : (x == y) = decide (x = y) := by rw [Bool.eq_iff_iff]; simp
  constructor
  · rintro (⟨_, q⟩ | ⟨d, e', h1, h2, _, _, q⟩)
    · simpa using q
    · rw [dpS] at h1 h2; subst h1 h2; rw [← e]; exact q
  · intro q; exact .inl ⟨rfl, by simpa using q⟩
/-- an int or a text -/
def fl2 : V → Bool
  | .int _ => true
  | .str x => PyData.strOk x
  | _ => false
def dV : V → PyData
  | .int i => .int i
  | .str x => .str x
  | _ => .none
theorem dV_dp {v : V} (h : fl2 v = true) : Dp K H v (dV v) := by
  cases v <;> first | exact .int _ | exact .str _ | exact nomatch h
theorem dV_all : ∀ {xs : List V}, xs.all fl2 = true → DpAll K H xs (xs.map dV)
  | [], _ => .nil
  | x :: r, h => by
    rw [List.all_cons, Bool.and_eq_true] at h
    exact .cons (dV_dp h.1) (dV_all h.2)
theorem dV_shape : ∀ {xs : List V}, xs.all fl2 = true → PyData.canLayAll0 (xs.map dV) = true ∧ PyData.depthAll (xs.map dV) ≤ 1
  | [], _ => by simp [PyData.canLayAll0, PyData.depthAll]
  | x :: r, h => by
    rw [List.all_cons, Bool.and_eq_true] at h
    have ih := dV_shape (xs := r) h.2
    have h0 : PyData.canLay0 (dV x) = true ∧ PyData.depth (dV x) ≤ 1 := by cases x <;> simp_all [dV, fl2, PyData.canLay0, PyData.depth]
    simp only [List.map_cons, PyData.canLayAll0, PyData.depthAll, h0.1, ih.1, Bool.and_self, true_and]
    omega
theorem lst_shape {xs : List V} (hf : xs.all fl2 = true) : SeqAt.shaped (.list (xs.map dV)) = true := by
  have h := dV_shape hf
  have h2 := h.2
  have h1 : PyData.canLay0 (.list (xs.map dV)) = true := by rw [PyData.canLay0]; exact h.1
  have h3 : PyData.depth (.list (xs.map dV)) ≤ 64 := by rw [PyData.depth]; omega
  show (_ && _) = true
  rw [h1, decide_eq_true h3]; rfl
/-- xs == [] -/
theorem eqL0 {xs : List V} (hf : xs.all fl2 = true) (ha : SqL K H a xs) (hb : SqL K H b []) (q : Q (.bl (decide (xs = []))) H) : rEqA K (.ref a) (.ref b) H Q :=
  .inr ⟨.list (xs.map dV), .list [], .lst ha (dV_all hf), .lst hb .nil, lst_shape hf, lst_shape (xs := []) rfl, by
    have e : PyData.eqv (.list (xs.map dV)) (.list []) = decide (xs = []) := by cases xs <;> simp [PyData.eqv, PyData.eqvAll]
    rw [e]; exact q⟩
theorem fl2_ints {ns : List Int} : (ns.map V.int).all fl2 = true := by simp [fl2]
/-- isinstance of what is known -/
theorem isiI {t : String} {r : Bool} (hk : PySem.W.kitOne K (.type "int") (.type t) = some r) (q : Q (.bl r) H) : rIsi K [.int i, .ty t] H Q := ⟨_, _, _, _, _, rfl, .ty t, .base (.int i), hk, q⟩
theorem isiS {t : String} {r : Bool} (hk : PySem.W.kitOne K (.type "str") (.type t) = some r) (q : Q (.bl r) H) : rIsi K [.str x, .ty t] H Q := ⟨_, _, _, _, _, rfl, .ty t, .base (.str x), hk, q⟩
theorem lenL {xs : List V} (h : SqL K H a xs) (q : Q (.int xs.length) H) : cLen K [.ref a] H Q := ⟨_, _, rfl, .inl ⟨xs, h, rfl⟩, q⟩
theorem lenT {xs : List V} (h : SqT K H a xs) (q : Q (.int xs.length) H) : cLen K [.ref a] H Q := ⟨_, _, rfl, .inr ⟨xs, h, rfl⟩, q⟩
theorem lenS (h : x.length ≤ sizeLine) (q : Q (.int x.length) H) : cLen K [.str x] H Q := ⟨_, _, rfl, ⟨h, rfl⟩, q⟩
theorem ixL {xs : List V} {v : V} (h : SqL K H a xs) (e : atI xs i = some v) (q : Q v H) : rIx K (.ref a) (.int i) H Q := .inl ⟨a, xs, i, v, rfl, rfl, h, e, q⟩
theorem ixT {xs : List V} {v : V} (h : SqT K H a xs) (e : atI xs i = some v) (q : Q v H) : rIx K (.ref a) (.int i) H Q := .inr (.inl ⟨a, xs, i, v, rfl, rfl, h, e, q⟩)
theorem ixS {c : Nat} (h : x.length ≤ sizeLine) (e : atI x.cps.toList i = some c) (q : Q (.str ⟨#[c]⟩) H) : rIx K (.str x) (.int i) H Q := .inr (.inr ⟨x, i, c, rfl, rfl, h, e, q⟩)
theorem atN {α : Type} {xs : List α} {n : Nat} {v : α} (h : xs[n]? = some v) : atI xs (n : Int) = some v := by
  obtain ⟨l, _⟩ := List.getElem?_eq_some_iff.mp h
  unfold atI ixN
  rw [if_pos (Int.natCast_nonneg n), if_pos (by omega)]
  exact h
end
end UL
set_option Elab.async false
set_option linter.all false
set_option maxRecDepth 100000
set_option maxHeartbeats 2000000
/-! loops as words that a reading stops at -/
namespace UL
open PySem PySem.Spec PyProof.Rows L2
/-- what a for over J wants -/
def FJ (J : It) (g : TG) (tb : TS) (D : Ends) (σ : L2.St) (H : Hp) : Prop := ∃ W : Nat → Nat → L2.St → Hp → Prop, (∃ m, W 0 m σ H) ∧ ∀ i m σ H, W i m σ H →
  (J.stop i H ∧ D.nx σ H) ∨ (J.go i H ∧ ∃ N : L2.St → Hp → Prop, (∀ σ' H', N σ' H' → ∃ m', m' < m ∧ W (i + 1) m' σ' H') ∧ ∀ x H', J.yld i H x H' → g x σ H' fun σ2 H2 => tb { D with nx := N, ct := N, bk := D.nx } σ2 H2)
theorem tFor_eq {wi : TI} {g : TG} {tb : TS} {D : Ends} {σ : L2.St} {H : Hp} : tFor wi g tb D σ H = wi σ H fun J H1 => FJ J g tb D σ H1 := rfl
/-- what a comprehension over J wants of its list at D -/
def LJ (J : It) (g : TG) (tt : TT) (te : TE) (vs : List Nat) (σ : L2.St) (D : Addr) (Qd : Hp → Prop) (H1 : Hp) : Prop := ∃ W : Nat → Nat → Hp → Prop, (∃ m, W 0 m (upd H1 D (.lst []))) ∧ ∀ i m H, W i m H →
  (J.stop i H ∧ Qd H) ∨ (J.go i H ∧ ∃ Nx : Hp → Prop, (∀ H', Nx H' → ∃ m', m' < m ∧ W (i + 1) m' H') ∧ ∀ x H', J.yld i H x H' → g x (wipe σ vs) H' fun σ2 H2 => wipe σ2 vs = wipe σ vs ∧ tt σ2 H2 fun b H3 =>
    if b = true then te σ2 H3 fun y H4 => ∃ acc, H4 D = some (.lst acc) ∧ acc.length < sizeLine ∧ Nx (upd H4 D (.lst (acc ++ [y]))) else Nx H3)
theorem tLc_eq {wi : TI} {g : TG} {tt : TT} {te : TE} {vs : List Nat} {σ : L2.St} {H : Hp} {Q : VK} : tLc wi g tt te vs σ H Q = wi σ H fun J H1 => ∀ D, H1 D = none → LJ J g tt te vs σ D (fun H2 => Q (.ref D) H2) H1 := rfl
theorem iRng1_eq {ta : TA} {σ : L2.St} {H : Hp} {R : It → Hp → Prop} : iRng1 ta σ H R = ta σ H fun vs H1 => ∃ j : Int, vs = [.int j] ∧ -(2 ^ 62) ≤ j ∧ j < 2 ^ 62 ∧ R (Itr 0 j.toNat) H1 := rfl
section
variable {K : PySem.W.Frag} {J : It} {n : Nat} {G : Hp → Prop} {Y : Nat → Hp → V → Hp → Prop} {g : TG} {tb : TS} {D : Ends} {σ : L2.St} {H : Hp} {a b : Addr} {xs ys : List V} {lo : Int}
theorem FJ.range (Pv : Nat → L2.St → Hp → Prop) (h0 : Pv 0 σ H) (hs : ∀ i σ H, i < n → Pv i σ H → g (.int (lo + i)) σ H fun σ2 H2 => tb { D with nx := Pv (i + 1), ct := Pv (i + 1), bk := D.nx } σ2 H2) (hd : ∀ σ H, Pv n σ H → D.nx σ H) : FJ (Itr lo n) g tb D σ H := for_range Pv h0 hs hd
/-- range(j) -/
theorem FJ.rangeI {j : Int} (Pv : Nat → L2.St → Hp → Prop) (hj : 0 ≤ j) (h0 : Pv 0 σ H) (hs : ∀ (i : Nat) σ H, (i : Int) < j → Pv i σ H → g (.int i) σ H fun σ2 H2 => tb { D with nx := Pv (i + 1), ct := Pv (i + 1), bk := D.nx } σ2 H2) (hd : ∀ σ H, Pv j.toNat σ H → D.nx σ H) : FJ (Itr 0 j.toNat) g tb D σ H :=
  for_range Pv h0 (fun i σ H hi p => by have := hs i σ H (by omega) p; simpa using this) hd
theorem FJ.list (Pv : Nat → L2.St → Hp → Prop) (h0 : Pv 0 σ H) (hl : ∀ i σ H, i ≤ xs.length → Pv i σ H → SqL K H a xs)
    (hs : ∀ i x σ H, xs[i]? = some x → Pv i σ H → g x σ H fun σ2 H2 => tb { D with nx := Pv (i + 1), ct := Pv (i + 1), bk := D.nx } σ2 H2) (hd : ∀ σ H, Pv xs.length σ H → D.nx σ H) : FJ (Itl K a) g tb D σ H := for_list Pv h0 hl hs hd
theorem FJ.tup (Pv : Nat → L2.St → Hp → Prop) (h0 : Pv 0 σ H) (hl : ∀ i σ H, i ≤ xs.length → Pv i σ H → SqT K H a xs)
    (hs : ∀ i x σ H, xs[i]? = some x → Pv i σ H → g x σ H fun σ2 H2 => tb { D with nx := Pv (i + 1), ct := Pv (i + 1), bk := D.nx } σ2 H2) (hd : ∀ σ H, Pv xs.length σ H → D.nx σ H) : FJ (Itt K a) g tb D σ H := for_tup Pv h0 hl hs hd
theorem FJ.zip {k1 k2 : Kd} (hl : xs.length = ys.length) (Pv : Nat → L2.St → Hp → Prop) (h0 : Pv 0 σ H) (hq : ∀ i σ H, Pv i σ H → k1.Sq K H a xs ∧ k2.Sq K H b ys)
    (hs : ∀ (i : Nat) (x y : V) (T : Addr) (σ : L2.St) (H : Hp), xs[i]? = some x → ys[i]? = some y → Pv i σ H → H T = none → g (.ref T) σ (upd H T (.tup [x, y])) fun σ2 H2 => tb { D with nx := Pv (i + 1), ct := Pv (i + 1), bk := D.nx } σ2 H2) (hd : ∀ σ H, Pv xs.length σ H → D.nx σ H) :
    FJ (ItzK k1 k2 K a b) g tb D σ H := for_zipK hl Pv h0 hq hs hd
variable {tt : TT} {te : TE} {vs : List Nat} {D : Addr} {Qd : Hp → Prop} {H1 : Hp}
theorem LJ.it (w : Walk J n G Y) (Pv : Nat → Hp → Prop) (h0 : Pv 0 (upd H1 D (.lst []))) (hG : ∀ i H, i ≤ n → Pv i H → G H)
    (hs : ∀ i x H H', i < n → Pv i H → Y i H x H' → g x (wipe σ vs) H' fun σ2 H2 => wipe σ2 vs = wipe σ vs ∧ tt σ2 H2 fun b H3 =>
      if b = true then te σ2 H3 fun y H4 => ∃ acc, H4 D = some (.lst acc) ∧ acc.length < sizeLine ∧ Pv (i + 1) (upd H4 D (.lst (acc ++ [y]))) else Pv (i + 1) H3) (hd : ∀ H, Pv n H → Qd H) : LJ J g tt te vs σ D Qd H1 := lc_it w Pv h0 hG hs hd
end
/-- the inner loop of a comprehension with two fors -/
def NJ (J1 : It) (g1 : TG) (tt1 : TT) (te : TE) (vs1 : List Nat) (σ2 : L2.St) (D : Addr) (Nx : Hp → Prop) (H4 : Hp) : Prop := ∃ W1 : Nat → Nat → Hp → Prop, (∃ m, W1 0 m H4) ∧ ∀ j k H, W1 j k H →
      (J1.stop j H ∧ Nx H) ∨ (J1.go j H ∧ ∃ Nx1 : Hp → Prop, (∀ H', Nx1 H' → ∃ k', k' < k ∧ W1 (j + 1) k' H') ∧ ∀ x H', J1.yld j H x H' → g1 x (wipe σ2 vs1) H' fun σ3 H5 => wipe σ3 vs1 = wipe σ2 vs1 ∧ tt1 σ3 H5 fun b H6 =>
        if b = true then te σ3 H6 fun y H7 => ∃ acc, H7 D = some (.lst acc) ∧ acc.length < sizeLine ∧ Nx1 (upd H7 D (.lst (acc ++ [y]))) else Nx1 H6)
def LJ2 (J : It) (g : TG) (tt : TT) (wi1 : TI) (g1 : TG) (tt1 : TT) (te : TE) (vs vs1 : List Nat) (σ : L2.St) (D : Addr) (Qd : Hp → Prop) (H1 : Hp) : Prop := ∃ W : Nat → Nat → Hp → Prop, (∃ m, W 0 m (upd H1 D (.lst []))) ∧ ∀ i m H, W i m H →
  (J.stop i H ∧ Qd H) ∨ (J.go i H ∧ ∃ Nx : Hp → Prop, (∀ H', Nx H' → ∃ m', m' < m ∧ W (i + 1) m' H') ∧ ∀ x H', J.yld i H x H' → g x (wipe σ vs) H' fun σ2 H2 => wipe σ2 vs = wipe σ vs ∧ tt σ2 H2 fun b H3 =>
    if b = true then wi1 σ2 H3 fun J1 H4 => NJ J1 g1 tt1 te vs1 σ2 D Nx H4 else Nx H3)
theorem tLc2_eq {wi : TI} {g : TG} {tt : TT} {wi1 : TI} {g1 : TG} {tt1 : TT} {te : TE} {vs vs1 : List Nat} {σ : L2.St} {H : Hp} {Q : VK} :
    tLc2 wi g tt wi1 g1 tt1 te vs vs1 σ H Q = wi σ H fun J H1 => ∀ D, H1 D = none → LJ2 J g tt wi1 g1 tt1 te vs vs1 σ D (fun H2 => Q (.ref D) H2) H1 := rfl
section
variable {J : It} {n : Nat} {G : Hp → Prop} {Y : Nat → Hp → V → Hp → Prop} {g g1 : TG} {tt tt1 : TT} {te : TE} {wi1 : TI} {σ : L2.St} {vs vs1 : List Nat} {D : Addr} {Qd : Hp → Prop} {H1 : Hp}
theorem NJ.it (w : Walk J n G Y) (Pv : Nat → Hp → Prop) (h0 : Pv 0 H1) (hG : ∀ i H, i ≤ n → Pv i H → G H)
    (hs : ∀ i x H H', i < n → Pv i H → Y i H x H' → g x (wipe σ vs) H' fun σ2 H2 => wipe σ2 vs = wipe σ vs ∧ tt σ2 H2 fun b H3 =>
      if b = true then te σ2 H3 fun y H4 => ∃ acc, H4 D = some (.lst acc) ∧ acc.length < sizeLine ∧ Pv (i + 1) (upd H4 D (.lst (acc ++ [y]))) else Pv (i + 1) H3) (hd : ∀ H, Pv n H → Qd H) : NJ J g tt te vs σ D Qd H1 := by
  refine ⟨fun i m H => m = n - i ∧ i ≤ n ∧ Pv i H, ⟨n, by simp, Nat.zero_le _, h0⟩, ?_⟩
  rintro i m H ⟨rfl, hi, p⟩
  have q := hG i H hi p
  by_cases hlt : i < n
  · exact .inr ⟨w.goes i H hlt q, Pv (i + 1), fun H' p' => ⟨n - (i + 1), by omega, rfl, hlt, p'⟩, fun x H' y => hs i x H H' hlt p (w.yields i H x H' hlt q y)⟩
  · have e : i = n := by omega
    subst e
    exact .inl ⟨w.stops H q, hd H p⟩
theorem LJ2.it (w : Walk J n G Y) (Pv : Nat → Hp → Prop) (h0 : Pv 0 (upd H1 D (.lst []))) (hG : ∀ i H, i ≤ n → Pv i H → G H)
    (hs : ∀ i x H H', i < n → Pv i H → Y i H x H' → g x (wipe σ vs) H' fun σ2 H2 => wipe σ2 vs = wipe σ vs ∧ tt σ2 H2 fun b H3 =>
      if b = true then wi1 σ2 H3 fun J1 H4 => NJ J1 g1 tt1 te vs1 σ2 D (Pv (i + 1)) H4 else Pv (i + 1) H3) (hd : ∀ H, Pv n H → Qd H) : LJ2 J g tt wi1 g1 tt1 te vs vs1 σ D Qd H1 := by
  refine ⟨fun i m H => m = n - i ∧ i ≤ n ∧ Pv i H, ⟨n, by simp, Nat.zero_le _, h0⟩, ?_⟩
  rintro i m H ⟨rfl, hi, p⟩
  have q := hG i H hi p
  by_cases hlt : i < n
  · exact .inr ⟨w.goes i H hlt q, Pv (i + 1), fun H' p' => ⟨n - (i + 1), by omega, rfl, hlt, p'⟩, fun x H' y => hs i x H H' hlt p (w.yields i H x H' hlt q y)⟩
  · have e : i = n := by omega
    subst e
    exact .inl ⟨w.stops H q, hd H p⟩
end
end UL
set_option Elab.async false
set_option linter.all false
set_option maxRecDepth 100000
set_option maxHeartbeats 2000000
/-! a tuple that is known to have no dict: tuple(list), and its methods -/
namespace UL
open PySem PySem.Spec PyProof.Rows L2
section
variable {X : Cx}
/-- of a tuple without a dict -/
def tBMF (r : V → List V → Hp → VK → Prop) (to : TE) (t : TA) : TE := fun σ H Q => to σ H fun x H1 => (∃ p o ys, x = .ref p ∧ H1 p = some (.frz o (.tup ys)) ∧ o.dict = none) ∧ t σ H1 fun xs H2 => r x xs H2 Q
variable {o e : Expr} {es : List Expr} {to : TE} {t : TA} {name : Str} {apos cpos : Pos} {id : String} {r : V → List V → Hp → VK → Prop}
theorem pe_bmF (slot : Slot "tuple" name id) (hty : typeOf (.builtin id) = pure (.type "method_descriptor")) (hm : MtR X id r) (ho : PE X o to) (ha : PA X (e :: es) t)
    (hbase : attributeBase o name X.env (eval o X.env) = eval o X.env := by rfl)
    (hfew : ((backTo cpos (starEach (e :: es) X.env)).all (fun x => !x.1) && (backToKw cpos (keywordEach [] X.env)).all (fun x => x.1.isSome)
      && decide ((e :: es).length + ([] : List Keyword).length + (if ([] : List Keyword).isEmpty then 0 else 1) < 30)) = true := by rfl)
    (hline : (apos.endLine == cpos.line) = true := by rfl) (hs : starEach (e :: es) X.env = (false, eval e X.env) :: starEach es X.env := by rfl) (hplain : (backTo cpos (starEach es X.env)).any (·.1) = false := by rfl) :
    PE X (.Call (.Attribute o name apos) (e :: es) [] cpos) (tBMF r to t) := by
  refine ⟨fun pins s σ H Q I h => ?_⟩
  refine wpAny_Call_method_late hbase hfew hline rfl (thn (ho.run pins s σ H _ I h) fun v s1 ⟨x, H1, I1, r1, ⟨p, ob, ys, ex, hp, hd⟩, q1⟩ => ?_)
  subst ex
  cases r1
  obtain ⟨e1, hl, its, rv, ht⟩ := I1.hok p _ hp
  obtain ⟨o2, e2, hc2, _⟩ := ht
  refine ⟨"tuple", id, PySem.F.plainAttrs_tuple, slot, hty, ⟨o2, e2, hc2⟩, fun a ea => ?_, ?_⟩
  · cases ea; exact ⟨ob, e1, hd⟩
  have hA := ha.run cpos pins s1 σ H1 _ I1 q1
  rw [hs] at hA ⊢
  refine Calls.callWith_builtin (by show (false || (backTo cpos (starEach es X.env)).any (·.1)) = false; rw [hplain] <;> rfl) (Calls.evalArgs_plain ?_)
  exact thn hA fun us s2 ⟨vs, H2, I2, r2, q2⟩ => hm pins s2 σ H2 (.ref p) vs (.ref p) us Q I2 rfl r2 q2
end
end UL
set_option Elab.async false
set_option linter.all false
set_option maxRecDepth 100000
set_option maxHeartbeats 2000000
/-! bundles: own __getitem__, __iter__, a property, a generator method -/
namespace UL
open PySem PySem.Spec PyProof.Rows L2
section
variable {X : Cx} {CX : CXT} {k j : Nat} {C : Addr} {sp : Sp} {spg : SpG} {E : XK} {x m : Str} {p pos apos : Pos} {e o : Expr} {es : List Expr} {ta tb : TE} {t : TA}
theorem gcxK {P : Program} {w : World} {K : PySem.W.Frag} {mg : Str → Option Value} {base : Heap} {N : List Str} {qual : Str} {scope : Scope} {f : Addr} {cd : Value} {A : Around} {outer : List Env} {s : Shared} {H : Hp} {E : XK} {pn : List (Addr × Obj)} : (gcxOf P w K mg base N qual scope f cd A outer s H E pn).K = K := rfl
end
end UL
set_option Elab.async false
set_option linter.all false
set_option maxRecDepth 100000
set_option maxHeartbeats 4000000
/-! super().__init__(x) of an own class over ValueError: the wrapper bound to the instance, at the library's level -/
namespace UV
open PySem PySem.W PySem.Calls PyProof.Rows
abbrev wr : Value := .builtin "ValueError.__init__"
abbrev bv (a : Addr) : Obj := { cls := .type "method-wrapper", dict := none, data := .fields #[wr, .ref a], slots := #[] }
abbrev su (D a C : Addr) : Obj := { cls := .type "super", dict := none, data := .fields #[.ref D, .ref a, .ref C], slots := #[] }
theorem ty_wr : typeOf wr = pure (.type "wrapper_descriptor") := by show builtinType _ = _; rw [builtinType_eq_fast]; kernel_rfl
theorem nm_wr : (kfb_private% "nameAndClass") wr = (pure (("__init__" : Str), Value.type "ValueError") : Sem (Str × Value)) := by kernel_rfl
section
variable {P : Program} {w : World} {M : Model} {A : Around} {E : Value → Shared → Prop} {h : Heap} {g : Array GenState} {d : Drawn} {t : Nat} {os : OsState}
theorem get_wr {a C : Addr} {R : Fin → Shared → Prop} (is : W.Looks M h (isInstance (.ref a) (.type "ValueError")) true) (q : R (.done (.ret (.ref h.objs.size))) ⟨h.push (bv a), g, d, t, os⟩) : wpAny M A (Builtin.«wrapper_descriptor.__get__» ⟨[wr, .ref a, .ref C], []⟩) R E ⟨h, g, d, t, os⟩ := by
  unfold Builtin.«wrapper_descriptor.__get__»
  refine wpAny_bind (wpAny_of_eq (a := (wr, some (.ref a), some (.ref C))) (by first | rfl | kernel_rfl) ?_); show wpAny M A ((kfb_private% "checkInstance") wr (.ref a) >>= fun _ => newFields "method-wrapper" [wr, .ref a] >>= fun r => ret r) R E _
  refine wpAny_bind ?_; show wpAny M A ((kfb_private% "nameAndClass") wr >>= _) _ E _
  refine wpAny_bind (wpAny_of_eq nm_wr ?_); show wpAny M A (isInstance (.ref a) (.type "ValueError") >>= _) _ E _
  exact wpAny_bind (is.at (KFB.if_not rfl (wpAny_pure (wpAny_bind (wpAny_newObj_type (wpAny_pure q))))))
theorem sup_get {so D a C : Addr} {m0 m1 : List Value} {K : Frag} {tk : Tok} {R : Fin → Shared → Prop} (e : h.get? so = some (su D a C)) (no : W.Looks (model P w) h (opaqueClassAbove (.ref C)) none) (mr : W.Looks (model P w) h (mroOf (.ref C)) m0) (cut : (m0.dropWhile (· != .ref D)).drop 1 = m1)
    (X : K.In h) (al : alongIn K "__init__" m1 = some (some wr)) (ne : a ≠ C) (is : W.Looks (model P w) h (isInstance (.ref a) (.type "ValueError")) true) (q : R (.done (.ret (.ref h.objs.size))) ⟨h.push (bv a), g, d, t, os⟩) :
    wpAny (model P w) A (Builtin.«super.__getattribute__» ⟨[.ref so, .str "__init__" tk], []⟩) R E ⟨h, g, d, t, os⟩ := by
  have l1 := ESX.slot_wd.lookup
  have nq : (Value.ref a == Value.ref C) = false := by simp [ne]
  have t1 := ty_wr
  have t2 : Shared.TypeIs ⟨h, g, d, t, os⟩ wr "wrapper_descriptor" := ty_wr
  have dt : (su D a C).data = .fields #[.ref D, .ref a, .ref C] := rfl
  have k0 : (#[.ref D, .ref a, .ref C] : Array Value)[0]? = some (.ref D) := rfl
  have k1 : (#[.ref D, .ref a, .ref C] : Array Value)[1]? = some (.ref a) := rfl
  have k2 : (#[.ref D, .ref a, .ref C] : Array Value)[2]? = some (.ref C) := rfl
  have hn : (("__init__" : Str) == ("__class__" : Str)) = false := by decide
  unfold Builtin.«super.__getattribute__»
  repeat (first | (with_reducible refine wpAny_field e dt k0 ?_) | (with_reducible refine wpAny_field e dt k1 ?_) | (with_reducible refine wpAny_field e dt k2 ?_) | (with_reducible refine ks_wpAny_notOpaque no ?_) | (with_reducible refine Looks.at mr ?_; rw [cut]) | (refine ks_forIn_along X (fun _ _ => rfl) rfl ?_ al) | (with_reducible refine wpAny_call_entry ESX.slot_wd t2 ESX.entry_wd ?_ (ESX.args_wd _ _ _)) | (with_reducible refine get_wr is ?_) | (with_reducible refine ⟨_, rfl, ?_⟩) | (simp only [hn, nq, Bool.or_false, Bool.false_eq_true, if_false]) | wp_step | dsimp only)
  all_goals exact q
theorem sup_meth {so D a C : Addr} {m0 m1 : List Value} {K : Frag} {pl : Sem Bool} {R : Value × List Value → Shared → Prop} (e : h.get? so = some (su D a C)) (no : W.Looks (model P w) h (opaqueClassAbove (.ref C)) none) (mr : W.Looks (model P w) h (mroOf (.ref C)) m0) (cut : (m0.dropWhile (· != .ref D)).drop 1 = m1)
    (X : K.In h) (al : alongIn K "__init__" m1 = some (some wr)) (ne : a ≠ C) (is : W.Looks (model P w) h (isInstance (.ref a) (.type "ValueError")) true) (q : R (.ref h.objs.size, []) ⟨h.push (bv a), g, d, t + 1, os⟩) : wpAny (model P w) A (getMethod (.ref so) "__init__" pl) R E ⟨h, g, d, t, os⟩ := by
  have l1 := F.ks_slot_super_ga.lookup
  have ty : ∀ t', (⟨h, g, d, t', os⟩ : Shared).TypeIs (.ref so) "super" := fun _ => ⟨_, e, rfl⟩
  unfold getMethod
  refine wpAny_bind (wpAny_specialOf (ty _) l1 ?_); show wpAny _ _ (if (Manifest.canonical "super.__getattribute__" != "object.__getattribute__") = true then _ else _) _ _ _
  rw [if_pos F.ks_canon_super_ga]; unfold getAttr getAttrBy
  refine wpAny_bind (wpAny_bind (wpAny_mkText (wpAny_holding (wpAny_bind (wpAny_typeOf (ty _) (wpAny_bind (wpAny_of_eq l1 ?_))))))); show wpAny _ _ (getAttrByItsOwn (.ref so) (.str "__init__" t) (.type "super") (.builtin "super.__getattribute__") true false) _ _ _
  unfold getAttrByItsOwn hookBefore callGetattribute boundAndCalled
  refine wpAny_bind (wpAny_of_eq (show (if onTheHeap (.type "super") then typeLookup (.type "super") "__getattr__" else pure none) = pure none from rfl) (wpAny_bind (wpAny_attempt (wpAny_holding ?_)))); show wpAny _ _ (bindSpecial (.builtin "super.__getattribute__") (.ref so) >>= _) _ _ _
  refine wpAny_bind (wpAny_of_eq (F.ks_slot_super_ga.bind _) (wpAny_mono (Q := fun v s' => v = .ref h.objs.size ∧ s' = ⟨h.push (bv a), g, d, t + 1, os⟩) (E := fun _ _ => False) (wpAny_call_entry F.ks_slot_super_ga (ty _) F.ks_entry_super_ga (sup_get e no mr cut X al ne is ⟨_, rfl, rfl, rfl⟩) (F.ks_gaArgs_super _ _)) (fun v s' hv => ?_) fun _ _ z => z.elim))
  obtain ⟨rfl, rfl⟩ := hv; exact wpAny_pure (wpAny_pure q)
end
section
variable {P : Program} {w : World} {M : Model} {A : Around} {E : Value → Shared → Prop} {s : Shared}
theorem cw0 {pos : Pos} {u a : Addr} {args : List (Bool × Sem Value)} {Q : Value → Shared → Prop} (pl : args.any (·.1) = false)
    (q : wpAny M A (evalArgs (.ref u) true args []) (fun r s₁ => s₁.heap.get? u = some (bv a) ∧ wpAny M A (call (.ref u) ([] ++ r.pos) r.kw) Q E s₁) E s) : wpAny M A (callWith pos (.ref u) [] args []) Q E s := by
  unfold callWith
  refine wpAny_bind (wpAny_holding (wpAny_mono q (fun r s₁ z => wpAny_bind (wpAny_standAt ?_)) fun _ _ x => x)); obtain ⟨o, z⟩ := z
  simp only [pl, List.any_nil, Bool.or_false]
  refine wpAny_bind (m := keeperOf (.ref u)) ?_; unfold keeperOf
  refine wpAny_bind (wpAny_load o ?_); simp only [bv, show (Value.type "method-wrapper" != Value.type "method") = true by decide, show (Value.type "method-wrapper" == Value.type "builtin_function_or_method" || Value.type "method-wrapper" == Value.type "method-wrapper") = true by decide, if_true]
  exact wpAny_pure (wpAny_bind (wpAny_mono z (fun r s₂ hr => wpAny_bind (wpAny_holding (wpAny_point (wpAny_pure hr)))) fun _ _ x => x))
theorem cw_bv {pos : Pos} {u a : Addr} {env : Env} {e : Expr} {es : List Expr} {Q : Value → Shared → Prop} (q : wpAny M A (spliced (backTo pos (starEach (e :: es) env))) (fun vs s₁ => s₁.heap.get? u = some (bv a) ∧ wpAny M A (call (.ref u) vs) Q E s₁) E s)
    (he : starEach (e :: es) env = (false, eval e env) :: starEach es env := by rfl) (pl : (backTo pos (starEach es env)).any (·.1) = false := by rfl) : wpAny M A (callWith pos (.ref u) [] (backTo pos (starEach (e :: es) env)) []) Q E s := by
  rw [he] at q ⊢
  exact cw0 (a := a) (by show (false || (backTo pos (starEach es env)).any (·.1)) = false; rw [pl]; rfl) (evalArgs_plain q)
end
section
variable {P : Program} {w : World} {A : Around} {E : Value → Shared → Prop} {h : Heap} {g : Array GenState} {d : Drawn} {t : Nat} {os : OsState} {nm q : Str} {C N : Addr} {bs bm : List Value} {hdct : Bool} {sn : List Str} {sub : List Value} {ab : Bool} {col : Option Bool} {dd : Option Addr} {k0 k1 k2 k3 k5 : Option Value}
theorem chk_bv (hm : HandSPX.refsVE bm = true) {e : Addr} {oe : Obj} {us : List Value} {Q : Unit → Shared → Prop} (hC : h.get? C = some (excClassObj nm q C N bs bm hdct sn sub ab col dd k0 k1 k2 k3 k5 "ValueError.__new__")) (he : h.get? e = some oe) (hc : oe.cls = .ref C) (z : Q () ⟨h, g, d, t, os⟩) :
    wpAny (model P w) A (checkBoundCall "ValueError.__init__" ⟨.ref e :: us, []⟩) Q E ⟨h, g, d, t, os⟩ := by
  have F := PySem.F.excBase_ValueError
  have f1 := F.noStar
  simp only [checkBoundCall, F.initKind, F.initRow]
  repeat (first | (with_reducible refine wpAny_loadPart_at he ?_; rw [hc]) | with_reducible refine wpAny_loadPart_at hC ?_ | wp_step)
  refine wpAny_onRaise ?_; rw [show ∀ (x y : String) (i : Nat), Bind.check ⟨.positional, "*", "ValueError", .self, [⟨"args", .varPos, false⟩]⟩ x y i (List.map (fun z => z.fst) ({ pos := Value.ref e :: us } : Args).kw) = pure () from fun x y i => check_star_args _ _ _ _ _ _]
  exact wpAny_pure z
theorem call_bv (hm : HandSPX.refsVE bm = true) {u e t0 : Addr} {us : List Value} {Q : Value → Shared → Prop} (hC : h.get? C = some (excClassObj nm q C N bs bm hdct sn sub ab col dd k0 k1 k2 k3 k5 "ValueError.__new__")) (he : h.get? e = some (HandSPX.excO C t0)) (hu : h.get? u = some (bv e)) (hl : us.length ≤ sizeLine)
    (z : ∀ h' t1, (∀ b o, b ≠ e → h.get? b = some o → h'.get? b = some o) → h'.get? e = some (HandSPX.excO C t1) → Q .none ⟨h', g, d, t, os⟩) : wpAny (model P w) A (call (.ref u) us) Q E ⟨h, g, d, t, os⟩ := by
  refine wpAny_call (codeAny_of_tree ?_); show wpAny _ A.in1 (callAny (.ref u) ⟨us, []⟩) _ _ _
  simp only [callAny]; refine wpAny_bind (wpAny_load hu ?_)
  simp only [bv, show (Value.type "method-wrapper" == Value.type "method" || Value.type "method-wrapper" == Value.type "builtin_function_or_method" || Value.type "method-wrapper" == Value.type "method-wrapper") = true by decide, if_true]
  refine W.KFB.if_so (by decide) (wpAny_bind (chk_bv hm hC he rfl (wpAny_bind (wpAny_pure (wpAny_pure ⟨Code.quiet_builtin _ (by decide +kernel), codeAny_builtin F.excBase_ValueError.initEntry ?_⟩)))))
  rw [Around.under_plainId F.excBase_ValueError.init.plain _]
  wp_walk
  refine z _ h.objs.size (fun b o nb ob => (Heap.get?_update_other _ _ (Ne.symm nb)).trans (Heap.get?_push_of_some _ ob)) ?_
  rw [Heap.get?_update_self _ (Heap.get?_push_of_some _ he) rfl] <;> rfl
end
end UV
set_option Elab.async false
set_option linter.all false
set_option maxRecDepth 100000
set_option maxHeartbeats 4000000
/-! super().__init__(x) as the first statement of an exception's __init__, over the layer -/
namespace UV
open PySem PySem.W PySem.Calls PyProof.Rows L2
structure SupF (P : Program) (K : PySem.W.Frag) (mg : Str → Option Value) (C f c cc : Addr) (fd : FuncData) : Prop where
  fn : ∃ oc od osl, K.lookup f = some ⟨oc, od, .func fd, osl⟩
  par : ∃ ar, (fd.params.posonlyargs ++ fd.params.args).head? = some ar ∧ ar.arg = "self"
  code : ∃ ccl cdd vs ccs file tf, K.lookup c = some ⟨ccl, cdd, .fields vs, ccs⟩ ∧ vs[2]? = some (.str file tf) ∧ ((P.main.file : Str) == file) = true
  top : (P.main.scope.names.lookup ("super" : Str)).isSome = false
  cell : ∃ cl cld csl, K.lookup cc = some ⟨cl, cld, .cell (some (.ref C)), csl⟩
  nos : mg "super" = none
  sub : PySem.W.mroIn K C (.ref C) = some true
  op : PySem.W.nsIn K cStatics "thirdparty.any" = some none
  al : PySem.W.ks_superIn K C C "__init__" = some (some wr)
section
variable {X : Cx} {pins : List (Addr × Obj)} {σ : L2.St} {H : Hp} {s : Shared}
theorem pin1 {u : Addr} {o : Obj} (I : Inv X pins σ H s) (e : s.heap.get? u = some o) (n : H u = none) (l : u ≠ X.env.locals) (f : u ∉ X.fs) (d : ∀ v, o.data ≠ .cell v) : Inv X ((u, o) :: pins) σ H s :=
  ⟨I.ok, I.os, I.bare, I.base, I.loc, I.cell, I.free, I.freeC, fun p hp => (List.mem_append.mp hp).elim (fun z => I.pin p (List.mem_append_left _ z)) fun z => (List.mem_cons.mp z).elim (fun w => w ▸ ⟨e, n, l, f, d⟩) fun w => I.pin p (List.mem_append_right _ w), I.hok, I.len⟩
theorem unpin1 {q : Addr × Obj} (I : Inv X (q :: pins) σ H s) : Inv X pins σ H s :=
  ⟨I.ok, I.os, I.bare, I.base, I.loc, I.cell, I.free, I.freeC, fun p hp => (List.mem_append.mp hp).elim (fun z => I.pin p (List.mem_append_left _ z)) fun z => I.pin p (List.mem_append_right _ (List.mem_cons_of_mem _ z)), I.hok, I.len⟩
theorem sup_stmt {C f c cc a : Addr} {fd : FuncData} {body : List Stmt} {e : Expr} {ta : TA} {p0 p1 p2 p3 p4 : Pos} {R : List V → Hp → Prop} {Q : Flow → Shared → Prop} (T : OexC X.K C) (F : SupF X.prog X.K X.mg C f c cc fd)
    (hfu : X.env.func = some f) (hco : X.env.code = .ref c) (hce : X.env.cells.lookup ("__class__" : Str) = some cc) (hks : X.env.kindOf "super" = some .globalImplicit) (hkc : X.env.kindOf "__class__" = some .free) (hka : X.env.kindOf "self" = some .local)
    (hN : X.N[0]? = some ("self" : Str)) (I : Inv X pins σ H s) (h0 : σ[0]? = some (some (.ref a))) (ha : H a = some (exo a C none)) (he : PA X [e] ta) (h : ta σ H fun vs H1 => vs.length ≤ 1000 ∧ H1 a = some (exo a C none) ∧ R vs H1)
    (q : ∀ s' y H1, Inv X pins σ H1 s' → R y H1 → Q .next s') (hi : interactive X.env = false := by rfl) (hs : swapsWith (.Call (.Attribute (.Call (.Name "super" p0) [] [] p1) "__init__" p2) [e] [] p3) none p4.line X.env = pure false := by rfl)
    (hst : starEach [e] X.env = (false, eval e X.env) :: starEach [] X.env := by rfl)
    {pl : Sem Bool} (hev : eval (.Call (.Attribute (.Call (.Name "super" p0) [] [] p1) "__init__" p2) [e] [] p3) X.env = (do
      let ov ← attributeBase (.Call (.Name "super" p0) [] [] p1) "__init__" X.env (eval (.Call (.Name "super" p0) [] [] p1) X.env)
      standAt p2.atName
      let (f, first) ← holding [ov] (getMethod ov "__init__" pl)
      callWith p3 f first (backTo p3 (starEach [e] X.env)) []) := by rfl) :
    _root_.PySem.wpAt (model X.prog X.w) X.A (.func body X.env) (exec (.Expr (.Call (.Attribute (.Call (.Name "super" p0) [] [] p1) "__init__" p2) [e] [] p3) p4) X.env) Q X.xe s := by
  obtain ⟨nm, qn, N, bs, bm, sn, sub, ab, col, dd, k0, k1, k2, k3, k5, hC, hbm⟩ := T.cls
  obtain ⟨oc, od, osl, lf⟩ := F.fn
  obtain ⟨ar, hp, har⟩ := F.par
  obtain ⟨ccl, cdd, vs, ccs, file, tf, lc, hvs, hfile⟩ := F.code
  obtain ⟨cl, cld, csl, lcc⟩ := F.cell
  obtain ⟨mb, hb1, hb2⟩ := I.mod.blt
  refine ks_wpAt_Expr_any (ks_wpAt_MethodCall (pl := pl) (ks_wpAt_super_base hks hkc (by decide) hfu (I.kIn _ _ lf) rfl hp hco (I.kIn _ _ lc) rfl hvs hfile F.top ?_) hev) hi hs
  refine ks_loadName_global I.ok.kind hks (loadGlobal_builtin (by rw [I.ok.glob]; exact I.mod.glob.keeps I.bk) F.nos (by rw [I.ok.blt]; exact hb1.keeps I.bk) ((hb2 _ (by decide)).trans (by decide +kernel)) ⟨rfl, ?_⟩)
  refine wpAny_loadName_free I.ok.kind hkc hce ⟨_, I.kIn _ _ lcc, rfl⟩ ?_
  obtain ⟨ml, hns, hlk⟩ := I.loc
  obtain ⟨u0, ru, lk⟩ := hlk 0 "self" (.ref a) hN h0 (.inl hka)
  obtain rfl : u0 = Value.ref a := ru
  have hv : ml "self" = some (.ref a) := lk.elim (fun z => z.2) fun z => by
    rcases z.1 with y | y <;> · rw [hka] at y; cases y
  rw [har]
  refine wpAny_loadName_local I.ok.kind hka hns hv ?_
  obtain ⟨t1, ho⟩ := exo_at I.hok ha
  have hcl : PySem.W.clsIn X.K C = some { name := nm, bases := bs, mro := .ref C :: bm, ns := N, qualname := qn, hasDict := true, slotNames := sn, subclasses := sub, abstract := ab, collection := col, hasDel := false } := by unfold PySem.W.clsIn; rw [hC] <;> rfl
  have kin := I.kIn
  have hfr := I.hok
  obtain ⟨hp0, g, dr, tk, os⟩ := s
  refine ks_wpAny_isType_cls (kin _ _ hC) rfl ⟨rfl, ks_wpAny_call_super (kin _ _ hC) rfl ho rfl (fun c z => by cases z) (looks_mroIn kin F.sub) fun h1 e1 kp1 => ?_⟩
  have I1 : L2.Inv X pins σ H ⟨h1, g, dr, tk, os⟩ := I.kept (t' := tk) kp1
  have hal : alongIn X.K "__init__" bm = some (some wr) := by
    have z := F.al
    unfold ks_superIn at z
    rw [hcl, Option.bind_some, ESX.drop_own] at z
    exact z
  have J1 : InstAt h1 a (HandSPX.excO C t1) C none := ⟨kp1 _ _ ho, rfl, rfl, trivial⟩
  have hbm2 : HandSPX.refsVE (.ref C :: bm) = true := hbm
  have hve : PySem.W.mroIn X.K C (.type "ValueError") = some true := by
    unfold PySem.W.mroIn
    rw [hcl, Option.bind_some, if_neg (by rw [HandSPX.refsVE_ne hbm2]; decide), HandSPX.refsVE_contains "ValueError" _ hbm2]
    decide +kernel
  have kin1 := I1.kIn
  refine sup_meth e1 (looks_opaque kin1 F.op) ((looks_clsIn kin1 hcl).andThen .now) (ESX.drop_own C bm) kin1 hal (ks_ne kin1 J1 hcl) (J1.type.andThen (looks_mroIn kin1 hve)) ?_
  have eb : (h1.push (bv a)).get? h1.objs.size = some (bv a) := Heap.get?_push_size _ rfl
  have I2 : L2.Inv X pins σ H ⟨h1.push (bv a), g, dr, tk + 1, os⟩ := I1.kept (t' := tk + 1) fun b o z => Heap.get?_push_of_some _ z
  have I3 := pin1 I2 eb (I1.hok.fresh (Nat.le_refl _)) (Nat.ne_of_gt I1.lt) (I1.nofs (Nat.le_refl _)) (fun v z => nomatch z)
  refine cw_bv (a := a) (thn (he.run p3 _ _ σ H _ I3 h) fun us s2 hz => ?_) hst rfl
  obtain ⟨vs2, H1, I4, r4, hl4, ha4, hr4⟩ := hz
  have hu4 := (I4.pin _ (List.mem_append_right _ List.mem_cons_self)).1
  have kin4 := I4.kIn
  obtain ⟨t4, ho4⟩ := exo_at I4.hok ha4
  obtain ⟨hp4, g4, d4, tk4, os4⟩ := s2
  refine ⟨hu4, call_bv hbm (kin4 _ _ hC) ho4 hu4 (by rw [← r4.length, sizeLine_eq]; omega) fun h5 t5 kp5 ho5 => ?_⟩
  have I5 := I4.write (t' := tk4) (x := a) (e := a) (o := exo a C none) (by rw [ha4]; exact True.intro) (.inl rfl) kp5 ⟨_, ho5⟩ (exo_ok ho5)
  rw [UL.upd_self ha4] at I5
  exact q _ vs2 H1 (unpin1 I5) hr4
end
end UV
set_option Elab.async false
set_option linter.all false
set_option maxRecDepth 100000
set_option maxHeartbeats 4000000
/-! an exception's __init__ that begins with super().__init__(x): its promise by its body -/
namespace UV
open PySem PySem.W PySem.Calls PyProof.Rows L2 NdefX
abbrev supSt (e : Expr) (p0 p1 p2 p3 p4 : Pos) : Stmt := .Expr (.Call (.Attribute (.Call (.Name "super" p0) [] [] p1) "__init__" p2) [e] [] p3) p4
section
variable {CX : CXT} {P : Program} {w : World} {K : PySem.W.Frag} {mg : Str → Option Value} {base : Heap} {k : Nat} {f c cc C : Addr} {name qual : Str} {params : Arguments} {e : Expr} {p0 p1 p2 p3 p4 : Pos} {rest : List Stmt} {scope : Scope}
  {kV doc pm ct oc : Value} {an od : Option Addr} {osl : Array (Option Value)} {N ps : List Str} {sp : Sp}
abbrev supNF (name qual : Str) (params : Arguments) (e : Expr) (p0 p1 p2 p3 p4 : Pos) (rest : List Stmt) (scope : Scope) (cc c : Addr) : NF := ⟨name, qual, params, supSt e p0 p1 p2 p3 p4 :: rest, scope, [("__class__", cc)], c⟩
theorem fn_sup (lk : K.lookup f = some ⟨oc, od, .func (fnX name qual params (supSt e p0 p1 p2 p3 p4 :: rest) scope [("__class__", cc)] .none kV doc pm an (.ref c) ct), osl⟩) (hcd : codeIn K (.ref c) qual = true) (S : NScope N ("self" :: ps) ["__class__"] scope) (T : OexC K C)
    (F : SupF P K mg C f c cc (fnX name qual params (supSt e p0 p1 p2 p3 p4 :: rest) scope [("__class__", cc)] .none kV doc pm an (.ref c) ct)) (hks : scope.names.lookup ("super" : Str) = some .globalImplicit) (len : ∀ vs H Q E, sp vs H Q E → vs.length = ("self" :: ps : List Str).length)
    (hbody : ∀ (A : Around) (outer : List Env) (s : Shared) (H : Hp) (vs : List V) (Q : VK) (E : XK), Room k (A.deeper (envF (supNF name qual params e p0 p1 p2 p3 p4 rest scope cc c) f s.heap.objs.size)) → sp vs H Q E →
      ∃ (a : Addr) (ta : TA) (t : TS), vs.head? = some (.ref a) ∧ H a = some (exo a C none) ∧ PA (ncx CX P w K mg base N (supNF name qual params e p0 p1 p2 p3 p4 rest scope cc c) f A outer s H E) [e] ta ∧
        PSs (ncx CX P w K mg base N (supNF name qual params e p0 p1 p2 p3 p4 rest scope cc c) f A outer s H E) rest t ∧
        ta (startF N vs [some (.ref C)]) H fun us H1 => us.length ≤ 1000 ∧ H1 a = some (exo a C none) ∧ t { nx := fun _ H' => Q .non H', rt := Q } (startF N vs [some (.ref C)]) H1)
    (hi : ∀ L, interactive (envF (supNF name qual params e p0 p1 p2 p3 p4 rest scope cc c) f L) = false := by intro _; rfl) (hs : ∀ env, swapsWith (.Call (.Attribute (.Call (.Name "super" p0) [] [] p1) "__init__" p2) [e] [] p3) none p4.line env = pure false := by intro _; rfl)
    (hst : ∀ env, starEach [e] env = (false, eval e env) :: starEach [] env := by intro _; rfl) {pl : Sem Bool} (hev : ∀ env, eval (.Call (.Attribute (.Call (.Name "super" p0) [] [] p1) "__init__" p2) [e] [] p3) env = (do
      let ov ← attributeBase (.Call (.Name "super" p0) [] [] p1) "__init__" env (eval (.Call (.Name "super" p0) [] [] p1) env)
      standAt p2.atName
      let (f, first) ← holding [ov] (getMethod ov "__init__" pl)
      callWith p3 f first (backTo p3 (starEach [e] env)) []) := by intro _; rfl) :
    FnOk P w K mg base CX (k + 1) f (fnX name qual params (supSt e p0 p1 p2 p3 p4 :: rest) scope [("__class__", cc)] .none kV doc pm an (.ref c) ct) ("self" :: ps) sp := by
  refine ⟨len, fun A outer s H args us vs Q E hr e0 hb r hsp => ?_⟩
  have hl := len _ _ _ _ hsp
  have KX : K.In s.heap := e0.mod.kin.keeps fun b o z => (e0.bs b o z).1
  have lim : s.heap.NoLimit := e0.mod.nolimit.keeps fun b o z => (e0.bs b o z).1
  obtain ⟨cl, cld, csl, lcc⟩ := F.cell
  have hcc := e0.bs _ _ (e0.mod.kin _ _ lcc)
  have CA : CellsAt [(("__class__" : Str), cc)] ["__class__"] [some (V.ref C)] s.heap H := by
    have one : ∀ y c', List.lookup y [(("__class__" : Str), cc)] = some c' → c' = cc ∧ y = "__class__" := fun y c' z => by
      by_cases hy : y = "__class__"
      · subst hy; simp at z; exact ⟨z.symm, rfl⟩
      · have : (y == ("__class__" : Str)) = false := by simpa using hy
        simp [List.lookup, this] at z
    refine ⟨rfl, fun y c' z => ?_, fun x y c' zx zy => ?_, fun i y z => ?_⟩
    · obtain ⟨rfl, _⟩ := one y c' z
      exact ⟨hcc.2, _, _, hcc.1, rfl⟩
    · rw [(one x c' zx).2, (one y c' zy).2]
    · cases i with
      | zero =>
        cases z
        exact ⟨cc, by simp [List.lookup], fun v zv => by cases zv; exact ⟨.ref C, rfl, _, hcc.1, rfl⟩⟩
      | succ i => simp at z
  refine codeAny_call_function hr.depth (KX _ _ lk) rfl S.co S.gen rfl (codeRec_of KX hcd) (hb _ _ _ _ ?_)
  refine wpAny_newFunctionEnv S.nocell (fun ⟨n, _⟩ hy => S.par n (List.of_mem_zip hy).1) (fun h₁ hns hsb => ⟨lim.fresh _ hsb, ?_⟩) S.kind
  show codeAny _ _ (.func (supSt e p0 p1 p2 p3 p4 :: rest) (envF (supNF name qual params e p0 p1 p2 p3 p4 rest scope cc c) f s.heap.objs.size)) _ _
  refine ks_codeAny_funcAt ?_
  have kp : ∀ b o, s.heap.get? b = some o → h₁.get? b = some o := fun b o z => hsb.extBut b o (Nat.ne_of_lt (Heap.lt_size z)) (Heap.get?_push_of_some _ z)
  obtain ⟨a, ta, t, hva, ha, pa, ht, hq⟩ := hbody A outer s H vs Q E (hr.deeper _) hsp
  have I : L2.Inv (ncx CX P w K mg base N (supNF name qual params e p0 p1 p2 p3 p4 rest scope cc c) f A outer s H E) [] (startF N vs [some (.ref C)]) H { s with heap := h₁, toks := s.toks + ((("self" : Str) :: ps).zip us).length } := inv_startN S hr.hd e0 hl r CA hns kp
  have hN : N[0]? = some ("self" : Str) := by
    have z := congrArg (fun l : List Str => l[0]?) S.pre
    simp only [List.cons_append, List.getElem?_cons_zero] at z
    rw [List.getElem?_take_of_lt (by simp)] at z
    exact z
  have h0 : (startF N vs [some (V.ref C)])[0]? = some (some (.ref a)) := by
    cases vs with
    | nil => cases hva
    | cons v r => cases hva; rfl
  have hkF : ∀ (x : Str) (nk : NameKind), scope.names.lookup x = some nk → (ncx CX P w K mg base N (supNF name qual params e p0 p1 p2 p3 p4 rest scope cc c) f A outer s H E).env.kindOf x = some nk := fun x nk z => z
  refine ks_wpAt_mono (ks_wpAt_execs_cons (sup_stmt (X := ncx CX P w K mg base N (supNF name qual params e p0 p1 p2 p3 p4 rest scope cc c) f A outer s H E) (R := fun _ H1 => t { nx := fun _ H' => Q .non H', rt := Q } (startF N vs [some (V.ref C)]) H1) T F rfl rfl (by show List.lookup _ [_] = _; simp [List.lookup]) (hkF _ _ hks) (hkF _ _ (S.frk _ List.mem_cons_self)) (hkF _ _ (S.par _ List.mem_cons_self)) hN I h0 ha pa hq
    (fun s' us' H1 I1 h1 => _root_.PySem.wpAt_of_wpAny (ht.run [] s' _ H1 _ I1 h1)) (hi _) (hs _) (hst _) (hev _))) (fun fl s' hs => ?_) fun e s' hs => hs
  have fin : ∀ {σ' : L2.St} {H' : Hp} {v : V} {u : Value}, L2.Inv (ncx CX P w K mg base N (supNF name qual params e p0 p1 p2 p3 p4 rest scope cc c) f A outer s H E) [] σ' H' s' → L2.RelV v u → Q v H' → CE outer P w H s Q u s' :=
    fun {σ' H' v u} J rv q => ⟨v, H', J.os, J.bare, J.base, J.hok, rv, q⟩
  cases fl with
  | next => obtain ⟨σ', H', J, z⟩ := hs; exact fin (v := V.non) (u := Value.none) J rfl z
  | ret u => obtain ⟨v, σ', H', J, rv, z⟩ := hs; exact fin J rv z
  | brk => obtain ⟨_, _, _, z⟩ := hs; exact z.elim
  | cont => obtain ⟨_, _, _, z⟩ := hs; exact z.elim
end
end UV
set_option Elab.async false
set_option linter.all false
set_option maxRecDepth 100000
set_option maxHeartbeats 4000000
/-! isinstance of a caught exception that has a dict; several except clauses, each `as n` -/
namespace UV
open PySem PySem.W PySem.Calls PyProof.Rows L2
/-! ### several except clauses, each `as n` -/
end UV
set_option Elab.async false
set_option linter.all false
set_option maxRecDepth 100000
set_option maxHeartbeats 4000000
/-! calls in a try's body: what is raised is wished for at the caller's slots -/
namespace UV
open PySem PySem.Spec PyProof.Rows L2 UL
end UV
set_option Elab.async false
set_option linter.all false
set_option maxRecDepth 100000
set_option maxHeartbeats 4000000
/-! o.f = v by a property's own setter -/
namespace UW
open PySem PySem.Spec PyProof.Rows L2 UL UV
end UW
set_option Elab.async false
set_option linter.all false
set_option maxRecDepth 100000
set_option maxHeartbeats 4000000
/-! raise C(..) from D(..) -/
namespace UW
open PySem PySem.Spec PyProof.Rows L2 UL UV
section
variable {X : Cx} {pins : List (Addr × Obj)} {σ : L2.St} {H : Hp} {s : Shared} {G : Heap} {a : Addr}
/-- one thing that is not tracked is hidden -/
theorem unseen (J : Inv X pins σ H s) (h0 : X.s_0.heap.get? a = none) (na : H a = none) (nl : a ≠ X.env.locals) (nc : ∀ x c, X.env.cells.lookup x = some c → c ≠ a) (np : ∀ p ∈ X.pn ++ pins, p.1 ≠ a) (gk : ∀ b, b ≠ a → G.get? b = s.heap.get? b) :
    Inv X pins σ H { s with heap := G } := by
  have n0 : ∀ {b : Addr} {o : Obj}, X.s_0.heap.get? b = some o → b ≠ a := fun {b o} z q => by rw [q, h0] at z; cases z
  have nt : ∀ {b : Addr} {o : HO}, H b = some o → b ≠ a := fun {b o} z q => by rw [q, na] at z; cases z
  have ic : ∀ {x c v}, X.env.cells.lookup x = some c → s.heap.IsCell c v → G.IsCell c v := fun {x c v} z q => let ⟨o, e, d⟩ := q; ⟨o, (gk c (nc x c z)).trans e, d⟩
  obtain ⟨m, hn, hl⟩ := J.loc
  refine ⟨J.ok, J.os, J.bare, ⟨fun b o e n hb hx => (gk b (n0 e)).trans (J.base.keep b o e n hb hx), fun b o e n hb hx => let ⟨sl, z⟩ := J.base.slot b o e n hb hx; ⟨sl, (gk b (n0 e)).trans z⟩, J.base.free, fun b o e hx => let ⟨u, z⟩ := J.base.there b o e hx; ⟨u, (gk b (n0 e)).trans z⟩, J.base.tups, J.base.frzs, J.base.tbls⟩,
    ⟨m, hn.at fun o z => (gk _ (Ne.symm nl)).trans z, fun i x v e1 e2 e3 => ?_⟩, fun x c z => let ⟨v, q⟩ := J.cell x c z; ⟨v, ic z q⟩, J.free, J.freeC, fun p hp => let ⟨e, n, l, f, d⟩ := J.pin p hp; ⟨(gk _ (np p hp)).trans e, n, l, f, d⟩, fun b o z => ?_, J.len⟩
  · obtain ⟨u, ru, lk⟩ := hl i x v e1 e2 e3
    exact ⟨u, ru, lk.elim .inl fun ⟨k, c, ce, q⟩ => .inr ⟨k, c, ce, ic ce q⟩⟩
  · refine (J.hok b o z).stay (fun c u hc q => (gk c ?_).trans q) (fun _ q => q) fun _ _ q => q
    rcases hc with hc | hc
    · rw [hc]; exact nt z
    · exact nt hc
/-- behind the two stores -/
def tied (h : Heap) (a : Addr) (u : Value) : Heap := (h.update a (Obj.mapFields (·.setIfInBounds 3 u))).update a (Obj.mapFields (·.setIfInBounds 4 (.bool true)))
theorem tied_other {h : Heap} {b : Addr} {u : Value} (n : a ≠ b) : (tied h a u).get? b = h.get? b := by
  unfold tied; rw [Heap.get?_update_other _ _ n, Heap.get?_update_other _ _ n]
theorem tied_at {h : Heap} {u : Value} {oe : Obj} {vs : Array Value} (ha : h.get? a = some oe) (hd : oe.data = .fields vs) :
    (tied h a u).get? a = some ((oe.mapFields (·.setIfInBounds 3 u)).mapFields (·.setIfInBounds 4 (.bool true))) ∧ ((oe.mapFields (·.setIfInBounds 3 u)).mapFields (·.setIfInBounds 4 (.bool true))).data = .fields ((vs.setIfInBounds 3 u).setIfInBounds 4 (.bool true)) := by
  have d3 := Obj.data_mapFields hd (·.setIfInBounds 3 u)
  have g3 := Heap.get?_update_self (Obj.mapFields (·.setIfInBounds 3 u)) ha (Obj.isFreed_of_fields d3)
  have d4 := Obj.data_mapFields d3 (·.setIfInBounds 4 (.bool true))
  exact ⟨Heap.get?_update_self (Obj.mapFields (·.setIfInBounds 4 (.bool true))) g3 (Obj.isFreed_of_fields d4), d4⟩
theorem raise_cause {prog : Program} {w : World} {A : Around} {E : Value → Shared → Prop} {env : Env} {s : Shared} {x c : Sem Value} {Q : Flow → Shared → Prop} (hh : A.handled = none)
    (h : wpAny (model prog w) A x (fun v s₁ => wpAny (model prog w) A c (fun u s₂ => ∃ a oe vs cls b ob ws cb, v = .ref a ∧ u = .ref b ∧ s₂.heap.get? a = some oe ∧ oe.cls = cls ∧ oe.data = .fields vs ∧ vs[1]? = some .none ∧ 4 < vs.size ∧
      s₂.heap.get? b = some ob ∧ ob.cls = cb ∧ ob.data = .fields ws ∧ PySem.W.Looks (model prog w) s₂.heap (isSubtype cls (.type "BaseException")) true ∧ PySem.W.Looks (model prog w) s₂.heap (isSubtype cb (.type "BaseException")) true ∧
      PySem.W.Looks (model prog w) (tied s₂.heap a (.ref b)) (typeOf cls) (.type "type") ∧ E (.ref a) { s₂ with heap := tied s₂.heap a (.ref b) }) E s₁) E s) :
    wpAny (model prog w) A (raiseStmt env (some x) (some c)) Q E s := by
  unfold raiseStmt
  dsimp only
  refine wpAny_bind (wpAny_mono h (fun v s₁ h₁ => ?_) fun _ _ x => x)
  refine wpAny_bind (wpAny_holding (wpAny_mono h₁ (fun u s₂ h₂ => wpAny_bind (wpAny_pure ?_)) fun _ _ x => x))
  obtain ⟨a, oe, vs, cls, b, ob, ws, cb, rfl, rfl, ha, hcls, hd, h1, hi, hb, hcb, hdb, L1, L2, L3, hE⟩ := h₂
  have LT : PySem.W.Looks (model prog w) s₂.heap (typeOf (.ref a)) cls := fun A Q E s k q => wpAny_typeOf_ref (k _ _ ha) (by rw [hcls]; exact q)
  have LU : PySem.W.Looks (model prog w) s₂.heap (typeOf (.ref b)) cb := fun A Q E s k q => wpAny_typeOf_ref (k _ _ hb) (by rw [hcb]; exact q)
  have LI : PySem.W.Looks (model prog w) s₂.heap (isInstance (.ref a) (.type "BaseException")) true := LT.andThen L1
  have LJ : PySem.W.Looks (model prog w) s₂.heap (isInstance (.ref b) (.type "BaseException")) true := LU.andThen L2
  have nota : ∀ {A' : Around} {E' : Value → Shared → Prop} {h' : Heap} {o' : Obj} {c' : Addr} {zs : Array Value} {Q' : Bool → Shared → Prop}, h'.get? c' = some o' → o'.data = .fields zs → Q' false { s₂ with heap := h' } → wpAny (model prog w) A' (isType (.ref c')) Q' E' { s₂ with heap := h' } := by
    intro A' E' h' o' c' zs Q' z1 z2 hq
    simp only [isType, loadHead]
    refine wpAny_bind (wpAny_loadPart z1 ?_)
    rw [z2]; exact wpAny_pure hq
  have d3 := Obj.data_mapFields hd (·.setIfInBounds 3 (.ref b))
  have g3 := Heap.get?_update_self (Obj.mapFields (·.setIfInBounds 3 (.ref b))) ha (Obj.isFreed_of_fields d3)
  obtain ⟨g4, d4⟩ := tied_at (u := .ref b) ha hd
  have s3 : 3 < vs.size := by omega
  have s4 : 4 < (vs.setIfInBounds 3 (Value.ref b)).size := by simpa using hi
  have h14 : ((vs.setIfInBounds 3 (Value.ref b)).setIfInBounds 4 (Value.bool true))[1]? = some Value.none := HotX.set_other (by decide) (HotX.set_other (by decide) h1)
  have c4 : ((oe.mapFields (·.setIfInBounds 3 (.ref b))).mapFields (·.setIfInBounds 4 (.bool true))).cls = cls := by rw [Obj.cls_mapFields, Obj.cls_mapFields]; exact hcls
  have LT4 : PySem.W.Looks (model prog w) (tied s₂.heap a (.ref b)) (typeOf (.ref a)) cls := fun A Q E s k q => wpAny_typeOf_ref (k _ _ g4) (by rw [c4]; exact q)
  have rest : wpAny (model prog w) A (do
      let b ← isType (.ref a)
      if b = true then do
        let e ← holding [.ref a] (raisedFor (.ref a) (.ref a))
        setFlight e none
        raiseNew e
      else do
        let e ← raisedInstance (.ref a)
        setFlight e none
        raiseNew e : Sem Flow) Q E { s₂ with heap := tied s₂.heap a (.ref b) } := by
    refine wpAny_bind (nota g4 d4 ?_)
    simp only [Bool.false_eq_true, if_false]
    unfold raisedInstance
    refine wpAny_bind (wpAny_bind (LT4.here (wpAny_bind (L3.here ?_))))
    rw [if_pos (beq_self_eq_true _)]
    refine wpAny_pure ?_
    unfold setFlight raiseNew
    refine wpAny_bind (wpAny_bind (wpAny_field g4 d4 h14 ?_))
    rw [if_neg (by decide)]
    refine wpAny_pure (wpAny_bind (wpAny_handled ?_))
    rw [hh]
    first
      | exact wpAny_throw hE
      | exact wpAny_bind (wpAny_pure (wpAny_throw hE))
  dsimp only
  refine wpAny_bind (wpAny_holding ?_)
  unfold excFromValue isExcClass
  refine wpAny_bind (wpAny_bind (nota ha hd ?_))
  simp only [Bool.false_eq_true, if_false]
  refine wpAny_pure ?_
  simp only [Bool.false_eq_true, if_false]
  refine wpAny_bind (LI.here ?_)
  simp only [if_true]
  refine wpAny_pure ?_
  rw [show (Value.ref b == Value.none) = false from rfl]
  simp only [Bool.false_eq_true, if_false]
  refine wpAny_bind (wpAny_holding ?_)
  refine wpAny_bind (wpAny_bind (nota hb hdb ?_))
  simp only [Bool.false_eq_true, if_false]
  refine wpAny_pure ?_
  simp only [Bool.false_eq_true, if_false]
  refine wpAny_bind (LJ.here ?_)
  simp only [if_true]
  refine wpAny_pure ?_
  first
  | exact wpAny_bind (wpAny_setField ha hd s3 (wpAny_bind (wpAny_setField g3 d3 s4 rest)))
  | exact wpAny_bind (wpAny_bind (wpAny_setField ha hd s3 (wpAny_setField g3 d3 s4 rest)))
end
section
variable {X : Cx} {CX : CXT} {C g : Addr} {k j : Nat} {fd : FuncData} {ps : List Str} {sp : Sp} {x : Str} {e : Expr} {es : List Expr} {ta : TA} {p pos : Pos}
/-- an expression that makes an exception whose record has its six fields -/
def PMkS (X : Cx) (e : Expr) (t : L2.St → Hp → XK → Prop) : Prop := ∀ (pn : List (Addr × Obj)) (s : Shared) (σ : L2.St) (H : Hp) (Q : XK), Inv X pn σ H s → t σ H Q → wpAny (model X.prog X.w) X.A (eval e X.env) (fun u z => MkP X pn σ Q u z ∧ L2H.Six u z) X.xe s
/-- C(e, ..) of an own class over ValueError; its record has its six fields -/
theorem made6 (T : OexC X.K C) (fi : PySem.W.findIn X.K (.ref C) "__init__" = some (some (.ref g))) (ty : PySem.W.typeIn X.K (.ref g) = some (.type "function")) (Fn : FnOk X.prog X.w X.K X.mg X.base CX0 k g fd ps sp) (hr : Room j X.A) (hk : k + 1 ≤ j) (B : Binds X.K fd ps [])
    (hg : Gl X x) (hm : X.mg x = some (.ref C)) (pa : PA X (e :: es) ta) (hdb : (x == ("__debug__" : Str)) = false := by decide) (hst : starEach (e :: es) X.env = (false, eval e X.env) :: starEach es X.env := by rfl) (hpl : (backTo pos (starEach es X.env)).any (·.1) = false := by rfl) :
    PMkS X (.Call (.Name x p) (e :: es) [] pos) (tMkO C sp [] ta) := by
  intro pn z0 sg H0 Qx I0 w0
  obtain ⟨nm, q, N, bs, bm, sn, sub, ab, col, dd, k0, k1, k2, k3, k5, lkC, bmE⟩ := T.cls
  refine wpAny_Call_Name_kw (ld_glob I0 hg hm ?_ hdb)
  refine PySem.W.callWith_K (h₀ := X.base) I0.ok.mod.kin T.kC (thn (pa.run pos pn z0 sg H0 _ I0 w0) fun us z1 ⟨vs, Ha, Ia, ra, la, qa⟩ => ⟨Ia.kIn, ?_⟩) hst hpl
  show wpAny _ _ (call (.ref C) us) _ _ _
  obtain ⟨hz, gz, dz, tz, oz⟩ := z1
  have le1 : hz.objs.size ≤ hz.objs.size + 1 := Nat.le_succ _
  have fresh := Ia.hok.fresh le1
  have want := qa (hz.objs.size + 1) fresh
  have kp : ∀ b o, hz.get? b = some o → ((hz.push (PySem.W.kdv_tup us)).push (PySem.HandSPX.excO C hz.objs.size)).get? b = some o := fun b o e => Heap.get?_push_of_some _ (Heap.get?_push_of_some _ e)
  have at2 : ((hz.push (PySem.W.kdv_tup us)).push (PySem.HandSPX.excO C hz.objs.size)).get? (hz.objs.size + 1) = some (PySem.HandSPX.excO C hz.objs.size) := by heap_get
  have Ib : Inv X pn sg (upd Ha (hz.objs.size + 1) (exo (hz.objs.size + 1) C none)) ⟨((hz.push (PySem.W.kdv_tup us)).push (PySem.HandSPX.excO C hz.objs.size)), gz, dz, tz, oz⟩ := Ia.laid (t' := tz) (a := hz.objs.size + 1) (o := exo (hz.objs.size + 1) C none) (h' := ((hz.push (PySem.W.kdv_tup us)).push (PySem.HandSPX.excO C hz.objs.size))) kp le1 (exo_ok at2)
  have rb : Vals (V.ref (hz.objs.size + 1) :: (vs ++ [])) (Value.ref (hz.objs.size + 1) :: (us ++ [])) := .cons rfl (ra.append .nil)
  have lb : (Value.ref (hz.objs.size + 1) :: us ++ []).length = ps.length := by
    have z := rb.length
    rw [Fn.len _ _ _ _ want] at z
    exact z.symm
  have bb : BindsTo ⟨((hz.push (PySem.W.kdv_tup us)).push (PySem.HandSPX.excO C hz.objs.size)), gz, dz, tz, oz⟩ fd ⟨Value.ref (hz.objs.size + 1) :: us, []⟩ (ps.zip (Value.ref (hz.objs.size + 1) :: (us ++ []))) := B _ (Value.ref (hz.objs.size + 1) :: us) Ib.kIn lb
  have lus : us.length ≤ sizeLine := by
    rw [← Paired.length ra, sizeLine_eq]; omega
  refine wpAny_call (PySem.HandSPX.call_own F.excBase_ValueError (fun Y => PySem.HandSPX.refsVE_contains Y bm bmE) (Ia.kIn _ _ lkC) (PySem.W.looks_findIn Ia.kIn fi) (fun self => PySem.W.bind_fn Ia.kIn self ty) lus
    (codeAny_mono (Fn.run _ X.stack _ _ ⟨Value.ref (hz.objs.size + 1) :: us, []⟩ (Value.ref (hz.objs.size + 1) :: (us ++ [])) _ _ (fun _ _ _ => False) ((hr.mono hk).make C us []) (Ib.env0.make C us []) bb rb want) fun r z3 hq => ?_))
  match r, hq with
  | .error er, hq => exact hq.elim
  | .ok (.ret u), hq =>
    obtain ⟨v, H3, os3, bare3, un3, hok3, rv, ev, d, fs, ea, ed, hd1, q3⟩ := hq
    subst ev
    obtain ⟨h3, g3, d3, t3, o3⟩ := z3
    obtain ⟨t0, hoe⟩ := exo_at hok3 ea
    refine ⟨rv, mk_end (raises_own T.exC T.tyC) Ia le1 kp un3 hok3 os3 bare3 ea ed hd1 q3, fun a' oe' vs' e1 e2 e3 => ?_⟩
    cases e1
    have e4 := hoe.symm.trans e2
    cases e4
    cases e3
    show (4 : Nat) < 6
    decide
  | .ok .next, hq | .ok .brk, hq | .ok .cont, hq => exact hq.elim
/-- raise e from c -/
theorem ps_raiseFrom {W : WX} {c : Expr} {te tc : L2.St → Hp → XK → Prop} (hc : X.calm = true) (hex : X.ex = []) (tk : Takes X W) (he : PMkS X e te) (hcs : PMk X c tc) :
    PS X (.Raise (some e) (some c) pos) (fun _ σ H => te σ H fun cls d H1 => tc σ H1 fun _ _ H2 => W cls d σ H2) := by
  refine ⟨fun pins s σ H D I h => ?_⟩
  show wpAny _ _ (do standAt pos; raiseStmt X.env (some (do let v ← eval e X.env; standAt pos; pure v)) (some (do let v ← eval c X.env; standAt pos; pure v))) _ _ _
  refine wpAny_bind (wpAny_standAt (raise_cause (I.ok.hd hc) (wpAny_bind (wpAny_mono (he pins s σ H _ I h) (fun u s1 hu => wpAny_bind (wpAny_standAt (wpAny_pure ?_))) fun _ _ x => x))))
  obtain ⟨⟨a, oe, vs, sI, H1, cls, d, rfl, J, kI, hne, ha, hz, hd, h1, na, os, ag, r, q⟩, h6⟩ := hu
  have hi : 4 < vs.size := h6 a oe vs rfl ha hd
  have J1 : Inv X pins σ H1 s1 := J.call' (ch := []) os (Un.kept kI) (J.hok.kept kI) ag (fun b z => absurd z (by simp))
  have s0 : X.s_0.heap.get? a = none := by
    cases z : X.s_0.heap.get? a with
    | none => rfl
    | some o =>
      obtain ⟨o', z'⟩ := J.base.there a o z (by rw [hex]; simp)
      rw [hne] at z'; cases z'
  have nl : a ≠ X.env.locals := fun z => by
    obtain ⟨m, ⟨o, _, _, e', _⟩, _⟩ := J.loc
    rw [← z, hne] at e'; cases e'
  have nf : a ∉ X.fs := fun hm => by
    obtain ⟨_, o', e', _⟩ := J.ok.funs.mem hm
    rw [s0] at e'; cases e'
  have nc : ∀ x c, X.env.cells.lookup x = some c → c ≠ a := fun x c z q => by
    obtain ⟨v, o, e', _⟩ := J.cell x c z
    rw [q, hne] at e'; cases e'
  have np : ∀ p ∈ X.pn ++ pins, p.1 ≠ a := fun p hp q => by
    have z := (J.pin p hp).1
    rw [q, hne] at z; cases z
  have J2 := pin1 J1 ha na nl nf (fun v z => by rw [hd] at z; cases z)
  refine wpAny_bind (wpAny_mono (hcs ((a, oe) :: pins) s1 σ H1 _ J2 q) (fun u s2 hu2 => wpAny_bind (wpAny_standAt (wpAny_pure ?_))) fun _ _ x => x)
  obtain ⟨b, ob, ws, sJ, H2, cb, db, rfl, K2, k2, hnb, hb, hzb, hdb, hb1, nb, os2, ag2, rb, q2⟩ := hu2
  obtain ⟨pa, na2, _⟩ := K2.pin (a, oe) (List.mem_append_right _ List.mem_cons_self)
  have ha2 : s2.heap.get? a = some oe := k2 _ _ pa
  obtain ⟨G, g1, g2⟩ := restrict sJ.heap fun b => decide (b ≠ a)
  have gk : ∀ b, b ≠ a → G.get? b = sJ.heap.get? b := fun b hb => g1 b (decide_eq_true hb)
  have ge : G.get? a = none := g2 a (by simp)
  have K3 : Inv X pins σ H2 { sJ with heap := G } := unseen (unpin1 K2) s0 na2 nl nc np gk
  obtain ⟨g4, d4⟩ := tied_at (u := .ref b) ha2 hd
  have kG : ∀ b' o, G.get? b' = some o → (tied s2.heap a (.ref b)).get? b' = some o := fun b' o z => by
    have n : b' ≠ a := fun y => by rw [y, ge] at z; cases z
    rw [tied_other (Ne.symm n)]
    exact k2 _ _ ((gk b' n).symm.trans z)
  have h14 : ((vs.setIfInBounds 3 (Value.ref b)).setIfInBounds 4 (Value.bool true))[1]? = some Value.none := HotX.set_other (by decide) (HotX.set_other (by decide) h1)
  exact ⟨a, oe, vs, cls, b, ob, ws, cb, rfl, rfl, ha2, hz.1, hd, h1, hi, hb, hzb.1, hdb, (r (model X.prog X.w) _ (K2.kIn.keeps k2)).1, (rb (model X.prog X.w) _ (K2.kIn.keeps k2)).1, (r (model X.prog X.w) _ (K3.kIn.keeps kG)).2,
    tk _ _ (XE.new K3 kG ge g4 ⟨by rw [Obj.cls_mapFields, Obj.cls_mapFields]; exact hz.1, by rw [HandSPX.dict_mapFields, HandSPX.dict_mapFields]; exact hz.2⟩ d4 h14 na2 os2 ag2 q2)⟩
end
end UW
set_option Elab.async false
set_option linter.all false
set_option maxRecDepth 100000
set_option maxHeartbeats 4000000
/-! a def that is handed a caught exception, called in the suite that caught it -/
namespace UW
open PySem PySem.Spec PyProof.Rows L2 UL UV
end UW
set_option Elab.async false
set_option linter.all false
set_option maxRecDepth 100000
set_option maxHeartbeats 4000000
/-! {x} of None; == of flat lists and tuples of ints, texts and None -/
namespace UW
open PySem PySem.Spec PyProof.Rows L2 UL UV
section
variable {X : Cx}
/-- {x}: a text, an int, None -/
def tFmtN (te : TE) : TE := fun σ H Q => te σ H fun x H1 => (∃ y : Str, x = .str y ∧ y.length ≤ sizeLine ∧ Q (.str y) H1) ∨ (∃ i : Int, x = .int i ∧ i.natAbs.log2 < 1920 ∧ Q (.str (toString i)) H1) ∨ (x = .non ∧ Q (.str "None") H1)
theorem pe_fmtN {e : Expr} {te : TE} {pos : Pos} (he : PE X e te) : PE X (.FormattedValue e (-1) none pos) (tFmtN te) := by
  refine ⟨fun pins s σ H Q I h => wpAny_FormattedValue_plain (thn (he.run pins s σ H _ I h) fun v s1 ⟨x, H1, I1, r1, q⟩ => ?_)⟩
  rcases q with ⟨y, rfl, hz, q⟩ | ⟨i, rfl, hz, q⟩ | ⟨rfl, q⟩
  · obtain ⟨t, rfl⟩ := r1
    exact wpAny_formatField_str ⟨.str y, H1, I1, ⟨t, rfl⟩, q⟩ ⟨.str y, H1, I1.tok _, ⟨_, rfl⟩, q⟩ hz
  · obtain ⟨t, rfl⟩ := r1
    exact wpAny_formatField_int hz ⟨.str (toString i), H1, I1.tok _, ⟨_, rfl⟩, q⟩
  · obtain rfl : v = Value.none := r1
    exact wpAny_formatField_none ⟨.str "None", H1, I1.tok _, ⟨_, rfl⟩, q⟩
end
section
variable {K : PySem.W.Frag} {H : Hp} {Q : VK} {a b : Addr} {xs ys : List V}
def fl3 : V → Bool
  | .int _ => true
  | .str x => PyData.strOk x
  | .non => true
  | _ => false
theorem d3_dp {v : V} (h : fl3 v = true) : Dp K H v (dV v) := by
  cases v <;> first | exact .int _ | exact .str _ | exact .non | exact nomatch h
theorem d3_all : ∀ {xs : List V}, xs.all fl3 = true → DpAll K H xs (xs.map dV)
  | [], _ => .nil
  | x :: r, h => by
    rw [List.all_cons, Bool.and_eq_true] at h
    exact .cons (d3_dp h.1) (d3_all h.2)
theorem d3_shape : ∀ {xs : List V}, xs.all fl3 = true → PyData.canLayAll0 (xs.map dV) = true ∧ PyData.depthAll (xs.map dV) ≤ 1
  | [], _ => by simp [PyData.canLayAll0, PyData.depthAll]
  | x :: r, h => by
    rw [List.all_cons, Bool.and_eq_true] at h
    have ih := d3_shape (xs := r) h.2
    have h0 : PyData.canLay0 (dV x) = true ∧ PyData.depth (dV x) ≤ 1 := by cases x <;> simp_all [dV, fl3, PyData.canLay0, PyData.depth]
    simp only [List.map_cons, PyData.canLayAll0, PyData.depthAll, h0.1, ih.1, Bool.and_self, true_and]
    omega
theorem d3_eq {x y : V} (hx : fl3 x = true) (hy : fl3 y = true) : PyData.eqv (dV x) (dV y) = decide (x = y) := by
  cases x <;> cases y <;> simp_all [fl3, dV, PyData.eqv] <;> rw [Bool.eq_iff_iff] <;> simp
theorem d3_eqAll : ∀ {xs ys : List V}, xs.all fl3 = true → ys.all fl3 = true → PyData.eqvAll (xs.map dV) (ys.map dV) = decide (xs = ys)
  | [], [], _, _ => by simp [PyData.eqvAll]
  | [], _ :: _, _, _ => by simp [PyData.eqvAll]
  | _ :: _, [], _, _ => by simp [PyData.eqvAll]
  | x :: r, y :: t, h1, h2 => by
    rw [List.all_cons, Bool.and_eq_true] at h1 h2
    rw [List.map_cons, List.map_cons, PyData.eqvAll, d3_eq h1.1 h2.1, d3_eqAll h1.2 h2.2, Bool.eq_iff_iff]
    simp
theorem l3_shape {xs : List V} (hf : xs.all fl3 = true) : SeqAt.shaped (.list (xs.map dV)) = true ∧ SeqAt.shaped (.tuple (xs.map dV)) = true := by
  have h := d3_shape hf
  have h2 := h.2
  have h1 : PyData.canLay0 (.list (xs.map dV)) = true := by rw [PyData.canLay0]; exact h.1
  have h3 : PyData.depth (.list (xs.map dV)) ≤ 64 := by rw [PyData.depth]; omega
  have h4 : PyData.canLay0 (.tuple (xs.map dV)) = true := by rw [PyData.canLay0]; exact h.1
  have h5 : PyData.depth (.tuple (xs.map dV)) ≤ 64 := by rw [PyData.depth]; omega
  refine ⟨?_, ?_⟩
  · show (_ && _) = true
    rw [h1, decide_eq_true h3]; rfl
  · show (_ && _) = true
    rw [h4, decide_eq_true h5]; rfl
/-- == and != of two lists, two tuples -/
theorem eqL3 (hx : xs.all fl3 = true) (hy : ys.all fl3 = true) (ha : SqL K H a xs) (hb : SqL K H b ys) (q : Q (.bl (decide (xs = ys))) H) : rEqA K (.ref a) (.ref b) H Q :=
  .inr ⟨_, _, .lst ha (d3_all hx), .lst hb (d3_all hy), (l3_shape hx).1, (l3_shape hy).1, by rw [PyData.eqv, d3_eqAll hx hy]; exact q⟩
theorem neT3 (hx : xs.all fl3 = true) (hy : ys.all fl3 = true) (ha : SqT K H a xs) (hb : SqT K H b ys) (q : Q (.bl (!decide (xs = ys))) H) : rNeA K (.ref a) (.ref b) H Q :=
  .inr ⟨_, _, .tup ha (d3_all hx), .tup hb (d3_all hy), (l3_shape hx).2, (l3_shape hy).2, by rw [PyData.eqv, d3_eqAll hx hy]; exact q⟩
end
end UW
set_option Elab.async false
set_option linter.all false
set_option maxRecDepth 100000
set_option maxHeartbeats 4000000
/-! with an own context manager, whose block may raise -/
namespace UW
open PySem PySem.Spec PyProof.Rows L2 UL UV
end UW
set_option Elab.async false
set_option linter.all false
set_option maxRecDepth 100000
set_option maxHeartbeats 4000000
/-! an own exception without arguments: raised, caught, asked for its class -/
namespace UW
open PySem PySem.Spec PyProof.Rows L2 UL UV
section
variable {X : Cx} {pins : List (Addr × Obj)} {σ : L2.St} {H : Hp} {s : Shared} {G : Heap} {a C : Addr} {d : Option Addr}
/-- a tracked record is let go and hidden -/
theorem forget (J : Inv X pins σ H s) (ha : H a = some (exo a C d)) (h0 : X.s_0.heap.get? a = none) (gk : ∀ b, b ≠ a → G.get? b = s.heap.get? b) : Inv X pins σ (del H a) { s with heap := G } := by
  have n0 : ∀ {b : Addr} {o : Obj}, X.s_0.heap.get? b = some o → b ≠ a := fun {b o} z q => by rw [q, h0] at z; cases z
  have nn : ∀ {b : Addr}, H b = none → b ≠ a := fun {b} z q => by rw [q, ha] at z; cases z
  have dn : ∀ {b : Addr}, H b = none → del H a b = none := fun {b} z => by rw [del_ne (nn z)]; exact z
  have ic : ∀ {x c v}, X.env.cells.lookup x = some c → s.heap.IsCell c v → G.IsCell c v := fun {x c v} z q => let ⟨o, e, y⟩ := q; ⟨o, (gk c (nn (J.freeC x c z))).trans e, y⟩
  obtain ⟨m, hn, hl⟩ := J.loc
  refine ⟨J.ok, J.os, J.bare, ⟨fun b o e n hb hx => (gk b (n0 e)).trans (J.base.keep b o e n hb hx), fun b o e n hb hx => let ⟨sl, z⟩ := J.base.slot b o e n hb hx; ⟨sl, (gk b (n0 e)).trans z⟩, fun b o e n hx => dn (J.base.free b o e n hx), fun b o e hx => let ⟨u, z⟩ := J.base.there b o e hx; ⟨u, (gk b (n0 e)).trans z⟩,
      fun b xs e => ?_, fun b o u e => ?_, fun b ps e => ?_⟩, ⟨m, hn.at fun o z => (gk _ (nn J.free)).trans z, fun i x v e1 e2 e3 => ?_⟩, fun x c z => let ⟨v, q⟩ := J.cell x c z; ⟨v, ic z q⟩, dn J.free, fun x c z => dn (J.freeC x c z), fun p hp => let ⟨e, n, l, f, y⟩ := J.pin p hp; ⟨(gk _ (nn n)).trans e, dn n, l, f, y⟩, fun b o z => ?_, J.len⟩
  · have z := J.base.tups b xs e
    rw [del_ne (at_ne ha z exo_tup)]; exact z
  · have z := J.base.frzs b o u e
    rw [del_ne (at_ne ha z exo_frz)]; exact z
  · obtain ⟨more, z⟩ := J.base.tbls b ps e
    exact ⟨more, by rw [del_ne (at_ne ha z exo_tbl)]; exact z⟩
  · obtain ⟨u, ru, lk⟩ := hl i x v e1 e2 e3
    exact ⟨u, ru, lk.elim .inl fun ⟨k, c, ce, q⟩ => .inr ⟨k, c, ce, ic ce q⟩⟩
  · have hb : b ≠ a := fun q => by rw [q, del_same] at z; cases z
    rw [del_ne hb] at z
    refine (J.hok b o z).stay (fun c u hc q => (gk c ?_).trans q) (fun c hc => ?_) fun c xs hc => ?_
    · rcases hc with hc | hc
      · rw [hc]; exact hb
      · exact at_ne ha hc exo_own
    · rw [del_ne (at_ne ha hc exo_own)]; exact hc
    · rw [del_ne (at_ne ha hc exo_tup)]; exact hc
end
section
variable {X : Cx} {C g : Addr} {k j : Nat} {fd : FuncData} {ps : List Str} {sp : Sp} {x : Str} {p pos : Pos}
/-- C(), C's own __init__ keeping sp: the exception has no dict -/
def tMk0 (C : Addr) (sp : Sp) : L2.St → Hp → XK → Prop := fun σ H Q => ∀ a, H a = none → sp [.ref a] (upd H a (exo a C none)) (fun v H2 => v = .non ∧ H2 a = some (exo a C none) ∧ Q (.ref C) none (del H2 a)) E0
theorem made0 (T : OexC X.K C) (fi : PySem.W.findIn X.K (.ref C) "__init__" = some (some (.ref g))) (ty : PySem.W.typeIn X.K (.ref g) = some (.type "function")) (Fn : FnOk X.prog X.w X.K X.mg X.base CX0 k g fd ps sp) (hr : Room j X.A) (hk : k + 1 ≤ j) (B : Binds X.K fd ps [])
    (hex : X.ex = []) (hg : Gl X x) (hm : X.mg x = some (.ref C)) (hdb : (x == ("__debug__" : Str)) = false := by decide) : PMk X (.Call (.Name x p) [] [] pos) (tMk0 C sp) := by
  intro pn z1 sg Ha Qx Ia qa
  obtain ⟨nm, q, N, bs, bm, sn, sub, ab, col, dd, k0, k1, k2, k3, k5, lkC, bmE⟩ := T.cls
  refine wpAny_Call_Name_kw (ld_glob Ia hg hm (PySem.W.callWith_K0 Ia.kIn T.kC ?_) hdb)
  show wpAny _ _ (call (.ref C) []) _ _ _
  have hsz := Ia.sz
  obtain ⟨hz, gz, dz, tz, oz⟩ := z1
  have le1 : hz.objs.size ≤ hz.objs.size + 1 := Nat.le_succ _
  have fresh := Ia.hok.fresh le1
  have want := qa (hz.objs.size + 1) fresh
  have kp : ∀ b o, hz.get? b = some o → ((hz.push (PySem.W.kdv_tup [])).push (PySem.HandSPX.excO C hz.objs.size)).get? b = some o := fun b o e => Heap.get?_push_of_some _ (Heap.get?_push_of_some _ e)
  have at2 : ((hz.push (PySem.W.kdv_tup [])).push (PySem.HandSPX.excO C hz.objs.size)).get? (hz.objs.size + 1) = some (PySem.HandSPX.excO C hz.objs.size) := by heap_get
  have Ib : Inv X pn sg (upd Ha (hz.objs.size + 1) (exo (hz.objs.size + 1) C none)) ⟨((hz.push (PySem.W.kdv_tup [])).push (PySem.HandSPX.excO C hz.objs.size)), gz, dz, tz, oz⟩ := Ia.laid (t' := tz) (a := hz.objs.size + 1) (o := exo (hz.objs.size + 1) C none) (h' := ((hz.push (PySem.W.kdv_tup [])).push (PySem.HandSPX.excO C hz.objs.size))) kp le1 (exo_ok at2)
  have rb : Vals [V.ref (hz.objs.size + 1)] [Value.ref (hz.objs.size + 1)] := .cons rfl .nil
  have lb : ([Value.ref (hz.objs.size + 1)] ++ ([] : List Value)).length = ps.length := by
    rw [List.append_nil, ← rb.length]; exact Fn.len _ _ _ _ want
  have bb := B ⟨((hz.push (PySem.W.kdv_tup [])).push (PySem.HandSPX.excO C hz.objs.size)), gz, dz, tz, oz⟩ [Value.ref (hz.objs.size + 1)] Ib.kIn lb
  rw [List.append_nil] at bb
  refine wpAny_call (PySem.HandSPX.call_own F.excBase_ValueError (fun Y => PySem.HandSPX.refsVE_contains Y bm bmE) (Ia.kIn _ _ lkC) (PySem.W.looks_findIn Ia.kIn fi) (fun self => PySem.W.bind_fn Ia.kIn self ty) (by rw [sizeLine_eq]; simp)
    (codeAny_mono (Fn.run _ X.stack _ _ ⟨[Value.ref (hz.objs.size + 1)], []⟩ [Value.ref (hz.objs.size + 1)] _ _ E0 ((hr.mono hk).make C [] []) (Ib.env0.make C [] []) bb rb want) fun r z3 hq => ?_))
  match r, hq with
  | .error er, hq => exact hq.elim
  | .ok .next, hq | .ok .brk, hq | .ok .cont, hq => exact hq.elim
  | .ok (.ret u), hq =>
    obtain ⟨v, H3, I3, rv, ev, ea, q3⟩ := Ib.after hq
    subst ev
    refine ⟨rv, ?_⟩
    obtain ⟨t0, hoe⟩ := exo_at I3.hok ea
    have s0 : X.s_0.heap.get? (hz.objs.size + 1) = none := by
      cases z : X.s_0.heap.get? (hz.objs.size + 1) with
      | none => rfl
      | some o =>
        exact absurd (Nat.lt_of_lt_of_le (Heap.lt_size z) hsz) (Nat.not_lt.mpr (Nat.le_succ _))
    obtain ⟨G, g1, g2⟩ := restrict z3.heap fun b => decide (b ≠ hz.objs.size + 1)
    have gk : ∀ b, b ≠ hz.objs.size + 1 → G.get? b = z3.heap.get? b := fun b hb => g1 b (decide_eq_true hb)
    have ge : G.get? (hz.objs.size + 1) = none := g2 _ (by simp)
    have I4 := forget I3 ea s0 gk
    refine ⟨hz.objs.size + 1, _, _, { z3 with heap := G }, _, .ref C, none, rfl, I4, fun b o z => ?_, ge, hoe, ⟨rfl, rfl⟩, rfl, rfl, del_same, rfl, I3.bare, raises_own T.exC T.tyC, q3⟩
    have n : b ≠ hz.objs.size + 1 := fun y => by rw [y, ge] at z; cases z
    exact (gk b n).symm.trans z
end
end UW
set_option Elab.async false
set_option linter.all false
set_option maxRecDepth 100000
set_option maxHeartbeats 4000000
/-! match of a list of texts against sequences of words and names, the last one with a star -/
namespace UX
open PySem PySem.Spec PyProof.Rows L2 UL UV UW
/-- an item of a sequence pattern: a word, or a name (by its place among the locals) -/
inductive Itm where
  | wd (c : Str)
  | nm (i : Nat)
def NmOk (X : Cx) (i : Nat) (x : Str) : Prop := X.N[i]? = some x ∧ Loc X.env.scope x ∧ (X.fn x = true ∨ X.env.scope.names.lookup x = some .local)
def ItOk (X : Cx) : Itm → Pattern → Prop
  | .wd c, p => ∃ k q q', p = .MatchValue (.Constant (.str c) k q) q'
  | .nm i, p => ∃ x q, p = .MatchAs none (some x) q ∧ NmOk X i x
inductive ItsOk (X : Cx) : List Itm → List Pattern → Prop
  | nil : ItsOk X [] []
  | cons {i p is ps} : ItOk X i p → ItsOk X is ps → ItsOk X (i :: is) (p :: ps)
/-- what the words bind, or none -/
def mt : List Itm → List Str → Option (List (Nat × V))
  | [], [] => some []
  | .wd c :: r, s :: ss => if s = c then mt r ss else none
  | .nm i :: r, s :: ss => match mt r ss with
    | none => none
    | some bs => some ((i, .str s) :: bs)
  | _, _ => none
def puts (σ : L2.St) : List (Nat × V) → L2.St
  | [] => σ
  | (i, v) :: r => puts (σ.set i (some v)) r
inductive Bds (X : Cx) : List (Nat × V) → List (Str × Value) → Prop
  | nil : Bds X [] []
  | cons {i v x u bs cs} : NmOk X i x → RelV v u → Bds X bs cs → Bds X ((i, v) :: bs) ((x, u) :: cs)
theorem Bds.app {X : Cx} : ∀ {a b : List (Nat × V)} {c d : List (Str × Value)}, Bds X a c → Bds X b d → Bds X (a ++ b) (c ++ d)
  | _, _, _, _, .nil, h => h
  | _, _, _, _, .cons n r t, h => .cons n r (t.app h)
def Res (X : Cx) : Option (List (Nat × V)) → Option (List (Str × Value)) → Prop
  | none, none => True
  | some bs, some cs => Bds X bs cs
  | _, _ => False
section
variable {X : Cx} {pins : List (Addr × Obj)}
theorem each {prog : Program} {w : World} {A : Around} {E : Value → Shared → Prop} {pt : List Pattern} {ut : List Value} {bt : List (Str × Value)} (tail : ∀ (R' : Option (List (Str × Value)) → Shared → Prop) (s' : Shared), R' (some bt) s' → wpAny (model prog w) A (matchEach pt X.env ut) R' E s') :
    ∀ (its : List Itm) {ps : List Pattern} {ws : List Str} {us : List Value} {s : Shared} {R : Option (List (Str × Value)) → Shared → Prop}, ItsOk X its ps → its.length = ws.length → Vals (ws.map V.str) us →
      (∀ tk r, Res X (mt its ws) r → R (r.map (· ++ bt)) { s with toks := tk }) → wpAny (model prog w) A (matchEach (ps ++ pt) X.env (us ++ ut)) R E s
  | [], ps, ws, us, s, R, ok, hl, hv, hR => by
    cases ok
    cases ws with
    | cons _ _ => cases hl
    | nil =>
      cases hv
      exact tail R s (hR s.toks (some []) .nil)
  | .wd c :: its, ps, ws, us, s, R, ok, hl, hv, hR => by
    cases ok with
    | cons hi ht =>
      obtain ⟨k, q, q', rfl⟩ := hi
      cases ws with
      | nil => cases hl
      | cons a ws =>
        cases hv with
        | cons r rs =>
          obtain ⟨t, rfl⟩ := r
          refine wpAny_matchEach_cons (wpAny_matchPattern_Value (wpAny_Constant_str (PyProof.Rows.eq_str (wpAny_truthy_bool ?_))))
          by_cases e : a = c
          · subst e
            rw [beq_self_eq_true, if_pos rfl]
            refine each tail its (s := { s with toks := s.toks + 1 }) ht (Nat.succ.inj hl) rs fun tk r hr => ?_
            have := hR tk r (by show Res X (if a = a then mt its ws else none) r; rw [if_pos rfl]; exact hr)
            cases r with
            | none => exact this
            | some cs => exact this
          · rw [if_neg (by simpa using e)]
            exact hR (s.toks + 1) none (by show Res X (if a = c then mt its ws else none) none; rw [if_neg e]; trivial)
  | .nm i :: its, ps, ws, us, s, R, ok, hl, hv, hR => by
    cases ok with
    | cons hi ht =>
      obtain ⟨x, q, rfl, hn⟩ := hi
      cases ws with
      | nil => cases hl
      | cons a ws =>
        cases hv with
        | cons r rs =>
          refine wpAny_matchEach_cons (wpAny_matchPattern_Capture ?_)
          refine each tail its ht (Nat.succ.inj hl) rs fun tk r' hr => ?_
          cases e : mt its ws with
          | none =>
            rw [e] at hr
            cases r' with
            | none => exact hR tk none (by show Res X (match mt its ws with | none => none | some bs => some ((i, V.str a) :: bs)) none; rw [e]; trivial)
            | some cs => exact hr.elim
          | some bs =>
            rw [e] at hr
            cases r' with
            | none => exact hr.elim
            | some cs => exact hR tk (some ((x, _) :: cs)) (by show Res X (match mt its ws with | none => none | some bs => some ((i, V.str a) :: bs)) _; rw [e]; exact .cons hn r hr)
/-- the names are bound one after another -/
theorem binds {prog : Program} {w : World} {A : Around} {E : Value → Shared → Prop} (hN : X.N.Nodup) : ∀ {bs : List (Nat × V)} {cs : List (Str × Value)} {σ : L2.St} {H : Hp} {s : Shared} {Q : Unit → Shared → Prop}, Bds X bs cs → Inv X pins σ H s → (∀ s', Inv X pins (puts σ bs) H s' → Q () s') →
    wpAny (model prog w) A (assignInOrder (cs.map fun (n, _) => bindName X.env n) (cs.map (·.2))) Q E s
  | _, _, σ, H, s, Q, .nil, I, h => wpAny_assignInOrder_none (h s I)
  | _, _, σ, H, s, Q, .cons hn r t, I, h => by
    refine wpAny_assignInOrder_more (wpAny_bindName (store_ok I hN hn.1 hn.2.1 r (fun s1 I1 => ?_) hn.2.2))
    exact binds hN t I1 h
/-- cases, of a list of texts -/
structure PM (X : Cx) (cs : List MatchCase) (t : List Str → TS) : Prop where
  run : ∀ (pins : List (Addr × Obj)) (s : Shared) (σ : L2.St) (H : Hp) (D : Ends) (p : Addr) (ws : List Str) (b : Bool), Inv X pins σ H s → SqL X.K H p (ws.map V.str) → t ws D σ H → wpAny (model X.prog X.w) X.A (matchCases cs X.env (.ref p) b) (SP X pins D) X.xe s
theorem pm_any {body : List Stmt} {cs : List MatchCase} {q : Pos} {tb : TS} (hb : PSs X body tb) : PM X (⟨.MatchAs none none q, none, body⟩ :: cs) (fun _ => tb) :=
  ⟨fun pins s σ H D p ws b I _ h => wpAny_matchCases_cons (wpAny_matchPattern_Capture (wpAny_assignInOrder_none (hb.run pins s σ H D I h)))⟩
theorem mt_len : ∀ {its : List Itm} {ws : List Str} {bs : List (Nat × V)}, mt its ws = some bs → its.length = ws.length
  | [], [], _, _ => rfl
  | [], _ :: _, _, h => by cases h
  | .wd _ :: _, [], _, h => by cases h
  | .nm _ :: _, [], _, h => by cases h
  | .wd c :: r, a :: ss, bs, h => by
    have h : (if a = c then mt r ss else none) = some bs := h
    by_cases e : a = c
    · rw [if_pos e] at h
      exact congrArg Nat.succ (mt_len h)
    · rw [if_neg e] at h; cases h
  | .nm i :: r, a :: ss, bs, h => by
    have h : (match mt r ss with | none => none | some bs => some ((i, V.str a) :: bs)) = some bs := h
    cases e : mt r ss with
    | none => rw [e] at h; cases h
    | some cs => exact congrArg Nat.succ (mt_len e)
theorem its_len {X : Cx} : ∀ {its : List Itm} {ps : List Pattern}, ItsOk X its ps → its.length = ps.length
  | _, _, .nil => rfl
  | _, _, .cons _ t => congrArg Nat.succ (its_len t)
/-- a sequence without a star -/
def sSeq (its : List Itm) (tb : TS) (tn : List Str → TS) : List Str → TS := fun ws D σ H => match mt its ws with
  | some bs => tb D (puts σ bs) H
  | none => tn ws D σ H
theorem pm_seq {its : List Itm} {ps : List Pattern} {body : List Stmt} {cs : List MatchCase} {q : Pos} {tb : TS} {tn : List Str → TS} (hN : X.N.Nodup) (hc : X.calm = true) (ok : ItsOk X its ps) (hb : PSs X body tb) (hn : PM X cs tn)
    (hst : ps.findIdx? (·.isStar) = none := by rfl) (hw : (ps.all fun p => p.isWildcard || (p.isStar && p.names.isEmpty)) = false := by rfl) : PM X (⟨.MatchSequence ps q, none, body⟩ :: cs) (sSeq its tb tn) := by
  refine ⟨fun pins s σ H D p ws b I hp h => ?_⟩
  obtain ⟨us, rv, pl, hz⟩ := I.list hp
  have lu : ws.length = us.length := by rw [← List.length_map (f := V.str)]; exact rv.length
  have zs : sizeLine < 2 ^ 63 := by rw [sizeLine_eq]; decide
  rw [List.length_map] at hz
  refine wpAny_matchCases_cons (wpAny_matchPattern_Sequence (wpAny_collectionFlag pl.isList.typeIs flag_seq_list ?_) hst hw)
  rw [if_pos rfl]
  refine pyLen_list pl.isList (by simp only [List.size_toArray]; omega) ?_
  have lp := its_len ok
  have no : ∀ {tk : Nat} {hh : Heap}, (∀ b o, s.heap.get? b = some o → hh.get? b = some o) → mt its ws = none → wpAny (model X.prog X.w) X.A (matchCases cs X.env (.ref p) false) (SP X pins D) X.xe { s with heap := hh, toks := tk } := fun {tk hh} k e => by
    have h : (match mt its ws with | some bs => tb D (puts σ bs) H | none => tn ws D σ H) := h
    rw [e] at h
    exact hn.run pins _ σ H D p ws false (I.kept k) hp h
  by_cases e : us.length = ps.length
  · rw [if_neg (by simp [e])]
    have e' : ps.length = us.toArray.size := by rw [List.size_toArray, e]
    rw [e']
    refine PySem.W.kun_itemsOf (I.ok.hd hc) pl.isList fun h' hx => ?_
    have kp : ∀ b o, s.heap.get? b = some o → h'.get? b = some o := fun b o z => hx b o (Nat.ne_of_lt (Heap.lt_size z)) z
    have go := each (X := X) (prog := X.prog) (w := X.w) (A := X.A) (E := X.xe) (pt := []) (ut := []) (bt := []) (fun R' s' z => wpAny_matchEach_nil z) its (ps := ps) (ws := ws) (us := us) (s := { s with heap := h', toks := s.toks + 1 + 1 }) ok (by omega) rv
      (R := fun r s₁ => match r with
        | none => wpAny (model X.prog X.w) X.A (matchCases cs X.env (.ref p) false) (SP X pins D) X.xe s₁
        | some bs => wpAny (model X.prog X.w) X.A (assignInOrder (bs.map fun (n, _) => bindName X.env n) (bs.map (·.2))) (fun _ s₂ => wpAny (model X.prog X.w) X.A (execs body X.env) (SP X pins D) X.xe s₂) X.xe s₁) (fun tk r hr => ?_)
    · rw [List.append_nil, List.append_nil] at go
      exact go
    · have h : (match mt its ws with | some bs => tb D (puts σ bs) H | none => tn ws D σ H) := h
      cases em : mt its ws with
      | none =>
        rw [em] at hr
        cases r with
        | some _ => exact hr.elim
        | none => exact no kp em
      | some bs =>
        rw [em] at hr h
        cases r with
        | none => exact hr.elim
        | some cs' =>
          show wpAny _ _ (assignInOrder ((cs' ++ []).map _) ((cs' ++ []).map _)) _ _ _
          rw [List.append_nil]
          exact binds hN hr (I.kept kp) fun s' I' => hb.run pins s' (puts σ bs) H D I' h
  · have e2 : mt its ws = none := by
      cases em : mt its ws with
      | none => rfl
      | some bs => exact absurd (mt_len em) (by omega)
    rw [if_pos (by simp only [List.size_toArray, bne_iff_ne, ne_eq]; omega)]
    exact no (fun _ _ z => z) e2
theorem unpackS {prog : Program} {w : World} {A : Around} {E : Value → Shared → Prop} {s : Shared} {l : Addr} {items : Array Value} {i : Nat} {Q : List Value → Shared → Prop} (hl : s.heap.IsList l items) (hh : A.handled = none) (hn : i ≤ items.size) (hz : items.size ≤ sizeLine)
    (h : ∀ (h' : Heap) (tk : Nat), (∀ b o, s.heap.get? b = some o → h'.get? b = some o) → Q (items.toList.take i ++ [.ref h'.objs.size]) { s with heap := h'.push { cls := .type "list", data := .seq (items.toList.drop i).toArray }, toks := tk }) : wpAny (model prog w) A (unpackItems (.ref l) (i + 1) (some i)) Q E s := by
  have hl' := hl
  obtain ⟨o0, e0, _⟩ := hl'
  have hlt : l < s.heap.objs.size := Heap.lt_size e0
  have hne : l ≠ s.heap.objs.size := Nat.ne_of_lt hlt
  unfold unpackItems notIterableAtAll
  refine wpAny_bind (wpAny_bind (wpAny_specialOf hl.typeIs slot_list_iter.lookup (wpAny_pure ?_)))
  rw [if_neg (by simp)]
  refine wpAny_bind (wpAny_holding (wpAny_pyIter_list hl (wpAny_bind (wpAny_holding (PySem.W.kun_draw hne i 0 _ _ ⟨_, Heap.get?_push_size _ rfl, rfl, rfl⟩ (hl.push _) (by omega) fun h₁ hit hs => ?_)))))
  rw [Nat.zero_add] at hit
  have L1 : h₁.IsList l items := (hl.push _).extBut hs.extBut hne
  have hit' := hit
  have L1' := L1
  obtain ⟨oi, ei, _⟩ := hit'
  obtain ⟨ol, el, _⟩ := L1'
  rw [List.drop_zero]
  have f1 : (items.toList.take i).length = i := by rw [List.length_take, Array.length_toList]; omega
  rw [f1, if_neg (Nat.lt_irrefl i)]
  refine wpAny_bind (wpAny_holding (PySem.W.kun_collect (s := { s with heap := h₁ }) (T := "list_iterator") (.inr (.inr (.inl rfl))) (PySem.Walks.list (A := A.in1) hh s.heap.objs.size l hne items) (fun j u st => st.1.typeIs) (k := i) hn ⟨hit, L1⟩ (Heap.lt_size ei) (Heap.lt_size el) (fun h₂ tk hk => ?_) hz))
  have z0 : i + 1 - 1 - i = 0 := by omega
  rw [z0]
  show wpAny _ _ (if (items.toList.drop i).length < 0 then _ else _) _ _ _
  rw [if_neg (Nat.not_lt_zero _)]
  show wpAny _ _ (newList ((items.toList.drop i).take ((items.toList.drop i).length - 0)) >>= fun d => pure (items.toList.take i ++ [d] ++ (items.toList.drop i).drop ((items.toList.drop i).length - 0))) _ _ _
  rw [Nat.sub_zero, List.take_length, List.drop_length]
  refine wpAny_bind (wpAny_newList (wpAny_pure ?_) (by rw [List.length_drop, Array.length_toList]; omega))
  rw [List.append_nil]
  exact h h₂ tk fun b o e => hk b o (Nat.ne_of_lt (Heap.lt_size e)) (hs.extBut b o (Nat.ne_of_lt (Heap.lt_size e)) (Heap.get?_push_of_some _ e))
/-- a sequence with a star at its end -/
def sStar (its : List Itm) (i : Nat) (tb : TS) (tn : List Str → TS) : List Str → TS := fun ws D σ H => if its.length ≤ ws.length then (match mt its (ws.take its.length) with
  | some bs => ∀ r, H r = none → tb D (puts σ (bs ++ [(i, .ref r)])) (upd H r (.lst ((ws.drop its.length).map V.str)))
  | none => tn ws D σ H) else tn ws D σ H
theorem pm_star {its : List Itm} {i : Nat} {x : Str} {q' : Pos} {ps : List Pattern} {body : List Stmt} {cs : List MatchCase} {q : Pos} {tb : TS} {tn : List Str → TS} (hN : X.N.Nodup) (hc : X.calm = true) (ok : ItsOk X its ps) (hx : NmOk X i x) (hb : PSs X body tb) (hn : PM X cs tn)
    (h0 : ps.length ≠ 0) (hst : (ps ++ [Pattern.MatchStar (some x) q']).findIdx? (·.isStar) = some ps.length) (hw : ((ps ++ [Pattern.MatchStar (some x) q']).all fun p => p.isWildcard || (p.isStar && p.names.isEmpty)) = false) :
    PM X (⟨.MatchSequence (ps ++ [.MatchStar (some x) q']) q, none, body⟩ :: cs) (sStar its i tb tn) := by
  refine ⟨fun pins s σ H D p ws b I hp h => ?_⟩
  obtain ⟨us, rv, pl, hz⟩ := I.list hp
  have lu : ws.length = us.length := by rw [← List.length_map (f := V.str)]; exact rv.length
  have zs : sizeLine < 2 ^ 63 := by rw [sizeLine_eq]; decide
  rw [List.length_map] at hz
  have lp := its_len ok
  have lps : (ps ++ [Pattern.MatchStar (some x) q']).length = ps.length + 1 := by rw [List.length_append] <;> rfl
  have h : (if its.length ≤ ws.length then (match mt its (ws.take its.length) with | some bs => ∀ r, H r = none → tb D (puts σ (bs ++ [(i, .ref r)])) (upd H r (.lst ((ws.drop its.length).map V.str))) | none => tn ws D σ H) else tn ws D σ H) := h
  by_cases hl : its.length ≤ ws.length
  · rw [if_pos hl] at h
    refine wpAny_matchCases_cons (PySem.W.kun_seqL pl.isList (by simp only [List.size_toArray]; omega) hst hw (by rw [List.getElem?_append_right (Nat.le_refl _), Nat.sub_self] <;> rfl) (by rw [lps]; omega) (by rw [lps]; simp only [List.size_toArray]; omega) ?_)
    rw [lps]
    refine unpackS pl.isList (I.ok.hd hc) (by simp only [List.size_toArray]; omega) (by simp only [List.size_toArray]; omega) fun h' tk kp => ?_
    have tk1 : Vals ((ws.take its.length).map V.str) (us.take ps.length) := by rw [← lp, List.map_take]; exact rv.take _
    have dr1 : Vals ((ws.drop its.length).map V.str) (us.drop ps.length) := by rw [← lp, List.map_drop]; exact rv.drop _
    have I1 : Inv X pins σ H { s with heap := h', toks := tk } := I.kept kp
    show wpAny _ _ (matchEach (ps ++ [Pattern.MatchStar (some x) q']) X.env (us.take ps.length ++ [Value.ref h'.objs.size])) _ _ _
    refine each (X := X) (bt := [(x, Value.ref h'.objs.size)]) (fun R' s' z => PySem.W.kun_each (name := some x) (wpAny_matchEach_nil z)) its ok (by rw [List.length_take]; omega) tk1 fun tk2 r hr => ?_
    cases em : mt its (ws.take its.length) with
    | none =>
      rw [em] at hr h
      cases r with
      | some _ => exact hr.elim
      | none => exact hn.run pins _ σ H D p ws false (I.kept fun b o e => Heap.get?_push_of_some _ (kp b o e)) hp h
    | some bs =>
      rw [em] at hr h
      cases r with
      | none => exact hr.elim
      | some cs' =>
        have hf : H h'.objs.size = none := I1.hok.fresh (Nat.le_refl _)
        have I2 : Inv X pins σ (upd H h'.objs.size (.lst ((ws.drop its.length).map V.str))) { s with heap := h'.push { cls := .type "list", data := .seq (us.drop ps.length).toArray }, toks := tk2 } :=
          I1.laid (t' := tk2) (fun b o e => Heap.get?_push_of_some _ e) (Nat.le_refl _) ⟨by rw [List.length_map, List.length_drop]; omega, _, _, dr1, Heap.get?_push_size _ rfl⟩
        exact binds hN (hr.app (.cons (v := V.ref h'.objs.size) hx rfl .nil)) I2 fun s' I' => hb.run pins s' _ _ D I' (h _ hf)
  · rw [if_neg hl] at h
    refine wpAny_matchCases_cons (PySem.W.kun_fewL pl.isList (by simp only [List.size_toArray]; omega) hst (by rw [lps]; omega) (by rw [lps]; simp only [List.size_toArray]; omega) ?_)
    exact hn.run pins _ σ H D p ws false (I.kept fun _ _ z => z) hp h
/-- match e: .. of a list of texts -/
def sMatch (K : PySem.W.Frag) (te : TE) (tc : List Str → TS) : TS := fun D σ H => te σ H fun x H1 => ∃ p ws, x = .ref p ∧ SqL K H1 p (ws.map V.str) ∧ tc ws D σ H1
theorem ps_match {e : Expr} {cs : List MatchCase} {pos : Pos} {te : TE} {tc : List Str → TS} (he : PE X e te) (hm : PM X cs tc) : PS X (.Match e cs pos) (sMatch X.K te tc) := by
  refine ⟨fun pins s σ H D I h => wpAny_Match (thn (he.run pins s σ H _ I h) fun u s1 ⟨x, H1, I1, r1, p, ws, ex, hp, q⟩ => ?_)⟩
  subst ex
  obtain rfl : u = Value.ref p := r1
  exact hm.run pins s1 σ H1 D p ws true I1 hp q
end
end UX
set_option Elab.async false
set_option linter.all false
set_option maxRecDepth 100000
set_option maxHeartbeats 4000000
/-! C.m(self, ..): a def read off a class; cls(..): the call of a local name that holds a class -/
namespace UX
open PySem PySem.Spec PyProof.Rows L2 UL UV UW ClX
/-- m, read off the class at C, is the def at f -/
structure CFn (K : PySem.W.Frag) (C : Addr) (m : Str) (f : Addr) : Prop where
  at_ : PySem.W.findCls K (.ref C) (.type "type") m = some (.val (.ref f))
  rd : CRead K C (.type "type")
  kp : PySem.W.keepIn K (.ref f) = true
/-- e.m(..), e the class at C, m a def -/
def tBMeth (C : Addr) (sp : Sp) (ta : TE) (t : TA) : TE := fun σ H Q => ta σ H fun x H1 => x = .ref C ∧ t σ H1 fun vs H2 => sp vs H2 Q (fun _ _ _ => False)
/-- cls(..), cls the class at C -/
def tMakeL (i : Nat) (C : Addr) (sp : Sp) (t : TA) : TE := fun σ H Q => σ[i]? = some (some (.ref C)) ∧ t σ H fun vs H1 => ∀ x dx, H1 x = none → H1 dx = none → dx ≠ x → sp (.ref x :: vs) (upd (upd H1 dx (.own x)) x (.ins C dx [])) (fun v H2 => v = .non ∧ Q (.ref x) H2) (fun _ _ _ => False)
section
variable {X : Cx} {k i : Nat} {C f : Addr} {fd : FuncData} {ps : List Str} {sp : Sp} {o e : Expr} {es : List Expr} {m x : Str} {p pos apos : Pos} {ta : TE} {t : TA} {pl : Sem Bool}
theorem pe_bmeth (he : PE X o ta) (c : CFn X.K C m f) (F : FnOk X.prog X.w X.K X.mg X.base (fun _ _ _ _ _ _ => False) k f fd ps sp) (hr : Room k X.A) (hb : Binds X.K fd ps []) (ha : PA X (e :: es) t)
    (hst : starEach (e :: es) X.env = (false, eval e X.env) :: starEach es X.env := by rfl) (hpl : (backTo pos (starEach es X.env)).any (·.1) = false := by rfl)
    (ht : eval (.Call (.Attribute o m apos) (e :: es) [] pos) X.env = (do
      let ov ← eval o X.env
      standAt apos.atName
      let (f, first) ← holding [ov] (getMethod ov m pl)
      callWith pos f first (backTo pos (starEach (e :: es) X.env)) (backToKw pos (keywordEach [] X.env))) := by rfl) :
    PE X (.Call (.Attribute o m apos) (e :: es) [] pos) (tBMeth C sp ta t) := by
  refine ⟨fun pins s σ H Q I h => ?_⟩
  refine PySem.W.methodCall_KW (pl := pl) (thn (he.run pins s σ H _ I h) fun u s1 ⟨x, H1, I1, rx, ex, q⟩ => ?_) ht
  subst ex
  obtain rfl : u = Value.ref C := rx
  refine PySem.W.method_cls I1.kIn c.rd.ga (PySem.W.cls_value I1.kIn c.rd.rd c.at_ (handed_of (v := V.ref f) (u := Value.ref f) rfl) ?_)
  refine PySem.W.callWith_K (first := []) (h₀ := X.base) I.ok.mod.kin c.kp (thn (ha.run pos pins _ σ H1 _ (I1.tok _) q) fun us s2 ⟨vs, H2, I2, r, q2⟩ => ⟨I2.kIn, ?_⟩) hst hpl
  exact run_fn (dvs := []) F hr hb .nil (fun _ _ _ _ _ _ _ z => z.elim) I2 r (by rw [List.append_nil]; exact q2)
theorem pe_makeL (M : Mk X.K C f) (F : FnOk X.prog X.w X.K X.mg X.base (fun _ _ _ _ _ _ => False) k f fd ps sp) (hr : Room (k + 1) X.A) (hN : X.N[i]? = some x) (hv : Vis X.env.scope x) (hb : Binds X.K fd ps []) (ha : PA X (e :: es) t)
    (hdb : (x == ("__debug__" : Str)) = false := by decide) (hcd : (x == ("__classdict__" : Str)) = false := by decide)
    (he : starEach (e :: es) X.env = (false, eval e X.env) :: starEach es X.env := by rfl) (hpl : (backTo pos (starEach es X.env)).any (·.1) = false := by rfl) : PE X (.Call (.Name x p) (e :: es) [] pos) (tMakeL i C sp t) := by
  refine ⟨fun pins s σ H Q I h => ?_⟩
  obtain ⟨hs, ht⟩ := h
  refine wpAny_Call_Name_kw (thn ((pe_var (pos := p) hN hv hdb hcd).run pins s σ H (fun v H1 => v = .ref C ∧ H1 = H) I ⟨.ref C, hs, rfl, rfl⟩) fun u s1 ⟨v, H1, I1, r1, q1⟩ => ?_)
  obtain ⟨rfl, rfl⟩ := q1
  cases r1
  refine PySem.W.callWith_K (h₀ := X.base) I.ok.mod.kin M.kp (thn (ha.run pos pins s1 σ _ _ I1 ht) fun us s2 ⟨vs, H2, I2, r, q⟩ => ⟨I2.kIn, ?_⟩) he hpl
  have q' : ∀ x dx, H2 x = none → H2 dx = none → dx ≠ x → sp (.ref x :: (vs ++ [])) (upd (upd H2 dx (.own x)) x (.ins C dx [])) (fun v H3 => v = .non ∧ Q (.ref x) H3) (fun _ _ _ => False) := fun x dx h1 h2 h3 => by
    rw [List.append_nil]
    exact q x dx h1 h2 h3
  exact run_make (dvs := []) (E := fun _ _ _ => False) M F hr hb .nil (fun _ _ _ _ _ _ _ z => z.elim) I2 r q'
end
end UX
set_option Elab.async false
set_option linter.all false
set_option maxRecDepth 100000
set_option maxHeartbeats 4000000
/-! for n, x in enumerate(list, start=k) -/
namespace UX
open PySem PySem.Spec PyProof.Rows L2 UL UV UW
theorem draws_from {prog : Program} {w : World} {A : Around} {it : Addr} {fp : List Addr} {n : Nat} {P : Nat → Value → Prop} {St : Nat → Heap → Prop} (D : Draws prog w A it fp n P St) (k : Nat) : Draws prog w A it fp (n + k) (fun j v => k ≤ j ∧ P (j - k) v) (fun j h => k ≤ j ∧ St (j - k) h) where
  live := fun _ _ st => D.live _ _ st.2
  frame := fun _ _ _ st hk => ⟨st.1, D.frame _ _ _ st.2 hk⟩
  item := fun j s Q E hj st hQ => D.item (j - k) s Q E (by have := st.1; omega) st.2 fun x h' tk p s1 sb => hQ x h' tk ⟨st.1, p⟩ ⟨by have := st.1; omega, by have := st.1; rw [show j + 1 - k = j - k + 1 by omega]; exact s1⟩ sb
  done := fun s Q E st hE => D.done s Q E (by have := st.2; rw [Nat.add_sub_cancel] at this; exact this) hE
/-- the list at a as it stands at each turn, each item in a new pair, counted from k -/
def IteS (K : PySem.W.Frag) (k : Nat) (a : Addr) : L2.It :=
  ⟨fun i H => ∃ (xs : List V) (x : V), SqL K H a xs ∧ xs[i]? = some x, fun i H v H' => ∃ T x, v = .ref T ∧ H T = none ∧ H' = upd H T (.tup [.int (i + k : Nat), x]) ∧ ∀ xs, SqL K H a xs → xs[i]? = some x, fun i H => ∃ xs : List V, SqL K H a xs ∧ xs.length ≤ i⟩
theorem turn_enumS {P : Program} {w : World} {K : PySem.W.Frag} {elts : List Expr} {kk : Nat} {tpos : Pos} (k : Nat) (a e it : Addr) :
    Turn P w K (.Tuple elts kk tpos) (IteS K k a) [e, it] e (fun i h => (∃ old, IsEnum h e it ((i + k : Nat) : Int) old) ∧ h.IsListIter it a i ∧ e ≠ it ∧ a ≠ it ∧ a ≠ e) where
  mem := by simp
  obj := fun i h st b hb => by
    obtain ⟨⟨old, he⟩, ⟨o, ho, hc, hd⟩, _⟩ := st
    have e' : b = e ∨ b = it := by simpa using hb
    rcases e' with z | z
    · rw [z]; exact ⟨_, he, fun v q => nomatch q⟩
    · rw [z]; exact ⟨o, ho, fun v q => by rw [hd] at q; cases q⟩
  keep := fun i h h' st kp => let ⟨⟨old, he⟩, hi, hne⟩ := st; ⟨⟨old, kp e (by simp) _ he⟩, hi.at fun o q => kp it (by simp) o q, hne⟩
  item := by
    intro X hP hw hK hc i pins s σ H E I hf st hg
    subst hP hw hK
    obtain ⟨⟨old, he⟩, hit, hne, hai, hae⟩ := st
    obtain ⟨xs, x, hq, hx⟩ := hg
    obtain ⟨its, rv, p, hz⟩ := I.list hq
    obtain ⟨u, hu, ru⟩ := rv.get hx
    have hel : e < s.heap.objs.size := Heap.lt_size he
    have hil : it < s.heap.objs.size := by obtain ⟨_, q, _⟩ := hit; exact Heap.lt_size q
    have hix : i < its.toArray.size := by have := (List.getElem?_eq_some_iff.mp hu).1; simpa using this
    have D := draws_from (Draws.list (prog := X.prog) (w := X.w) (A := X.A.in1) (I.ok.hd hc) it a hai its.toArray) k
    refine wpAny_pyNext_enum_itemD (i := i + k) D he ⟨by omega, by rw [Nat.add_sub_cancel]; exact ⟨hit, p.isList⟩⟩ (by omega) hne (by simp only [List.mem_cons, List.not_mem_nil, or_false]; exact fun z => z.elim hne fun z => hae z.symm) fun x' h' tk px ho hst hT hsz hk => ?_
    have hxu : x' = u := by
      have z := px.2
      rw [Nat.add_sub_cancel] at z
      have z2 : its[i]? = some x' := by simpa using z
      exact Option.some.inj (z2.symm.trans hu)
    subst hxu
    have hit' : h'.IsListIter it a (i + 1) := by
      have z := hst.2.1
      rw [show i + k + 1 - k = i + 1 by omega] at z
      exact z
    refine ⟨_, rfl, wpAny_letOwnedTupleGo_enum (s := { s with heap := h', toks := tk + 1 }) ho fun h'' he' sb => ?_⟩
    have hT2 : h''.get? s.heap.objs.size = some { cls := .type "tuple", data := .seq #[.int (i + k : Nat) tk, x'] } := (sb.2 _ (Nat.ne_of_gt hel)).trans hT
    have new : ObjOk X.prog X.w (upd H s.heap.objs.size (.tup [.int (i + k : Nat), x])) h'' s.heap.objs.size (.tup [.int (i + k : Nat), x]) :=
      ⟨by show 2 ≤ sizeLine; decide, [.int (i + k : Nat) tk, x'], .cons ⟨_, rfl⟩ (.cons ru .nil), ⟨_, hT2, rfl, _, rfl⟩⟩
    have I1 : Inv X pins σ (upd H s.heap.objs.size (.tup [.int (i + k : Nat), x])) { s with heap := h'', toks := tk + 1 } :=
      I.turnedNew (ch := [e, it]) (fun b ob hb q => (sb.2 b (fun z => hb (by simp [z]))).trans (hk b ob (fun z => hb (by simp [z])) (fun z => hb (by simp [z])) q)) hf (Nat.le_refl _) new
    refine ⟨.ref s.heap.objs.size, _, I1, rfl, ⟨_, x, rfl, I.hok.fresh (Nat.le_refl _), rfl, fun ys hy => by rw [I.list_inj hy hq]; exact hx⟩, ⟨⟨x', ?_⟩, hit'.at fun o q => (sb.2 it (Ne.symm hne)).trans q, hne, hai, hae⟩, fun b hb => ?_⟩
    · have e1 : ((i + 1 + k : Nat) : Int) = ((i + k : Nat) : Int) + 1 := by omega
      rw [e1]; exact he'
    · have hb' : b < s.heap.objs.size := by
        have e' : b = e ∨ b = it := by simpa using hb
        rcases e' with z | z
        · rw [z]; exact hel
        · rw [z]; exact hil
      rw [upd_ne (Nat.ne_of_lt hb')]
      exact (hf b hb).1
  done := by
    intro X hP hw hK hc i pins s σ H E I hf st hg
    subst hP hw hK
    obtain ⟨⟨old, he⟩, hit, hne, hai, hae⟩ := st
    obtain ⟨xs, hq, hx⟩ := hg
    obtain ⟨its, rv, p, hz⟩ := I.list hq
    obtain ⟨f0, f1, f2, f3, f4, f5⟩ := hf it (by simp)
    have hl := rv.length
    have D : Draws X.prog X.w X.A.in1 it [it, a] (i + k) (fun _ _ => False) (fun j h => j = i + k ∧ h.IsListIter it a i ∧ h.IsList a its.toArray) := {
      live := fun _ _ st => let ⟨o, ho, _⟩ := st.2.1; ⟨o, ho⟩
      frame := fun _ _ _ st kp => ⟨st.1, st.2.1.at fun o q => kp it (by simp) o q, st.2.2.at fun o q => kp a (by simp) o q⟩
      item := fun j s Q E hj st hQ => absurd st.1 (Nat.ne_of_lt hj)
      done := fun s Q E st hE => wpAny_nextOf_list_end (I.ok.hd hc) st.2.1 st.2.2 (by simp; omega) hE }
    exact wpAny_pyNext_enum_endD D he ⟨rfl, hit, p.isList⟩ fun h' eb => ⟨rfl, I.turned (t' := s.toks) (fun b o hb q => eb b o hb q) f0 f1 f3 f4 f5⟩
  self := fun A i s Q E st h => let ⟨⟨_, he⟩, _⟩ := st; wpAny_pyIter_enum he h
theorem cw_typeK {M : Model} {A : Around} {E : Value → Shared → Prop} {s : Shared} {pos : Pos} {T : String} {args : List (Bool × Sem Value)} {kws : List (Option Str × Sem Value)} {Q : Value → Shared → Prop} (hp : (args.any (·.1) || kws.any (·.1.isNone)) = false)
    (h : wpAny M A (evalArgs (.type T) true args kws) (fun a s₁ => wpAny M A (call (.type T) ([] ++ a.pos) a.kw) Q E s₁) E s) : wpAny M A (callWith pos (.type T) [] args kws) Q E s := by
  unfold callWith
  refine wpAny_bind (wpAny_holding (wpAny_mono h (fun a s₁ h₁ => wpAny_bind (wpAny_standAt ?_)) fun _ _ z => z))
  simp only [hp]
  exact wpAny_bind (wpAny_pure (wpAny_bind (wpAny_mono h₁ (fun r s₂ hr => wpAny_bind (wpAny_holding (wpAny_point (wpAny_pure hr)))) fun _ _ z => z)))
def iEnumS (K : PySem.W.Frag) (k : Nat) (ta : TA) : TI := fun σ H R => ta σ H fun vs H1 => ∃ a xs, vs = [.ref a] ∧ SqL K H1 a xs ∧ R (IteS K k a) H1
theorem pi_enumS {X : Cx} {e : Expr} {ta : TA} {p pos tpos cpos kpos : Pos} {elts : List Expr} {kk ck k : Nat} (hk : (k : Int) < 2 ^ 63) (hg : Gl X "enumerate") (hm : X.mg "enumerate" = none) (ha : PA X [e] ta)
    (hs : starEach [e] X.env = [(false, eval e X.env)] := by rfl) : PI X (.Tuple elts kk tpos) (.Call (.Name "enumerate" p) [e] [⟨some "start", .Constant (.int k) ck cpos, kpos⟩] pos) (iEnumS X.K k ta) := by
  refine ⟨fun pins s σ H R I h => ?_⟩
  refine wpAny_Call_Name_kw (ld_blt I hg hm boot_enumerate ?_)
  refine cw_typeK (by rw [hs]; rfl) (evalArgs_kw2 rfl (thn (ha.run pos pins s σ H _ I h) fun us s1 ⟨vs, H1, I1, r1, q1⟩ => ?_) hs)
  refine thn ((pk_cons (nm := some "start") (kpos := kpos) (pe_int (X := X) (i := (k : Int)) (j := ck) (pos := cpos)) pk_nil).run pos pins s1 σ H1 (fun zs H2 => zs = [.int k] ∧ H2 = H1) I1 (show _ ∧ _ from ⟨rfl, rfl⟩)) fun ws s2 ⟨zs, H2, I2, rz, e1, e2⟩ => ?_
  subst e1 e2
  obtain ⟨a, xs, ev, hq, q⟩ := q1
  subst ev
  obtain rfl := Vals.ref1 r1
  cases rz with
  | cons rk rn =>
    cases rn
    obtain ⟨tk, rfl⟩ := rk
    obtain ⟨its, rv, pl, hz⟩ := I2.list hq
    refine enum_begins_start (begins_list a its.toArray) pl.isList (by omega) hk fun h' he hit hsz hkp => wpAny_pyIter_enum he ?_
    have hlt : a < s2.heap.objs.size := by obtain ⟨o, z, _⟩ := pl.isList; exact Heap.lt_size z
    have I3 : Inv X pins σ H2 { s2 with heap := h' } := I2.kept (t' := s2.toks) hkp
    refine ⟨s2.heap.objs.size + 1, [s2.heap.objs.size + 1, s2.heap.objs.size], _, _, H2, rfl, I3, turn_enumS k a (s2.heap.objs.size + 1) s2.heap.objs.size, ⟨⟨.none, by rw [Nat.zero_add]; exact he⟩, ⟨_, hit, rfl, rfl⟩, Nat.succ_ne_self _, Nat.ne_of_lt hlt, Nat.ne_of_lt (Nat.lt_succ_of_lt hlt)⟩, fun b hb => ?_, q⟩
    have hle : s2.heap.objs.size ≤ b := by
      have e' : b = s2.heap.objs.size + 1 ∨ b = s2.heap.objs.size := by simpa using hb
      rcases e' with z | z
      · rw [z]; exact Nat.le_add_right _ _
      · rw [z]; exact Nat.le_refl _
    exact I2.fpOk hle (I2.hok.fresh hle)
theorem walk_enumS {K : PySem.W.Frag} {k : Nat} {a : Addr} {xs : List V} : L2.Walk (IteS K k a) xs.length (fun H => SqL K H a xs) (L2.YPair (fun i => some (.int (i + k : Nat))) (fun i => xs[i]?)) := by
  refine ⟨fun i _ hi q => ⟨xs, xs[i], q, by simp [hi]⟩, fun _ q => ⟨xs, q, Nat.le_refl _⟩, fun i H v H' _ q y => ?_⟩
  obtain ⟨T, x, h1, h2, h3, h4⟩ := y
  exact ⟨T, .int (i + k : Nat), x, h1, h2, h3, rfl, h4 xs q⟩
end UX
set_option Elab.async false
set_option linter.all false
set_option maxRecDepth 100000
set_option maxHeartbeats 4000000
/-! a base's def called by its class's name; a method of one of several classes; a classmethod by its promise -/
namespace UX
open PySem PySem.Spec PyProof.Rows L2 UL UV UW ClX
/-- C.m(self, ..) -/
structure Bn (P : Program) (w : World) (K : PySem.W.Frag) (mg : Str → Option Value) (base : Heap) (k : Nat) (C : Addr) (x m : Str) (sp : Sp) : Prop where
  ex : ∃ (f : Addr) (fd : FuncData) (ps : List Str), FnOk P w K mg base CX0 k f fd ps sp ∧ CFn K C m f ∧ Binds K fd ps [] ∧ mg x = some (.ref C)
/-- C.m(..), m a classmethod -/
structure CMn (P : Program) (w : World) (K : PySem.W.Frag) (mg : Str → Option Value) (base : Heap) (k : Nat) (C : Addr) (x m : Str) (sp : Sp) : Prop where
  ex : ∃ (q g : Addr) (mc : Value), CRead K C mc ∧ CMet K C mc m q g ∧ FnR P w K mg base CX0 k g sp ∧ mg x = some (.ref C)
def tBC (sp : Sp) (t : TA) : TE := fun σ H Q => t σ H fun vs H2 => sp vs H2 Q (fun _ _ _ => False)
/-- the i-th slot holds an object of one of the classes -/
def tMethA (i : Nat) (m : Str) (S : Addr → Sp → Prop) : TE := fun σ H Q => ∃ C sp, S C sp ∧ tMeth C m sp [] (fun _ _ _ => False) (tVar i) tNil σ H Q
section
variable {X : Cx} {k j i : Nat} {C : Addr} {sp : Sp} {e : Expr} {es : List Expr} {m x : Str} {p pos apos : Pos} {t : TA} {pl : Sem Bool}
theorem pe_b (d : Bn X.prog X.w X.K X.mg X.base k C x m sp) (hr : Room j X.A) (hk : k ≤ j) (hg : Gl X x) (ha : PA X (e :: es) t) (hdb : (x == ("__debug__" : Str)) = false := by decide)
    (hst : starEach (e :: es) X.env = (false, eval e X.env) :: starEach es X.env := by rfl) (hpl : (backTo pos (starEach es X.env)).any (·.1) = false := by rfl)
    (ht : eval (.Call (.Attribute (.Name x p) m apos) (e :: es) [] pos) X.env = (do
      let ov ← eval (.Name x p) X.env
      standAt apos.atName
      let (f, first) ← holding [ov] (getMethod ov m pl)
      callWith pos f first (backTo pos (starEach (e :: es) X.env)) (backToKw pos (keywordEach [] X.env))) := by rfl) : PE X (.Call (.Attribute (.Name x p) m apos) (e :: es) [] pos) (tBC sp t) := by
  obtain ⟨f, fd, ps, F, c, hb, hm⟩ := d.ex
  have g : PE X (.Name x p) (tC (.ref C)) := C8.pe_gc (v := .ref C) hg ⟨_, hm, rfl⟩ hdb
  refine ⟨fun pins s σ H Q I h => ?_⟩
  exact (pe_bmeth (pl := pl) g c F (hr.mono hk) hb ha hst hpl ht).run pins s σ H Q I ⟨rfl, h⟩
theorem pe_cm (d : CMn X.prog X.w X.K X.mg X.base k C x m sp) (hr : Room j X.A) (hk : k ≤ j) (hg : Gl X x) (ha : PA X (e :: es) t) (hdb : (x == ("__debug__" : Str)) = false := by decide)
    (hst : starEach (e :: es) X.env = (false, eval e X.env) :: starEach es X.env := by rfl) (hpl : (backTo pos (starEach es X.env)).any (·.1) = false := by rfl)
    (ht : eval (.Call (.Attribute (.Name x p) m apos) (e :: es) [] pos) X.env = (do
      let ov ← eval (.Name x p) X.env
      standAt apos.atName
      let (f, first) ← holding [ov] (getMethod ov m pl)
      callWith pos f first (backTo pos (starEach (e :: es) X.env)) (backToKw pos (keywordEach [] X.env))) := by rfl) : PE X (.Call (.Attribute (.Name x p) m apos) (e :: es) [] pos) (tBC (fun vs H Q E => sp (.ref C :: vs) H Q E) t) := by
  obtain ⟨q, g, mc, r, c, F, hm⟩ := d.ex
  have gl : PE X (.Name x p) (tC (.ref C)) := C8.pe_gc (v := .ref C) hg ⟨_, hm, rfl⟩ hdb
  refine ⟨fun pins s σ H Q I h => ?_⟩
  exact (pe_cmeth (pl := pl) (E := fun _ _ _ => False) gl r c F (hr.mono hk) (fun _ _ _ _ _ _ _ z => z.elim) ha hst hpl ht).run pins s σ H Q I ⟨rfl, h⟩
theorem pe_mA {S : Addr → Sp → Prop} (A : ∀ C sp, S C sp → Mn X.prog X.w X.K X.mg X.base CX0 k C m sp ∧ Cls X.K C) (hr : Room j X.A) (hk : k ≤ j) (he : PE X (.Name x p) (tVar i))
    (ht : eval (.Call (.Attribute (.Name x p) m apos) [] [] pos) X.env = (do
      let ov ← eval (.Name x p) X.env
      standAt apos.atName
      let (f, first) ← holding [ov] (getMethod ov m pl)
      callWith pos f first (backTo pos (starEach [] X.env)) (backToKw pos (keywordEach [] X.env))) := by rfl) : PE X (.Call (.Attribute (.Name x p) m apos) [] [] pos) (tMethA i m S) := by
  refine ⟨fun pins s σ H Q I h => ?_⟩
  obtain ⟨C, sp, hS, h⟩ := h
  obtain ⟨d, c⟩ := A C sp hS
  exact (pe_m' (pl := pl) (E := fun _ _ _ => False) d c hr hk (fun _ _ _ _ _ _ _ z => z.elim) he ht).run pins s σ H Q I h
theorem pe_makeLK {x0 : Str} (d : Kn X.prog X.w X.K X.mg X.base CX0 k C x0 sp) (hr : Room j X.A) (hk : k + 1 ≤ j) (hN : X.N[i]? = some x) (hv : Vis X.env.scope x) (ha : PA X (e :: es) t) (hdb : (x == ("__debug__" : Str)) = false := by decide) (hcd : (x == ("__classdict__" : Str)) = false := by decide)
    (he : starEach (e :: es) X.env = (false, eval e X.env) :: starEach es X.env := by rfl) (hpl : (backTo pos (starEach es X.env)).any (·.1) = false := by rfl) : PE X (.Call (.Name x p) (e :: es) [] pos) (tMakeL i C sp t) := by
  obtain ⟨f, fd, ps, F, M, hb, hm⟩ := d.ex
  exact pe_makeL M F (hr.mono hk) hN hv hb ha hdb hcd he hpl
theorem pm_starL {its : List Itm} {i : Nat} {x : Str} {q' q : Pos} {qs : List Pattern} {body : List Stmt} {cs : List MatchCase} {tb : TS} {tn : List Str → TS} (hN : X.N.Nodup) (hc : X.calm = true) (hq : qs = qs.dropLast ++ [Pattern.MatchStar (some x) q']) (ok : ItsOk X its qs.dropLast) (hx : NmOk X i x)
    (hb : PSs X body tb) (hn : PM X cs tn) (h0 : qs.dropLast.length ≠ 0) (hst : (qs.dropLast ++ [Pattern.MatchStar (some x) q']).findIdx? (·.isStar) = some qs.dropLast.length)
    (hw : ((qs.dropLast ++ [Pattern.MatchStar (some x) q']).all fun p => p.isWildcard || (p.isStar && p.names.isEmpty)) = false) : PM X (⟨.MatchSequence qs q, none, body⟩ :: cs) (sStar its i tb tn) := by
  rw [hq]
  exact pm_star hN hc ok hx hb hn h0 hst hw
end
section
variable {X : Cx}
/-- a tuple as tuple(..) lays it: no dict, no slots -/
def FT (H : Hp) (a : Addr) (xs : List V) : Prop := ∃ o, H a = some (.frz o (.tup xs)) ∧ o.dict = none ∧ o.slots = #[]
def cTupG (K : PySem.W.Frag) : List V → Hp → VK → Prop := fun xs H Q => ∃ p ys, xs = [.ref p] ∧ ((SqL K H p ys ∧ ∀ l o, H l = none → o.dict = none → o.slots = #[] → Q (.ref l) (upd H l (.frz o (.tup ys)))) ∨ (SqT K H p ys ∧ Q (.ref p) H))
theorem call_tupG : CallR X (.type "tuple") (cTupG X.K) := by
  intro pins s σ H xs us Q I r h
  obtain ⟨p, ys, rfl, h⟩ := h
  rcases h with ⟨hq, q⟩ | ⟨hq, q⟩
  · obtain rfl := Vals.ref1 r
    obtain ⟨its, r', pl, hz⟩ := I.list hq
    have hlen := r'.length
    refine call_tuple_list pl.isList (fun h' kp => ?_) (by simp only [List.size_toArray]; omega)
    have I1 : Inv X pins σ H { s with heap := h' } := I.kept (t' := s.toks) kp
    exact ⟨.ref h'.objs.size, _, I1.laid (t' := s.toks) (fun b o e => Heap.get?_push_of_some _ e) (Nat.le_refl _) (show ObjOk X.prog X.w _ _ _ (.frz { cls := .type "tuple", data := .seq its.toArray } (.tup ys)) from ⟨Heap.get?_push_size _ rfl, hz, its, r', IsTup.new _ _⟩), rfl, q _ _ (I1.hok.fresh (Nat.le_refl _)) rfl rfl⟩
  · exact call_tupA pins s σ H _ us Q I r ⟨p, ys, rfl, .inr ⟨hq, q⟩⟩
end
end UX
set_option Elab.async false
set_option linter.all false
set_option maxRecDepth 100000
set_option maxHeartbeats 4000000
/-! k01: what the top leaves, by names -/
namespace U
open PySem L2 UL
def top (i : Nat) : Stmt := PySem.Challenge.pw_untoldrule_k21_whole_rows_are_least.main.body.getD i (.Pass ⟨0, 0, 0, 0⟩)
local macro_rules | `(tactic| walk_at "rd") => `(tactic| simp only [tSeq, tAsg, tOp, tCB, tCons, tNil, tVar, tC, rI, rI0, gName, tRet, L2.start, List.length_cons, List.length_nil, List.map_cons, List.map_nil, List.replicate, List.cons_append, List.nil_append, List.getElem?_cons_zero, List.getElem?_cons_succ, List.set_cons_zero, List.set_cons_succ, Option.some.injEq, exists_eq_left', exists_eq_left, V.int.injEq, V.bl.injEq, V.str.injEq, V.ref.injEq, V.ty.injEq, List.cons.injEq, and_true, true_and, reduceCtorEq, false_and, exists_false, or_false, false_or, exists_and_left, exists_and_right])
/-- names that the module does not take -/
structure Nm (mg : Str → Option Value) : Prop where
  n_int : mg "int" = none
  n_bool : mg "bool" = none
  n_str : mg "str" = none
  n_list : mg "list" = none
  n_tuple : mg "tuple" = none
  n_set : mg "set" = none
  n_len : mg "len" = none
  n_abs : mg "abs" = none
  n_all : mg "all" = none
  n_iter : mg "iter" = none
  n_range : mg "range" = none
  n_zip : mg "zip" = none
  n_isinstance : mg "isinstance" = none
  c_LETTERS : ∃ u, mg "LETTERS" = some u ∧ RelV (.str "abcdefghijklmnopqrstuvwxyz") u
  c_MOST_LETTERS : ∃ u, mg "MOST_LETTERS" = some u ∧ RelV (.int 8) u
  c_MOST_CELLS : ∃ u, mg "MOST_CELLS" = some u ∧ RelV (.int 3) u
  c_MOST_SIZE : ∃ u, mg "MOST_SIZE" = some u ∧ RelV (.int 3) u
/-- list or tuple -/
def ItA : Kd → PySem.W.Frag → Addr → It
  | .l, K, a => Itl K a
  | .t, K, a => Itt K a
def iAny (K : PySem.W.Frag) (te : TE) : TI := fun σ H R => iList K te σ H R ∨ iTup K te σ H R
theorem pi_any {X : Cx} {tg l : Expr} {tl : TE} (hl : PE X l tl) : PI X tg l (iAny X.K tl) :=
  ⟨fun pins s σ H R I h => h.elim (fun z => (pi_list hl).run pins s σ H R I z) fun z => (pi_tup hl).run pins s σ H R I z⟩
def SqA (K : PySem.W.Frag) (H : Hp) (a : Addr) (xs : List V) : Prop := ∃ k : Kd, k.Sq K H a xs
theorem iAny_var {K : PySem.W.Frag} {i : Nat} {σ : L2.St} {H : Hp} {R : It → Hp → Prop} : iAny K (tVar i) σ H R ↔ ∃ v a k, σ[i]? = some (some v) ∧ v = .ref a ∧ (∃ xs, Kd.Sq k K H a xs) ∧ R (ItA k K a) H := by
  constructor
  · rintro (⟨v, h, a, e, x, r⟩ | ⟨v, h, a, e, x, r⟩)
    · exact ⟨v, a, .l, h, e, x, r⟩
    · exact ⟨v, a, .t, h, e, x, r⟩
  · rintro ⟨v, a, k, h, e, x, r⟩
    cases k
    · exact .inl ⟨v, h, a, e, x, r⟩
    · exact .inr ⟨v, h, a, e, x, r⟩
theorem walk_any {K : PySem.W.Frag} {a : Addr} {xs : List V} : ∀ k : Kd, L2.Walk (ItA k K a) xs.length (fun H => k.Sq K H a xs) (L2.YAt xs)
  | .l => L2.walk_list
  | .t => L2.walk_tup
theorem Kd.same {k : Kd} {K : PySem.W.Frag} {a : Addr} {H H' : Hp} {xs : List V} (s : Same H H') (h : k.Sq K H a xs) : k.Sq K H' a xs := match k, h with
  | .l, h => UL.Same.sqL s h
  | .t, h => UL.Same.sqT s h
theorem Kd.len {k : Kd} {K : PySem.W.Frag} {a : Addr} {H : Hp} {Q : VK} {xs : List V} (h : k.Sq K H a xs) (q : Q (.int xs.length) H) : cLen K [.ref a] H Q := match k, h with
  | .l, h => lenL h q
  | .t, h => lenT h q
theorem Kd.or {k : Kd} {K : PySem.W.Frag} {a : Addr} {H : Hp} {xs : List V} (h : k.Sq K H a xs) : SqL K H a xs ∨ SqT K H a xs := match k, h with
  | .l, h => .inl h
  | .t, h => .inr h
theorem fj_any {K : PySem.W.Frag} {a : Addr} {xs : List V} {g : TG} {tb : TS} {D : Ends} {σ : L2.St} {H : Hp} (k : Kd) (Pv : Nat → L2.St → Hp → Prop) (h0 : Pv 0 σ H) (hl : ∀ i σ H, i ≤ xs.length → Pv i σ H → k.Sq K H a xs)
    (hs : ∀ i x σ H, xs[i]? = some x → Pv i σ H → g x σ H fun σ2 H2 => tb { D with nx := Pv (i + 1), ct := Pv (i + 1), bk := D.nx } σ2 H2) (hd : ∀ σ H, Pv xs.length σ H → D.nx σ H) : FJ (ItA k K a) g tb D σ H := match k, hl with
  | .l, hl => FJ.list Pv h0 hl hs hd
  | .t, hl => FJ.tup Pv h0 hl hs hd
/-- what isinstance asks of an own class -/
structure CI (K : PySem.W.Frag) (C : Addr) : Prop where
  ha : PySem.W.findIn K (.ref C) "__class__" = some (some (.builtin "object.__class__"))
  hn : PySem.W.specialIn K (.builtin "object.__class__") "__get__" = some (some (.builtin "getset_descriptor.__get__"))
  ht : PySem.W.takesIn K (.builtin "object.__class__") = some true
  hm : PySem.W.mroIn K C (.type "object") = some true
theorem CI.ty {K : PySem.W.Frag} {C a dx : Addr} {fs : List (Str × V)} {H : Hp} (i : CI K C) (c : Cls K C) (e : H a = some (.ins C dx fs)) : TyX K H (.ref a) (.ref C) := .base (.ins e c i.ha i.hn i.ht i.hm)
/-- what the top of the programs leaves -/
structure PT (K : PySem.W.Frag) (mg : Str → Option Value) (R Wr B Pg : Addr) : Prop extends Nm mg where
  n_enumerate : mg "enumerate" = none
  c_MOST_STEPS : ∃ u, mg "MOST_STEPS" = some u ∧ RelV (.int 4) u
  c_MOST_ARGUMENTS : ∃ u, mg "MOST_ARGUMENTS" = some u ∧ RelV (.int 3) u
  c_Read : ∃ u, mg "Read" = some u ∧ RelV (.ref R) u
  c_Write : ∃ u, mg "Write" = some u ∧ RelV (.ref Wr) u
  c_ReadWrite : ∃ u, mg "ReadWrite" = some u ∧ RelV (.ref B) u
  cR : Cls K R
  cW : Cls K Wr
  cB : Cls K B
  cP : Cls K Pg
  aR_source : NoAttr K R "source"
  aR_local : NoAttr K R "local"
  aW_target : NoAttr K Wr "target"
  aW_function : NoAttr K Wr "function"
  aW_arguments : NoAttr K Wr "arguments"
  aB_source : NoAttr K B "source"
  aB_local : NoAttr K B "local"
  aB_target : NoAttr K B "target"
  aB_function : NoAttr K B "function"
  aB_arguments : NoAttr K B "arguments"
  aP_name : NoAttr K Pg "name"
  aP_steps : NoAttr K Pg "steps"
  iR : CI K R
  iW : CI K Wr
  iB : CI K B
  kRR : PySem.W.kitOne K (.ref R) (.ref R) = some true
  kWR : PySem.W.kitOne K (.ref Wr) (.ref R) = some false
  kBR : PySem.W.kitOne K (.ref B) (.ref R) = some true
  kRW : PySem.W.kitOne K (.ref R) (.ref Wr) = some false
  kRB : PySem.W.kitOne K (.ref R) (.ref B) = some false
  kWW : PySem.W.kitOne K (.ref Wr) (.ref Wr) = some true
  kWB : PySem.W.kitOne K (.ref Wr) (.ref B) = some false
  kBW : PySem.W.kitOne K (.ref B) (.ref Wr) = some true
  kBB : PySem.W.kitOne K (.ref B) (.ref B) = some true
end U
set_option Elab.async false
set_option linter.all false
set_option maxRecDepth 100000
set_option maxHeartbeats 4000000
set_option pp.deepTerms true
set_option pp.maxSteps 400000
namespace U
open PySem PySem.Spec PyProof.Rows L2 UL UX
local macro_rules | `(tactic| walk_at "rd") => `(tactic| simp only [sMatch, tJs, tFmt, tBC, tMethA, tMakeL, iEnumS, tSeq, tAsg, tOp, tCB, tCons, tNil, tVar, tC, tB, tTest, tNot, tIfS, tNext, tYes, tUn, rU, tM0, tGFrom, tGThen, tG0, tYfLst, gcxK, tSubO, tProp, tListG, tMethG, tBMF, tFld, sFld, tMeth, tMake, tSl, tNoPart, tPart, tM1, gTup, gCons, gNil, tDrop, tFor_eq, tLc_eq, tLc2_eq, iRng1_eq, StX.tStar, iList, iTup, iStr, iAny_var, iZipB, tLenSetS, wipe, tVar, tAndV, tOrV, tNotV, tOr, tAnd, tLst, tTup, tBM, tBM0, tChain, tCall, cxK, noxK, addII, addSS, mulII, eqII, neII, neSS, cIntI, cAbsI, rI, rI0, rLt, rLe, rGt_, rGe_, rSub_, rMod, rPow, rDivW, rNeg, gName, tRet, L2.start, List.length_cons, List.length_nil, List.map_cons, List.map_nil, List.replicate, List.cons_append, List.nil_append, List.getElem?_cons_zero, List.getElem?_cons_succ, List.set_cons_zero, List.set_cons_succ, Option.some.injEq, exists_eq_left', exists_eq_left, V.int.injEq, V.bl.injEq, V.str.injEq, V.ref.injEq, V.ty.injEq, List.cons.injEq, and_true, true_and, reduceCtorEq, false_and, exists_false, or_false, false_or, exists_and_left, exists_and_right, List.append_nil, forall_eq, decide_eq_true_eq, Bool.not_eq_true, Nat.reduceAdd, Nat.reduceSub, List.replicate_zero, List.replicate_succ, Nat.zero_le, ite_true, ite_false, if_true, if_false])
section
variable {P : Program} {w : World} {K : PySem.W.Frag} {mg : Str → Option Value} {base : Heap}
abbrev abc : Str := "abcdefghijklmnopqrstuvwxyz"
def nmB (z : Str) : Bool := decide (1 ≤ z.length) && decide (z.length ≤ 8) && z.cps.toList.all fun c => decide (c ∈ abc.cps.toList)
abbrev s_is_name : Stmt := top 16
abbrev sc_is_name_N : List Str := ["word", ".0", "letter"]
theorem sc_is_name : FnScope sc_is_name_N ["word"] (defScope s_is_name) := ⟨rfl, rfl, rfl, by decide +kernel, rfl, by decide +kernel, by decide +kernel⟩
-- 0 word, 1 .0, 2 letter
/-- any text -/
def sp_isnm : Sp := fun vs H Q _ => ∃ z : Str, vs = [.str z] ∧ z.length ≤ 1000 ∧ ∀ H', Same H H' → Q (.bl (nmB z)) H'
theorem d_isnm (T : Nm mg) (D : TD K mg "is_name" s_is_name) : Dn P w K mg base CX0 1 "is_name" sp_isnm := by
  refine D.dn sc_is_name (fun _ _ _ _ _ _ us hl => match us, hl with | [_], _ => rfl) (fun vs H Q E h => ?_) (fun f cdv A outer s H vs Q E hr h => ?_)
  · obtain ⟨p, rfl, _⟩ := h; rfl
  · obtain ⟨z, rfl, hz, q⟩ := h
    refine ⟨_, (pss_one (ps_ret (pe_and (pe_chain op_leA op_leA pe_int (pe_callB call_lenA (by rfl) T.n_len (by decide +kernel) (pa_cons (pv 0) pa_nil)) (C8.pe_gc (by rfl) T.c_MOST_LETTERS)) (pe_one (pe_callB (cr_all rfl) (by rfl) T.n_all (by decide +kernel) (pa_cons (pe_lc (own := [(".0", 1), ("letter", 2)]) (g := (gName 2)) (tt := tYes) rfl sc_is_name.nd (pi_str (pv 0)) (blkOk_by (N := sc_is_name_N) (sc := defScope s_is_name) (by decide +kernel)) (fun _ _ _ _ _ => pg_name (i := 2) sc_is_name.nd rfl (Or.inl rfl)) (fun _ _ _ _ _ => pts_nil) (fun _ _ _ _ _ => (pe_cmpR (op_inK K rfl) (pv 2) (C8.pe_gc (by rfl) T.c_LETTERS) (by with_unfolding_all rfl)))) pa_nil)))))), ?_⟩
    walk_at "rd"
    have hl : z.cps.size = z.length := rfl
    refine lenS (by rw [sizeLine_eq]; omega) ⟨_, rfl, ?_⟩
    by_cases h1 : 1 ≤ z.length
    · rw [if_pos (by omega)]
      refine ⟨_, rfl, ?_⟩
      by_cases h2 : z.length ≤ 8
      · rw [if_pos (by omega)]
        refine fun D hD => LJ.it walk_str (fun i H' => ∃ bs : List Bool, bs = (z.cps.toList.take i).map (fun c => decide (c ∈ abc.cps.toList)) ∧ H' = upd H D (.lst (bs.map V.bl))) ⟨[], rfl, rfl⟩ (fun _ _ _ _ => trivial) (fun i x H1 H2 hi e y => ?_) fun H2 e => ?_
        · obtain ⟨rfl, c, hc, rfl⟩ := y
          obtain ⟨bs, hb, rfl⟩ := e
          refine ⟨rfl, ?_⟩
          walk_at "rd"
          have hbl : bs.length ≤ 8 := by rw [hb, List.length_map, List.length_take, Array.length_toList]; omega
          refine .inl ⟨c, _, rfl, rfl, _, upd_same, by rw [List.length_map, sizeLine_eq]; omega, ?_⟩
          have hc' : z.cps.toList[i]? = some c := by rw [Array.getElem?_toList]; exact hc
          rw [upd_upd, List.take_add_one, hc', hb]
          simp
        · obtain ⟨bs, hb, rfl⟩ := e
          refine ⟨D, bs, rfl, .inl (.inl upd_same), ?_⟩
          have e1 : bs.all id = nmB z := by
            have hn : z.cps.toList.take z.cps.size = z.cps.toList := List.take_of_length_le (by simp)
            rw [hb]
            simp only [hn, nmB, decide_eq_true h1, decide_eq_true h2, Bool.true_and, List.all_map]
            rfl
          rw [e1]; exact q _ (UL.Same.new hD)
      · rw [if_neg (by omega)]
        have e1 : nmB z = false := by simp [nmB, h2]
        rw [← e1]; exact q _ fun _ _ z => z
    · rw [if_neg (by omega)]
      have e1 : nmB z = false := by simp [nmB, h1]
      rw [← e1]; exact q _ fun _ _ z => z
theorem len_app (x y : Str) : (x ++ y).length = x.length + y.length := by show (x.cps ++ y.cps).size = _; simp; rfl
-- 0 source, 1 local
def rdT (s l : Str) : Str := "read " ++ s ++ " as " ++ l
def wrT (t f : Str) (xs : List Str) : List Str := (("write" : Str) :: t :: ("by" : Str) :: f :: (if xs = [] then [] else ("of" : Str) :: xs))
theorem sum_le {m : Nat} : ∀ {l : List Str}, (∀ x ∈ l, x.length ≤ m) → (l.map (·.length)).sum ≤ l.length * m
  | [], _ => by simp
  | x :: r, h => by
    have h1 := h x List.mem_cons_self
    have h2 := sum_le (l := r) fun y hy => h y (List.mem_cons_of_mem _ hy)
    rw [List.map_cons, List.sum_cons, List.length_cons, Nat.add_mul]
    omega
theorem FT.sq {H : Hp} {a : Addr} {xs : List V} (h : FT H a xs) : SqT K H a xs := let ⟨o, e, _⟩ := h; .inl (.inr ⟨o, e⟩)
theorem FT.same {H H' : Hp} {a : Addr} {xs : List V} (s : Same H H') (h : FT H a xs) : FT H' a xs := let ⟨o, e, d⟩ := h; ⟨o, s _ _ e, d⟩
theorem FT.but {H H' : Hp} {a p : Addr} {xs : List V} (s : But p H H') (n : a ≠ p) (h : FT H a xs) : FT H' a xs := let ⟨o, e, d⟩ := h; ⟨o, s _ _ e n, d⟩
theorem FT.ne {H : Hp} {a p : Addr} {xs : List V} (h : FT H a xs) (hp : H p = none) : a ≠ p := let ⟨_, e, _⟩ := h; ne_of_none e hp
theorem l_write : ("write" : Str).length = 5 := by decide +kernel
theorem l_by : ("by" : Str).length = 2 := by decide +kernel
theorem l_of : ("of" : Str).length = 2 := by decide +kernel
theorem l_sp : (" " : Str).length = 1 := by decide +kernel
theorem wr_len {t f : Str} {xs : List Str} (ht : t.length ≤ 1000) (hf : f.length ≤ 1000) (hx : ∀ x ∈ xs, x.length ≤ 1000) : ∀ x ∈ wrT t f xs, x.length ≤ 1000 := by
  intro x h
  unfold wrT at h
  rcases List.mem_cons.mp h with rfl | h
  · rw [l_write]; omega
  rcases List.mem_cons.mp h with rfl | h
  · exact ht
  rcases List.mem_cons.mp h with rfl | h
  · rw [l_by]; omega
  rcases List.mem_cons.mp h with rfl | h
  · exact hf
  by_cases e : xs = []
  · rw [if_pos e] at h; cases h
  · rw [if_neg e] at h
    rcases List.mem_cons.mp h with rfl | h
    · rw [l_of]; omega
    · exact hx x h
theorem wr_many {t f : Str} {xs : List Str} : (wrT t f xs).length ≤ xs.length + 5 := by
  unfold wrT
  by_cases e : xs = []
  · rw [if_pos e]; simp
  · rw [if_neg e]; simp
-- 0 target, 1 function, 2 arguments, 3 words
end
end U
set_option Elab.async false
set_option linter.all false
set_option maxRecDepth 100000
set_option maxHeartbeats 4000000
set_option pp.deepTerms true
set_option pp.maxSteps 400000
namespace U
open PySem PySem.Spec PyProof.Rows L2 UL UX
local macro_rules | `(tactic| walk_at "rd") => `(tactic| simp only [sMatch, tJs, tFmt, tBC, tMethA, tMakeL, iEnumS, tSeq, tAsg, tOp, tCB, tCons, tNil, tVar, tC, tB, tTest, tNot, tIfS, tNext, tYes, tUn, rU, tM0, tGFrom, tGThen, tG0, tYfLst, gcxK, tSubO, tProp, tListG, tMethG, tBMF, tFld, sFld, tMeth, tMake, tSl, tNoPart, tPart, tM1, gTup, gCons, gNil, tDrop, tFor_eq, tLc_eq, tLc2_eq, iRng1_eq, StX.tStar, iList, iTup, iStr, iAny_var, iZipB, tLenSetS, wipe, tVar, tAndV, tOrV, tNotV, tOr, tAnd, tLst, tTup, tBM, tBM0, tChain, tCall, cxK, noxK, addII, addSS, mulII, eqII, neII, neSS, cIntI, cAbsI, rI, rI0, rLt, rLe, rGt_, rGe_, rSub_, rMod, rPow, rDivW, rNeg, gName, tRet, L2.start, List.length_cons, List.length_nil, List.map_cons, List.map_nil, List.replicate, List.cons_append, List.nil_append, List.getElem?_cons_zero, List.getElem?_cons_succ, List.set_cons_zero, List.set_cons_succ, Option.some.injEq, exists_eq_left', exists_eq_left, V.int.injEq, V.bl.injEq, V.str.injEq, V.ref.injEq, V.ty.injEq, List.cons.injEq, and_true, true_and, reduceCtorEq, false_and, exists_false, or_false, false_or, exists_and_left, exists_and_right, List.append_nil, forall_eq, decide_eq_true_eq, Bool.not_eq_true, Nat.reduceAdd, Nat.reduceSub, List.replicate_zero, List.replicate_succ, Nat.zero_le, ite_true, ite_false, if_true, if_false])
section
variable {P : Program} {w : World} {K : PySem.W.Frag} {mg : Str → Option Value} {base : Heap}
/-- a step: a read, a write, both -/
inductive Sk where
  | rd (s l : Str)
  | wr (t f : Str) (xs : List Str)
  | rw (s l t f : Str) (xs : List Str)
def fsR (s l : Str) : List (Str × V) := [("source", .str s), ("local", .str l)]
def fsW (t f : Str) (p : Addr) : List (Str × V) := [("target", .str t), ("function", .str f), ("arguments", .ref p)]
def Sk.cls (R Wr B : Addr) : Sk → Addr
  | .rd .. => R
  | .wr .. => Wr
  | .rw .. => B
def Sk.src : Sk → List Str
  | .rd s _ | .rw s _ _ _ _ => [s]
  | .wr .. => []
def Sk.tgt : Sk → List Str
  | .rd .. => []
  | .wr t _ _ | .rw _ _ t _ _ => [t]
def Sk.line : Sk → Str
  | .rd s l => rdT s l
  | .wr t f xs => Txt.join " " (wrT t f xs)
  | .rw s l t f xs => rdT s l ++ " " ++ Txt.join " " (wrT t f xs)
def Sk.small : Sk → Prop
  | .rd s l => s.length ≤ 1000 ∧ l.length ≤ 1000
  | .wr t f xs => t.length ≤ 1000 ∧ f.length ≤ 1000 ∧ (∀ x ∈ xs, x.length ≤ 1000) ∧ xs.length ≤ 100
  | .rw s l t f xs => (s.length ≤ 1000 ∧ l.length ≤ 1000) ∧ t.length ≤ 1000 ∧ f.length ≤ 1000 ∧ (∀ x ∈ xs, x.length ≤ 1000) ∧ xs.length ≤ 100
/-- the object at a is this step -/
def StA (H : Hp) (R Wr B a : Addr) : Sk → Prop
  | .rd s l => ∃ dx, H a = some (.ins R dx (fsR s l))
  | .wr t f xs => ∃ dx p, H a = some (.ins Wr dx (fsW t f p)) ∧ FT H p (xs.map V.str)
  | .rw s l t f xs => ∃ dx p, H a = some (.ins B dx (fsR s l ++ fsW t f p)) ∧ FT H p (xs.map V.str)
theorem StA.same {H H' : Hp} {R Wr B a : Addr} {k : Sk} (s : Same H H') (h : StA H R Wr B a k) : StA H' R Wr B a k := by
  cases k with
  | rd => obtain ⟨dx, e⟩ := h; exact ⟨dx, s _ _ e⟩
  | wr => obtain ⟨dx, p, e, q⟩ := h; exact ⟨dx, p, s _ _ e, FT.same s q⟩
  | rw => obtain ⟨dx, p, e, q⟩ := h; exact ⟨dx, p, s _ _ e, FT.same s q⟩
variable {R Wr B Pg : Addr}
theorem n12 : ("source" : Str) ≠ "local" := by decide +kernel
theorem n13 : ("source" : Str) ≠ "target" := by decide +kernel
theorem n14 : ("source" : Str) ≠ "function" := by decide +kernel
theorem n15 : ("source" : Str) ≠ "arguments" := by decide +kernel
theorem n23 : ("local" : Str) ≠ "target" := by decide +kernel
theorem n24 : ("local" : Str) ≠ "function" := by decide +kernel
theorem n25 : ("local" : Str) ≠ "arguments" := by decide +kernel
theorem n34 : ("target" : Str) ≠ "function" := by decide +kernel
theorem n35 : ("target" : Str) ≠ "arguments" := by decide +kernel
theorem n45 : ("function" : Str) ≠ "arguments" := by decide +kernel
abbrev s_Read___init__ : Stmt := inClass (top 22) 0
abbrev sc_Read___init___N : List Str := ["self", "source", "local"]
theorem sc_Read___init__ : FnScope sc_Read___init___N ["self", "source", "local"] (defScope s_Read___init__) := ⟨rfl, rfl, rfl, by decide +kernel, rfl, by decide +kernel, by decide +kernel⟩
-- 0 self, 1 source, 2 local
def sp_initR (R B : Addr) : Sp := fun vs H Q _ => ∃ (x dx C : Addr) (s l : Str), vs = [.ref x, .str s, .str l] ∧ (C = R ∨ C = B) ∧ H x = some (.ins C dx []) ∧ Q .non (upd H x (.ins C dx (fsR s l)))
theorem m_initR {C0 : Addr} (T : PT K mg R Wr B Pg) (D : MD K C0 "__init__" "Read.__init__" s_Read___init__) : Mn P w K mg base CX0 1 C0 "__init__" (sp_initR R B) := by
  refine D.mn sc_Read___init__ (fun _ _ _ _ _ _ us hl => match us, hl with | [_, _, _], _ => rfl) (fun vs H Q E h => ?_) (fun f cdv A outer s H vs Q E hr h => ?_)
  · obtain ⟨x, dx, C, s, l, rfl, _⟩ := h; rfl
  · obtain ⟨x, dx, C, sr, l, rfl, hC, hx, q⟩ := h
    have c1 : Cls K C := by rcases hC with rfl | rfl; exact T.cR; exact T.cB
    have c2 : NoAttr K C "source" := by rcases hC with rfl | rfl; exact T.aR_source; exact T.aB_source
    have c3 : NoAttr K C "local" := by rcases hC with rfl | rfl; exact T.aR_local; exact T.aB_local
    refine ⟨_, (pss_cons (ps_fld (pv 0) (pv 1) rfl)
      (pss_one (ps_fld (pv 0) (pv 2) rfl))), ?_⟩
    walk_at "rd"
    refine ⟨C, dx, [], hx, c1, c2, by decide, C, dx, _, upd_same, c1, c3, by show 1 < 1000; decide, ?_⟩
    rw [upd_upd]
    have e : putF "local" (V.str l) (putF "source" (V.str sr) []) = fsR sr l := by simp [putF, n12, fsR]
    rw [e]; exact q
theorem sqL_ins {H : Hp} {x b C dx : Addr} {f0 : List (Str × V)} {o : HO} {ys : List V} (hx : H x = some (.ins C dx f0)) (h : SqL K H b ys) : SqL K (upd H x o) b ys := by
  rcases h with (h | ⟨o', h⟩) | h
  · exact .inl (.inl (by rw [upd_ne (fun e => by rw [e, hx] at h; cases h)]; exact h))
  · exact .inl (.inr ⟨o', by rw [upd_ne (fun e => by rw [e, hx] at h; cases h)]; exact h⟩)
  · exact .inr h
theorem FT.ins {H : Hp} {x b C dx : Addr} {f0 : List (Str × V)} {o : HO} {ys : List V} (hx : H x = some (.ins C dx f0)) (h : FT H b ys) : FT (upd H x o) b ys := by
  obtain ⟨o', h, d⟩ := h
  exact ⟨o', by rw [upd_ne (fun e => by rw [e, hx] at h; cases h)]; exact h, d⟩
abbrev s_Write___init__ : Stmt := inClass (top 23) 0
abbrev sc_Write___init___N : List Str := ["self", "target", "function", "arguments"]
theorem sc_Write___init__ : FnScope sc_Write___init___N ["self", "target", "function", "arguments"] (defScope s_Write___init__) := ⟨rfl, rfl, rfl, by decide +kernel, rfl, by decide +kernel, by decide +kernel⟩
-- 0 self, 1 target, 2 function, 3 arguments
/-- the arguments: a list, or a tuple as it was laid -/
def sp_initW (K : PySem.W.Frag) (Wr B : Addr) : Sp := fun vs H Q _ => ∃ (x dx C b : Addr) (t f : Str) (xs : List Str) (f0 : List (Str × V)), vs = [.ref x, .str t, .str f, .ref b] ∧ (C = Wr ∧ f0 = [] ∨ C = B ∧ ∃ s l, f0 = fsR s l) ∧ H x = some (.ins C dx f0) ∧
  (SqL K H b (xs.map V.str) ∨ FT H b (xs.map V.str)) ∧ ∀ p H', FT H' p (xs.map V.str) → H' x = some (.ins C dx (f0 ++ fsW t f p)) → But x H H' → Q .non H'
theorem m_initW {C0 : Addr} (T : PT K mg R Wr B Pg) (D : MD K C0 "__init__" "Write.__init__" s_Write___init__) : Mn P w K mg base CX0 1 C0 "__init__" (sp_initW K Wr B) := by
  refine D.mn sc_Write___init__ (fun _ _ _ _ _ _ us hl => match us, hl with | [_, _, _, _], _ => rfl) (fun vs H Q E h => ?_) (fun f cdv A outer s H vs Q E hr h => ?_)
  · obtain ⟨x, dx, C, b, t, f, xs, f0, rfl, _⟩ := h; rfl
  · obtain ⟨x, dx, C, b, t, fn, xs, f0, rfl, hC, hx, hb, q⟩ := h
    have c1 : Cls K C := by rcases hC with ⟨rfl, _⟩ | ⟨rfl, _⟩; exact T.cW; exact T.cB
    have c2 : NoAttr K C "target" := by rcases hC with ⟨rfl, _⟩ | ⟨rfl, _⟩; exact T.aW_target; exact T.aB_target
    have c3 : NoAttr K C "function" := by rcases hC with ⟨rfl, _⟩ | ⟨rfl, _⟩; exact T.aW_function; exact T.aB_function
    have c4 : NoAttr K C "arguments" := by rcases hC with ⟨rfl, _⟩ | ⟨rfl, _⟩; exact T.aW_arguments; exact T.aB_arguments
    have p1 : putF "target" (V.str t) f0 = f0 ++ [(("target" : Str), V.str t)] := by rcases hC with ⟨_, rfl⟩ | ⟨_, s, l, rfl⟩ <;> simp [putF, fsR, n13, n23, Ne.symm n13, Ne.symm n23]
    have p2 : putF "function" (V.str fn) (f0 ++ [(("target" : Str), V.str t)]) = f0 ++ [(("target" : Str), V.str t), (("function" : Str), V.str fn)] := by rcases hC with ⟨_, rfl⟩ | ⟨_, s, l, rfl⟩ <;> simp [putF, fsR, n14, n24, n34, Ne.symm n14, Ne.symm n24, Ne.symm n34]
    have p3 : ∀ p : Addr, putF "arguments" (V.ref p) (f0 ++ [(("target" : Str), V.str t), (("function" : Str), V.str fn)]) = f0 ++ fsW t fn p := fun p => by rcases hC with ⟨_, rfl⟩ | ⟨_, s, l, rfl⟩ <;> simp [putF, fsR, fsW, n15, n25, n35, n45, Ne.symm n15, Ne.symm n25, Ne.symm n35, Ne.symm n45]
    have lf : f0.length ≤ 2 := by rcases hC with ⟨_, rfl⟩ | ⟨_, s, l, rfl⟩ <;> simp [fsR]
    refine ⟨_, (pss_cons (ps_fld (pv 0) (pv 1) rfl)
      (pss_cons (ps_fld (pv 0) (pv 2) rfl)
      (pss_one (ps_fld (pv 0) (pe_callTy call_tupG (by rfl) T.n_tuple (by decide +kernel) (pa_cons (pv 3) pa_nil)) rfl)))), ?_⟩
    walk_at "rd"
    refine ⟨C, dx, f0, hx, c1, c2, by omega, C, dx, _, upd_same, c1, c3, by rw [p1]; simp; omega, ?_⟩
    rw [upd_upd, p1, p2]
    have b1 : ∀ o : HO, But x H (upd H x o) := fun o => But.at_
    rcases hb with hb | hb
    · refine ⟨b, _, rfl, .inl ⟨sqL_ins hx hb, fun l o hl ho hs => ?_⟩⟩
      have nx : x ≠ l := ne_of_none upd_same hl
      refine ⟨C, dx, _, by rw [upd_ne nx]; exact upd_same, c1, c4, by simp; omega, ?_⟩
      rw [p3]
      refine q l _ ⟨o, by rw [upd_ne (Ne.symm nx)]; exact upd_same, ho, hs⟩ upd_same fun c u e n => ?_
      rw [upd_ne n, upd_ne (ne_of_none (b1 _ c u e n) hl)]
      exact b1 _ c u e n
    · refine ⟨b, _, rfl, .inr ⟨FT.sq (FT.ins hx hb), C, dx, _, upd_same, c1, c4, by simp; omega, ?_⟩⟩
      rw [p3, upd_upd]
      exact q b _ (FT.ins hx hb) upd_same (b1 _)
abbrev s_ReadWrite___init__ : Stmt := inClass (top 24) 0
abbrev sc_ReadWrite___init___N : List Str := ["self", "source", "local", "target", "function", "arguments"]
theorem sc_ReadWrite___init__ : FnScope sc_ReadWrite___init___N ["self", "source", "local", "target", "function", "arguments"] (defScope s_ReadWrite___init__) := ⟨rfl, rfl, rfl, by decide +kernel, rfl, by decide +kernel, by decide +kernel⟩
-- 0 self, 1 source, 2 local, 3 target, 4 function, 5 arguments
def sp_initB (K : PySem.W.Frag) (R Wr B : Addr) : Sp := fun vs H Q _ => ∃ (x dx b : Addr) (s l t f : Str) (xs : List Str), vs = [.ref x, .str s, .str l, .str t, .str f, .ref b] ∧ H x = some (.ins B dx []) ∧ (SqL K H b (xs.map V.str) ∨ FT H b (xs.map V.str)) ∧
  ∀ H', StA H' R Wr B x (.rw s l t f xs) → But x H H' → Q .non H'
theorem m_initB (T : PT K mg R Wr B Pg) (D : MD K B "__init__" "ReadWrite.__init__" s_ReadWrite___init__) (B_Read : Bn P w K mg base 1 R "Read" "__init__" (sp_initR R B)) (B_Write : Bn P w K mg base 1 Wr "Write" "__init__" (sp_initW K Wr B)) :
    Mn P w K mg base CX0 2 B "__init__" (sp_initB K R Wr B) := by
  refine D.mn sc_ReadWrite___init__ (fun _ _ _ _ _ _ us hl => match us, hl with | [_, _, _, _, _, _], _ => rfl) (fun vs H Q E h => ?_) (fun f cdv A outer s H vs Q E hr h => ?_)
  · obtain ⟨x, dx, b, s, l, t, f, xs, rfl, _⟩ := h; rfl
  · obtain ⟨x, dx, b, sr, l, t, fn, xs, rfl, hx, hb, q⟩ := h
    refine ⟨_, (pss_cons (ps_expr (pe_b B_Read hr (by decide) (by rfl) (pa_cons (pv 0) (pa_cons (pv 1) (pa_cons (pv 2) pa_nil)))))
      (pss_one (ps_expr (pe_b B_Write hr (by decide) (by rfl) (pa_cons (pv 0) (pa_cons (pv 3) (pa_cons (pv 4) (pa_cons (pv 5) pa_nil)))))))), ?_⟩
    walk_at "rd"
    refine ⟨x, dx, B, sr, l, rfl, .inr rfl, hx, x, dx, B, b, t, fn, xs, fsR sr l, rfl, .inr ⟨rfl, _, _, rfl⟩, upd_same, hb.imp (sqL_ins hx) (FT.ins hx), fun p H' hp hx' hb' => q _ ⟨dx, p, hx', hp⟩ fun c u e n => hb' c u (by rw [upd_ne n]; exact e) n⟩
def sp_reads (R Wr B C : Addr) : Sp := fun vs H Q _ => ∃ (a : Addr) (k : Sk), vs = [.ref a] ∧ k.cls R Wr B = C ∧ StA H R Wr B a k ∧ ∀ r H', H' r = some (.tup (k.src.map V.str)) → Same H H' → Q (.ref r) H'
def sp_writes (R Wr B C : Addr) : Sp := fun vs H Q _ => ∃ (a : Addr) (k : Sk), vs = [.ref a] ∧ k.cls R Wr B = C ∧ StA H R Wr B a k ∧ ∀ r H', H' r = some (.tup (k.tgt.map V.str)) → Same H H' → Q (.ref r) H'
/-- the three classes differ -/
structure Ap (R Wr B : Addr) : Prop where
  rw : R ≠ Wr
  rb : R ≠ B
  wb : Wr ≠ B
theorem cls_rd {a : Ap R Wr B} {k : Sk} (h : k.cls R Wr B = R) : ∃ s l, k = .rd s l := by
  cases k with
  | rd s l => exact ⟨s, l, rfl⟩
  | wr => exact absurd h.symm a.rw
  | rw => exact absurd h.symm a.rb
theorem cls_wr {a : Ap R Wr B} {k : Sk} (h : k.cls R Wr B = Wr) : ∃ t f xs, k = .wr t f xs := by
  cases k with
  | rd => exact absurd h a.rw
  | wr t f xs => exact ⟨t, f, xs, rfl⟩
  | rw => exact absurd h.symm a.wb
theorem cls_rw {a : Ap R Wr B} {k : Sk} (h : k.cls R Wr B = B) : ∃ s l t f xs, k = .rw s l t f xs := by
  cases k with
  | rd => exact absurd h a.rb
  | wr => exact absurd h a.wb
  | rw s l t f xs => exact ⟨s, l, t, f, xs, rfl⟩
-- 0 self
-- 0 self
theorem join_len (y : Str) : ∀ ps : List Str, (Str.join y ps).length ≤ (ps.map (·.length)).sum + ps.length * y.length
  | [] => Nat.zero_le _
  | [p] => by show p.length ≤ _; simp
  | p :: r :: rs => by
    have e : Str.join y (p :: r :: rs) = p ++ y ++ Str.join y (r :: rs) := rfl
    have h := join_len y (r :: rs)
    rw [e, len_app, len_app, List.map_cons, List.sum_cons, List.length_cons, Nat.add_mul]
    omega
-- 0 self, 1 first, 2 second
abbrev s_Read_reads : Stmt := inClass (top 22) 2
abbrev sc_Read_reads_N : List Str := ["self"]
theorem sc_Read_reads : FnScope sc_Read_reads_N ["self"] (defScope s_Read_reads) := ⟨rfl, rfl, rfl, by decide +kernel, rfl, by decide +kernel, by decide +kernel⟩
-- 0 self
theorem m_readsR (ap : Ap R Wr B) (T : PT K mg R Wr B Pg) (D : MD K R "reads" "Read.reads" s_Read_reads) : Mn P w K mg base CX0 1 R "reads" (sp_reads R Wr B R) := by
  refine D.mn sc_Read_reads (fun _ _ _ _ _ _ us hl => match us, hl with | [_], _ => rfl) (fun vs H Q E h => ?_) (fun f cdv A outer s H vs Q E hr h => ?_)
  · obtain ⟨a, k, rfl, _⟩ := h; rfl
  · obtain ⟨a, k, rfl, hc, ha, q⟩ := h
    obtain ⟨sr, l, rfl⟩ := cls_rd (a := ap) hc
    obtain ⟨dx, ha⟩ := ha
    refine ⟨_, (pss_one (ps_ret (pe_tup (pa_cons (pe_fld (pv 0) (by rfl)) pa_nil)))), ?_⟩
    walk_at "rd"
    exact ⟨R, dx, _, ha, T.cR, T.aR_source, _, rfl, by rw [sizeLine_eq]; decide, fun p hp => q p _ upd_same (UL.Same.new hp)⟩
abbrev s_Read_writes : Stmt := inClass (top 22) 3
abbrev sc_Read_writes_N : List Str := ["self"]
theorem sc_Read_writes : FnScope sc_Read_writes_N ["self"] (defScope s_Read_writes) := ⟨rfl, rfl, rfl, by decide +kernel, rfl, by decide +kernel, by decide +kernel⟩
-- 0 self
theorem m_writesR (ap : Ap R Wr B) (T : PT K mg R Wr B Pg) (D : MD K R "writes" "Read.writes" s_Read_writes) : Mn P w K mg base CX0 1 R "writes" (sp_writes R Wr B R) := by
  refine D.mn sc_Read_writes (fun _ _ _ _ _ _ us hl => match us, hl with | [_], _ => rfl) (fun vs H Q E h => ?_) (fun f cdv A outer s H vs Q E hr h => ?_)
  · obtain ⟨a, k, rfl, _⟩ := h; rfl
  · obtain ⟨a, k, rfl, hc, ha, q⟩ := h
    obtain ⟨sr, l, rfl⟩ := cls_rd (a := ap) hc
    obtain ⟨dx, ha⟩ := ha
    refine ⟨_, (pss_one (ps_ret (pe_tup pa_nil))), ?_⟩
    walk_at "rd"
    exact fun p hp => q p _ upd_same (UL.Same.new hp)
abbrev s_Write_reads : Stmt := inClass (top 23) 2
abbrev sc_Write_reads_N : List Str := ["self"]
theorem sc_Write_reads : FnScope sc_Write_reads_N ["self"] (defScope s_Write_reads) := ⟨rfl, rfl, rfl, by decide +kernel, rfl, by decide +kernel, by decide +kernel⟩
-- 0 self
theorem m_readsW (ap : Ap R Wr B) (T : PT K mg R Wr B Pg) (D : MD K Wr "reads" "Write.reads" s_Write_reads) : Mn P w K mg base CX0 1 Wr "reads" (sp_reads R Wr B Wr) := by
  refine D.mn sc_Write_reads (fun _ _ _ _ _ _ us hl => match us, hl with | [_], _ => rfl) (fun vs H Q E h => ?_) (fun f cdv A outer s H vs Q E hr h => ?_)
  · obtain ⟨a, k, rfl, _⟩ := h; rfl
  · obtain ⟨a, k, rfl, hc, ha, q⟩ := h
    obtain ⟨t, fn, xs, rfl⟩ := cls_wr (a := ap) hc
    refine ⟨_, (pss_one (ps_ret (pe_tup pa_nil))), ?_⟩
    walk_at "rd"
    exact fun p hp => q p _ upd_same (UL.Same.new hp)
abbrev s_Write_writes : Stmt := inClass (top 23) 3
abbrev sc_Write_writes_N : List Str := ["self"]
theorem sc_Write_writes : FnScope sc_Write_writes_N ["self"] (defScope s_Write_writes) := ⟨rfl, rfl, rfl, by decide +kernel, rfl, by decide +kernel, by decide +kernel⟩
-- 0 self
theorem m_writesW (ap : Ap R Wr B) (T : PT K mg R Wr B Pg) (D : MD K Wr "writes" "Write.writes" s_Write_writes) : Mn P w K mg base CX0 1 Wr "writes" (sp_writes R Wr B Wr) := by
  refine D.mn sc_Write_writes (fun _ _ _ _ _ _ us hl => match us, hl with | [_], _ => rfl) (fun vs H Q E h => ?_) (fun f cdv A outer s H vs Q E hr h => ?_)
  · obtain ⟨a, k, rfl, _⟩ := h; rfl
  · obtain ⟨a, k, rfl, hc, ha, q⟩ := h
    obtain ⟨t, fn, xs, rfl⟩ := cls_wr (a := ap) hc
    obtain ⟨dx, p0, ha, _⟩ := ha
    refine ⟨_, (pss_one (ps_ret (pe_tup (pa_cons (pe_fld (pv 0) (by rfl)) pa_nil)))), ?_⟩
    walk_at "rd"
    exact ⟨Wr, dx, _, ha, T.cW, T.aW_target, _, rfl, by rw [sizeLine_eq]; decide, fun p hp => q p _ upd_same (UL.Same.new hp)⟩
abbrev s_ReadWrite_reads : Stmt := inClass (top 24) 2
abbrev sc_ReadWrite_reads_N : List Str := ["self"]
theorem sc_ReadWrite_reads : FnScope sc_ReadWrite_reads_N ["self"] (defScope s_ReadWrite_reads) := ⟨rfl, rfl, rfl, by decide +kernel, rfl, by decide +kernel, by decide +kernel⟩
-- 0 self
theorem m_readsB (ap : Ap R Wr B) (T : PT K mg R Wr B Pg) (D : MD K B "reads" "ReadWrite.reads" s_ReadWrite_reads) : Mn P w K mg base CX0 1 B "reads" (sp_reads R Wr B B) := by
  refine D.mn sc_ReadWrite_reads (fun _ _ _ _ _ _ us hl => match us, hl with | [_], _ => rfl) (fun vs H Q E h => ?_) (fun f cdv A outer s H vs Q E hr h => ?_)
  · obtain ⟨a, k, rfl, _⟩ := h; rfl
  · obtain ⟨a, k, rfl, hc, ha, q⟩ := h
    obtain ⟨sr, l, t, fn, xs, rfl⟩ := cls_rw (a := ap) hc
    obtain ⟨dx, p0, ha, _⟩ := ha
    refine ⟨_, (pss_one (ps_ret (pe_tup (pa_cons (pe_fld (pv 0) (by rfl)) pa_nil)))), ?_⟩
    walk_at "rd"
    exact ⟨B, dx, _, ha, T.cB, T.aB_source, _, rfl, by rw [sizeLine_eq]; decide, fun p hp => q p _ upd_same (UL.Same.new hp)⟩
abbrev s_ReadWrite_writes : Stmt := inClass (top 24) 3
abbrev sc_ReadWrite_writes_N : List Str := ["self"]
theorem sc_ReadWrite_writes : FnScope sc_ReadWrite_writes_N ["self"] (defScope s_ReadWrite_writes) := ⟨rfl, rfl, rfl, by decide +kernel, rfl, by decide +kernel, by decide +kernel⟩
-- 0 self
theorem m_writesB (ap : Ap R Wr B) (T : PT K mg R Wr B Pg) (D : MD K B "writes" "ReadWrite.writes" s_ReadWrite_writes) : Mn P w K mg base CX0 1 B "writes" (sp_writes R Wr B B) := by
  refine D.mn sc_ReadWrite_writes (fun _ _ _ _ _ _ us hl => match us, hl with | [_], _ => rfl) (fun vs H Q E h => ?_) (fun f cdv A outer s H vs Q E hr h => ?_)
  · obtain ⟨a, k, rfl, _⟩ := h; rfl
  · obtain ⟨a, k, rfl, hc, ha, q⟩ := h
    obtain ⟨sr, l, t, fn, xs, rfl⟩ := cls_rw (a := ap) hc
    obtain ⟨dx, p0, ha, _⟩ := ha
    refine ⟨_, (pss_one (ps_ret (pe_tup (pa_cons (pe_fld (pv 0) (by rfl)) pa_nil)))), ?_⟩
    walk_at "rd"
    exact ⟨B, dx, _, ha, T.cB, T.aB_target, _, rfl, by rw [sizeLine_eq]; decide, fun p hp => q p _ upd_same (UL.Same.new hp)⟩
end
end U
set_option Elab.async false
set_option linter.all false
set_option maxRecDepth 100000
set_option maxHeartbeats 4000000
set_option pp.deepTerms true
set_option pp.maxSteps 400000
namespace U
open PySem PySem.Spec PyProof.Rows L2 UL UX
local macro_rules | `(tactic| walk_at "rd") => `(tactic| simp only [sMatch, tJs, tFmt, tBC, tMethA, tMakeL, iEnumS, tSeq, tAsg, tOp, tCB, tCons, tNil, tVar, tC, tB, tTest, tNot, tIfS, tNext, tYes, tUn, rU, tM0, tGFrom, tGThen, tG0, tYfLst, gcxK, tSubO, tProp, tListG, tMethG, tBMF, tFld, sFld, tMeth, tMake, tSl, tNoPart, tPart, tM1, gTup, gCons, gNil, tDrop, tFor_eq, tLc_eq, tLc2_eq, iRng1_eq, StX.tStar, iList, iTup, iStr, iAny_var, iZipB, tLenSetS, wipe, tVar, tAndV, tOrV, tNotV, tOr, tAnd, tLst, tTup, tBM, tBM0, tChain, tCall, cxK, noxK, addII, addSS, mulII, eqII, neII, neSS, cIntI, cAbsI, rI, rI0, rLt, rLe, rGt_, rGe_, rSub_, rMod, rPow, rDivW, rNeg, gName, tRet, L2.start, List.length_cons, List.length_nil, List.map_cons, List.map_nil, List.replicate, List.cons_append, List.nil_append, List.getElem?_cons_zero, List.getElem?_cons_succ, List.set_cons_zero, List.set_cons_succ, Option.some.injEq, exists_eq_left', exists_eq_left, V.int.injEq, V.bl.injEq, V.str.injEq, V.ref.injEq, V.ty.injEq, List.cons.injEq, and_true, true_and, reduceCtorEq, false_and, exists_false, or_false, false_or, exists_and_left, exists_and_right, List.append_nil, forall_eq, decide_eq_true_eq, Bool.not_eq_true, Nat.reduceAdd, Nat.reduceSub, List.replicate_zero, List.replicate_succ, Nat.zero_le, ite_true, ite_false, if_true, if_false])
section
variable {P : Program} {w : World} {K : PySem.W.Frag} {mg : Str → Option Value} {base : Heap}
variable {R Wr B Pg : Addr}
/-- what may follow a function's name -/
def argB (ws kn : List Str) : Bool := match ws with
  | [] => true
  | x :: r => decide (x = "of") && decide (1 ≤ r.length) && decide (r.length ≤ 3) && r.all fun y => decide (y ∈ kn)
theorem cut1 {x : Str} {r : List Str} : cutV ((x :: r).map V.str) (some 1) none = r.map V.str := by
  simp [cutV, HT.sIx]
  exact List.take_of_length_le (by simp)
theorem inV_str {z : Str} {kn : List Str} : inV (.str z) (kn.map V.str) = decide (z ∈ kn) := by
  induction kn with
  | nil => simp [inV]
  | cons y r ih =>
    have e : inV (.str z) ((y :: r).map V.str) = (eqV (.str y) (.str z) || inV (.str z) (r.map V.str)) := rfl
    rw [e, ih]
    by_cases h : z = y
    · subst h; simp [eqV]
    · have h2 : eqV (.str y) (.str z) = false := by simp [eqV, Ne.symm h]
      rw [h2]; simp [h]
theorem Same.tr {H H1 H2 : Hp} (a : Same H H1) (b : Same H1 H2) : Same H H2 := fun c o e => b c o (a c o e)
abbrev s_is_argument_part : Stmt := top 32
abbrev sc_is_argument_part_N : List Str := ["words", "known", ".0", "word"]
theorem sc_is_argument_part : FnScope sc_is_argument_part_N ["words", "known"] (defScope s_is_argument_part) := ⟨rfl, rfl, rfl, by decide +kernel, rfl, by decide +kernel, by decide +kernel⟩
-- 0 words, 1 known, 2 .0, 3 word
def sp_isarg : PySem.W.Frag → Sp := fun K vs H Q _ => ∃ (a b : Addr) (ws kn : List Str), vs = [.ref a, .ref b] ∧ SqL K H a (ws.map V.str) ∧ SqL K H b (kn.map V.str) ∧ ws.length ≤ 1000 ∧ kn.length ≤ 1000 ∧ ∀ H', Same H H' → Q (.bl (argB ws kn)) H'
theorem d_isarg (T : PT K mg R Wr B Pg) (D : TD K mg "is_argument_part" s_is_argument_part) : Dn P w K mg base CX0 1 "is_argument_part" (sp_isarg K) := by
  refine D.dn sc_is_argument_part (fun _ _ _ _ _ _ us hl => match us, hl with | [_, _], _ => rfl) (fun vs H Q E h => ?_) (fun f cdv A outer s H vs Q E hr h => ?_)
  · obtain ⟨a, b, ws, kn, rfl, _⟩ := h; rfl
  · obtain ⟨a, b, ws, kn, rfl, ha, hb, hw, hn, q⟩ := h
    refine ⟨_, (pss_cons (ps_if (pt_not (pt_truth (pv 0) (fun _ => rfl))) (pss_one (ps_ret pe_bl)) pss_nil)
      (pss_cons (ps_if (pw_or (pt_cmpR (op_neA (hr.units)) (pe_ix ix_seq (pv 0) pe_int (fun _ _ => rfl)) pe_str (nomark _)) (pw_or1 (pt_not (pt_chain op_leA op_leA pe_int (pe_callB call_lenA (by rfl) T.n_len (by decide +kernel) (pa_cons (pv 0) pa_nil)) (pe_op op_addA (C8.pe_gc (by rfl) T.c_MOST_ARGUMENTS) pe_int))))).pt (pss_one (ps_ret pe_bl)) pss_nil)
      (pss_one (ps_ret (pe_callB (cr_all rfl) (by rfl) T.n_all (by decide +kernel) (pa_cons (pe_lc (own := [(".0", 2), ("word", 3)]) (g := (gName 3)) (tt := tYes) rfl sc_is_argument_part.nd (pi_list (pe_slice sl_list (pv 0) (po_some pe_int) po_none)) (blkOk_by (N := sc_is_argument_part_N) (sc := defScope s_is_argument_part) (by decide +kernel)) (fun _ _ _ _ _ => pg_name (i := 3) sc_is_argument_part.nd rfl (Or.inl rfl)) (fun _ _ _ _ _ => pts_nil) (fun _ _ _ _ _ => (pe_cmpR (op_inK K rfl) (pv 3) (pv 1) (by with_unfolding_all rfl)))) pa_nil)))))), ?_⟩
    walk_at "rd"
    cases ws with
    | nil =>
      refine ⟨false, .inl ⟨_, ha, rfl⟩, ?_⟩
      rw [if_pos (by decide)]
      exact q _ fun _ _ z => z
    | cons x r =>
      rw [List.length_cons] at hw
      refine ⟨true, .inl ⟨_, ha, rfl⟩, ?_⟩
      rw [if_neg (by decide)]
      refine ixL ha (show atI _ ((0 : Nat) : Int) = some (V.str x) from atN rfl) (neSS.mpr ⟨_, rfl, ?_⟩)
      have no : argB (x :: r) kn = false → Q (.bl false) H := fun e => by have := q H (fun _ _ z => z); rw [e] at this; exact this
      by_cases e1 : x = "of"
      · rw [if_neg (by simp [e1])]
        refine lenL ha ⟨_, rfl, ?_⟩
        have hl : (((x :: r).map V.str).length : Int) = (r.length : Int) + 1 := by simp
        rw [hl]
        by_cases e2 : 1 ≤ r.length
        · rw [if_pos (by omega)]
          refine ⟨_, rfl, ?_⟩
          by_cases e3 : r.length ≤ 3
          · rw [if_neg (by simp; omega)]
            refine ⟨a, _, rfl, ha, fun p hp => ⟨p, rfl, ⟨_, .inl (.inl upd_same)⟩, fun D hD => ?_⟩⟩
            have ec : cutV ((x :: r).map V.str) (some 1) none = r.map V.str := cut1
            rw [ec] at hD ⊢
            have hp2 : upd H p (.lst (r.map V.str)) p = some (.lst (r.map V.str)) := upd_same
            refine LJ.it (walk_list (xs := r.map V.str)) (fun i H' => H' = upd (upd H p (.lst (r.map V.str))) D (.lst (((r.take i).map fun y => decide (y ∈ kn)).map V.bl))) rfl (fun i H' _ inv => ?_) (fun i y H1 H2 hi inv yy => ?_) fun H2 inv => ?_
            · subst inv
              exact .inl (.inl (by rw [upd_ne (ne_of_none upd_same hD)]; exact upd_same))
            · subst inv
              obtain ⟨rfl, hy⟩ := yy
              obtain ⟨z, hz, rfl⟩ : ∃ z, r[i]? = some z ∧ y = V.str z := by
                rw [List.getElem?_map] at hy
                cases e : r[i]? with
                | none => rw [e] at hy; cases hy
                | some z => rw [e] at hy; cases hy; exact ⟨z, rfl, rfl⟩
              refine ⟨rfl, ?_⟩
              walk_at "rd"
              refine .inr ⟨b, kn.map V.str, rfl, .inl ?_, rfl, by simp [flatV], _, upd_same, by simp [sizeLine_eq]; omega, ?_⟩
              · exact UL.Same.sqL (UL.Same.new hD) (UL.Same.sqL (UL.Same.new hp) hb)
              · rw [upd_upd, List.take_add_one, hz]
                simp [inV_str]
            · subst inv
              refine ⟨D, _, rfl, .inl (.inl upd_same), ?_⟩
              have ea : argB (x :: r) kn = (((r.take (r.map V.str).length).map fun y => decide (y ∈ kn)).all id) := by
                have h0 : r.take (r.map V.str).length = r := List.take_of_length_le (by simp)
                rw [h0]
                simp only [argB, e1, decide_eq_true e2, decide_eq_true e3, decide_true, Bool.true_and, List.all_map]
                rfl
              rw [← ea]
              exact q _ (UL.Same.put (UL.Same.new hp) (by
                cases e : H D with
                | none => rfl
                | some o => rw [UL.Same.new hp _ _ e] at hD; cases hD))
          · rw [if_pos (by simp; omega)]
            exact no (by simp [argB, e3])
        · rw [if_neg (by omega), if_pos (by decide)]
          exact no (by simp [argB]; omega)
      · rw [if_pos (by simp [e1])]
        exact no (by simp [argB, e1])
/-- a step, or None -/
def Gv (H : Hp) (R Wr B : Addr) (v : V) : Option Sk → Prop
  | none => v = .non
  | some k => ∃ a, v = .ref a ∧ StA H R Wr B a k
def mkR (s l : Str) : Option Sk := if (nmB s && nmB l) = true then some (.rd s l) else none
def mkW (t f : Str) (ws kn : List Str) : Option Sk := if (nmB t && nmB f && argB ws kn) = true then some (.wr t f (ws.drop 1)) else none
def mkB : Option Sk → Option Sk → Option Sk
  | some (.rd s l), some (.wr t f xs) => some (.rw s l t f xs)
  | _, _ => none
abbrev s_make_read : Stmt := top 29
abbrev sc_make_read_N : List Str := ["source", "local"]
theorem sc_make_read : FnScope sc_make_read_N ["source", "local"] (defScope s_make_read) := ⟨rfl, rfl, rfl, by decide +kernel, rfl, by decide +kernel, by decide +kernel⟩
-- 0 source, 1 local
def sp_mkR (R Wr B : Addr) : Sp := fun vs H Q _ => ∃ s l : Str, vs = [.str s, .str l] ∧ s.length ≤ 1000 ∧ l.length ≤ 1000 ∧ ∀ v H', Gv H' R Wr B v (mkR s l) → Same H H' → Q v H'
theorem d_mkR (T : PT K mg R Wr B Pg) (D : TD K mg "make_read" s_make_read) (d_is_name : Dn P w K mg base CX0 1 "is_name" sp_isnm) (k_Read : Kn P w K mg base CX0 1 R "Read" (sp_initR R B)) : Dn P w K mg base CX0 3 "make_read" (sp_mkR R Wr B) := by
  refine D.dn sc_make_read (fun _ _ _ _ _ _ us hl => match us, hl with | [_, _], _ => rfl) (fun vs H Q E h => ?_) (fun f cdv A outer s H vs Q E hr h => ?_)
  · obtain ⟨a, b, rfl, _⟩ := h; rfl
  · obtain ⟨sr, l, rfl, h1, h2, q⟩ := h
    refine ⟨_, (pss_cons (ps_if (pw_or (pt_not (pt_val (pe_d d_is_name hr (by decide) pass0 (by rfl) (pa_cons (pv 0) pa_nil)))) (pw_or1 (pt_not (pt_val (pe_d d_is_name hr (by decide) pass0 (by rfl) (pa_cons (pv 1) pa_nil)))))).pt (pss_one (ps_ret pe_non)) pss_nil)
      (pss_one (ps_ret (pe_k k_Read hr (by decide) pass0 (by rfl) (pa_cons (pv 0) (pa_cons (pv 1) pa_nil)))))), ?_⟩
    walk_at "rd"
    refine ⟨sr, rfl, h1, fun H1 s1 => ⟨_, rfl, ?_⟩⟩
    by_cases e1 : nmB sr = true
    · rw [if_neg (by simp [e1])]
      refine ⟨l, rfl, h2, fun H2 s2 => ⟨_, rfl, ?_⟩⟩
      by_cases e2 : nmB l = true
      · rw [if_neg (by simp [e2])]
        refine fun x dx hx hd hne => ⟨x, dx, R, sr, l, rfl, .inl rfl, upd_same, rfl, q _ _ ?_ ?_⟩
        · rw [mkR, if_pos (by simp [e1, e2])]
          exact ⟨x, rfl, dx, upd_same⟩
        · have s12 := Same.tr s1 s2
          exact fun c u e => by
            have e' := s12 c u e
            rw [upd_ne (ne_of_none e' hx), upd_ne (ne_of_none e' hx), upd_ne (ne_of_none e' hd)]
            exact e'
      · rw [if_pos (by simp [e2])]
        exact q _ _ (by rw [mkR, if_neg (by simp [e2])]; rfl) (Same.tr s1 s2)
    · rw [if_pos (by simp [e1])]
      exact q _ _ (by rw [mkR, if_neg (by simp [e1])]; rfl) s1
abbrev s_make_write : Stmt := top 30
abbrev sc_make_write_N : List Str := ["target", "function", "rest", "known"]
theorem sc_make_write : FnScope sc_make_write_N ["target", "function", "rest", "known"] (defScope s_make_write) := ⟨rfl, rfl, rfl, by decide +kernel, rfl, by decide +kernel, by decide +kernel⟩
-- 0 target, 1 function, 2 rest, 3 known
def sp_mkW (K : PySem.W.Frag) (R Wr B : Addr) : Sp := fun vs H Q _ => ∃ (t f : Str) (a b : Addr) (ws kn : List Str), vs = [.str t, .str f, .ref a, .ref b] ∧ t.length ≤ 1000 ∧ f.length ≤ 1000 ∧ SqL K H a (ws.map V.str) ∧ SqL K H b (kn.map V.str) ∧ ws.length ≤ 1000 ∧ kn.length ≤ 1000 ∧
  ∀ v H', Gv H' R Wr B v (mkW t f ws kn) → Same H H' → Q v H'
theorem d_mkW (T : PT K mg R Wr B Pg) (D : TD K mg "make_write" s_make_write) (d_is_name : Dn P w K mg base CX0 1 "is_name" sp_isnm) (d_is_argument_part : Dn P w K mg base CX0 1 "is_argument_part" (sp_isarg K)) (k_Write : Kn P w K mg base CX0 1 Wr "Write" (sp_initW K Wr B)) : Dn P w K mg base CX0 3 "make_write" (sp_mkW K R Wr B) := by
  refine D.dn sc_make_write (fun _ _ _ _ _ _ us hl => match us, hl with | [_, _, _, _], _ => rfl) (fun vs H Q E h => ?_) (fun f cdv A outer s H vs Q E hr h => ?_)
  · obtain ⟨t, f, a, b, ws, kn, rfl, _⟩ := h; rfl
  · obtain ⟨t, fn, a, b, ws, kn, rfl, h1, h2, ha, hb, hw, hn, q⟩ := h
    refine ⟨_, (pss_cons (ps_if (pw_or (pt_not (pt_val (pe_d d_is_name hr (by decide) pass0 (by rfl) (pa_cons (pv 0) pa_nil)))) (pw_or (pt_not (pt_val (pe_d d_is_name hr (by decide) pass0 (by rfl) (pa_cons (pv 1) pa_nil)))) (pw_or1 (pt_not (pt_val (pe_d d_is_argument_part hr (by decide) pass0 (by rfl) (pa_cons (pv 2) (pa_cons (pv 3) pa_nil)))))))).pt (pss_one (ps_ret pe_non)) pss_nil)
      (pss_one (ps_ret (pe_k k_Write hr (by decide) pass0 (by rfl) (pa_cons (pv 0) (pa_cons (pv 1) (pa_cons (pe_slice sl_list (pv 2) (po_some pe_int) po_none) pa_nil))))))), ?_⟩
    walk_at "rd"
    refine ⟨t, rfl, h1, fun H1 s1 => ⟨_, rfl, ?_⟩⟩
    by_cases e1 : nmB t = true
    · rw [if_neg (by simp [e1])]
      refine ⟨fn, rfl, h2, fun H2 s2 => ⟨_, rfl, ?_⟩⟩
      have s12 := Same.tr s1 s2
      by_cases e2 : nmB fn = true
      · rw [if_neg (by simp [e2])]
        refine ⟨a, b, ws, kn, rfl, UL.Same.sqL s12 ha, UL.Same.sqL s12 hb, hw, hn, fun H3 s3 => ⟨_, rfl, ?_⟩⟩
        have s13 := Same.tr s12 s3
        by_cases e3 : argB ws kn = true
        · rw [if_neg (by simp [e3])]
          refine ⟨a, _, rfl, UL.Same.sqL s13 ha, fun p hp x dx hx hd hne => ?_⟩
          have ec : cutV (ws.map V.str) (some 1) none = (ws.drop 1).map V.str := by
            cases ws with
            | nil => rfl
            | cons y r => exact cut1
          rw [ec] at hx hd ⊢
          have s14 : Same H (upd (upd (upd H3 p (.lst ((ws.drop 1).map V.str))) dx (.own x)) x (.ins Wr dx [])) := fun c u e => by
            have e' := s13 c u e
            have e2 := UL.Same.new (o := .lst ((ws.drop 1).map V.str)) hp c u e'
            rw [upd_ne (ne_of_none e2 hx), upd_ne (ne_of_none e2 hd)]
            exact e2
          have hxp : p ≠ x := ne_of_none upd_same hx
          have hdp : p ≠ dx := ne_of_none upd_same hd
          refine ⟨x, dx, Wr, p, t, fn, ws.drop 1, [], rfl, .inl ⟨rfl, rfl⟩, upd_same, .inl (.inl (.inl (by rw [upd_ne hxp, upd_ne hdp]; exact upd_same))), fun r H5 hr hx5 b5 => ⟨rfl, q _ _ ?_ ?_⟩⟩
          · rw [mkW, if_pos (by simp [e1, e2, e3])]
            exact ⟨x, rfl, dx, r, hx5, hr⟩
          · have hx0 : H x = none := by
              cases e : H x with
              | none => rfl
              | some o => rw [UL.Same.new hp x o (s13 x o e)] at hx; cases hx
            exact fun c u e => b5 c u (s14 c u e) (ne_of_none e hx0)
        · rw [if_pos (by simp [e3])]
          exact q _ _ (by rw [mkW, if_neg (by simp [e3])]; rfl) s13
      · rw [if_pos (by simp [e2])]
        exact q _ _ (by rw [mkW, if_neg (by simp [e2])]; rfl) s12
    · rw [if_pos (by simp [e1])]
      exact q _ _ (by rw [mkW, if_neg (by simp [e1])]; rfl) s1
abbrev s_make_both : Stmt := top 31
abbrev sc_make_both_N : List Str := ["first", "second"]
theorem sc_make_both : FnScope sc_make_both_N ["first", "second"] (defScope s_make_both) := ⟨rfl, rfl, rfl, by decide +kernel, rfl, by decide +kernel, by decide +kernel⟩
-- 0 first, 1 second
def sp_mkB (R Wr B : Addr) : Sp := fun vs H Q _ => ∃ (u v : V) (o1 o2 : Option Sk), vs = [u, v] ∧ Gv H R Wr B u o1 ∧ Gv H R Wr B v o2 ∧ (o1 = none ∨ ∃ s l, o1 = some (.rd s l)) ∧ (o2 = none ∨ ∃ t f xs, o2 = some (.wr t f xs)) ∧ ∀ v H', Gv H' R Wr B v (mkB o1 o2) → Same H H' → Q v H'
theorem d_mkB (T : PT K mg R Wr B Pg) (D : TD K mg "make_both" s_make_both) (k_ReadWrite : Kn P w K mg base CX0 2 B "ReadWrite" (sp_initB K R Wr B)) : Dn P w K mg base CX0 4 "make_both" (sp_mkB R Wr B) := by
  refine D.dn sc_make_both (fun _ _ _ _ _ _ us hl => match us, hl with | [_, _], _ => rfl) (fun vs H Q E h => ?_) (fun f cdv A outer s H vs Q E hr h => ?_)
  · obtain ⟨t, f, a, b, rfl, _⟩ := h; rfl
  · obtain ⟨u, v, o1, o2, rfl, g1, g2, c1, c2, q⟩ := h
    refine ⟨_, (pss_cons (ps_if (pw_or (pt_cmpR op_isNone (pv 0) pe_non (nomark _)) (pw_or1 (pt_cmpR op_isNone (pv 1) pe_non (nomark _)))).pt (pss_one (ps_ret pe_non)) pss_nil)
      (pss_one (ps_ret (pe_k k_ReadWrite hr (by decide) pass0 (by rfl) (pa_cons (pe_fld (pv 0) (by rfl)) (pa_cons (pe_fld (pv 0) (by rfl)) (pa_cons (pe_fld (pv 1) (by rfl)) (pa_cons (pe_fld (pv 1) (by rfl)) (pa_cons (pe_fld (pv 1) (by rfl)) pa_nil))))))))), ?_⟩
    walk_at "rd"
    rcases c1 with rfl | ⟨sr, l, rfl⟩
    · obtain rfl : u = .non := g1
      refine ⟨rfl, _, rfl, ?_⟩
      rw [if_pos (by simp)]
      exact q _ _ (show Gv H R Wr B .non none from rfl) fun _ _ z => z
    · obtain ⟨a, rfl, dxa, ha⟩ := g1
      refine ⟨rfl, _, rfl, ?_⟩
      rw [if_neg (by simp)]
      rcases c2 with rfl | ⟨t, fn, xs, rfl⟩
      · obtain rfl : v = .non := g2
        refine ⟨rfl, _, rfl, ?_⟩
        rw [if_pos (by simp)]
        exact q _ _ (show Gv H R Wr B .non none from rfl) fun _ _ z => z
      · obtain ⟨b, rfl, dxb, p, hb, hp⟩ := g2
        refine ⟨rfl, _, rfl, ?_⟩
        rw [if_neg (by simp)]
        refine ⟨a, rfl, R, dxa, _, ha, T.cR, T.aR_source, _, rfl, a, rfl, R, dxa, _, ha, T.cR, T.aR_local, _, rfl, b, rfl, Wr, dxb, _, hb, T.cW, T.aW_target, _, rfl, b, rfl, Wr, dxb, _, hb, T.cW, T.aW_function, _, rfl, b, rfl, Wr, dxb, _, hb, T.cW, T.aW_arguments, _, rfl, fun x dx hx hd hne => ?_⟩
        have s1 : Same H (upd (upd H dx (.own x)) x (.ins B dx [])) := fun c u e => by
          rw [upd_ne (ne_of_none e hx), upd_ne (ne_of_none e hd)]
          exact e
        exact ⟨x, dx, p, sr, l, t, fn, xs, rfl, upd_same, .inr (FT.same s1 hp), fun H5 st b5 => ⟨rfl, q _ _ ⟨x, rfl, st⟩ fun c u e => b5 c u (s1 c u e) (ne_of_none e hx)⟩⟩
end
end U
set_option Elab.async false
set_option linter.all false
set_option maxRecDepth 100000
set_option maxHeartbeats 4000000
set_option pp.deepTerms true
set_option pp.maxSteps 400000
namespace U
open PySem PySem.Spec PyProof.Rows L2 UL UX
local macro_rules | `(tactic| walk_at "rd") => `(tactic| simp only [sMatch, tJs, tFmt, tBC, tMethA, tMakeL, iEnumS, tSeq, tAsg, tOp, tCB, tCons, tNil, tVar, tC, tB, tTest, tNot, tIfS, tNext, tYes, tUn, rU, tM0, tGFrom, tGThen, tG0, tYfLst, gcxK, tSubO, tProp, tListG, tMethG, tBMF, tFld, sFld, tMeth, tMake, tSl, tNoPart, tPart, tM1, gTup, gCons, gNil, tDrop, tFor_eq, tLc_eq, tLc2_eq, iRng1_eq, StX.tStar, iList, iTup, iStr, iAny_var, iZipB, tLenSetS, wipe, tVar, tAndV, tOrV, tNotV, tOr, tAnd, tLst, tTup, tBM, tBM0, tChain, tCall, cxK, noxK, addII, addSS, mulII, eqII, neII, neSS, cIntI, cAbsI, rI, rI0, rLt, rLe, rGt_, rGe_, rSub_, rMod, rPow, rDivW, rNeg, gName, tRet, L2.start, List.length_cons, List.length_nil, List.map_cons, List.map_nil, List.replicate, List.cons_append, List.nil_append, List.getElem?_cons_zero, List.getElem?_cons_succ, List.set_cons_zero, List.set_cons_succ, Option.some.injEq, exists_eq_left', exists_eq_left, V.int.injEq, V.bl.injEq, V.str.injEq, V.ref.injEq, V.ty.injEq, List.cons.injEq, and_true, true_and, reduceCtorEq, false_and, exists_false, or_false, false_or, exists_and_left, exists_and_right, List.append_nil, forall_eq, decide_eq_true_eq, Bool.not_eq_true, Nat.reduceAdd, Nat.reduceSub, List.replicate_zero, List.replicate_succ, Nat.zero_le, ite_true, ite_false, if_true, if_false])
section
variable {P : Program} {w : World} {K : PySem.W.Frag} {mg : Str → Option Value} {base : Heap}
variable {R Wr B Pg : Addr}
abbrev W (ws : List Str) (i : Nat) : Str := ws.getD i Str.empty
abbrev I1 : List Itm := [.wd "read", .nm 2, .wd "as", .nm 3]
abbrev I2 : List Itm := [.wd "write", .nm 4, .wd "by", .nm 5]
abbrev I3 : List Itm := [.wd "read", .nm 2, .wd "as", .nm 3, .wd "write", .nm 4, .wd "by", .nm 5]
def hR (ws : List Str) : Prop := ws.length = 4 ∧ W ws 0 = "read" ∧ W ws 2 = "as"
def hW (ws : List Str) : Prop := 4 ≤ ws.length ∧ W ws 0 = "write" ∧ W ws 2 = "by"
def hB (ws : List Str) : Prop := 8 ≤ ws.length ∧ W ws 0 = "read" ∧ W ws 2 = "as" ∧ W ws 4 = "write" ∧ W ws 6 = "by"
instance : DecidablePred hR := fun ws => inferInstanceAs (Decidable (_ ∧ _))
instance : DecidablePred hW := fun ws => inferInstanceAs (Decidable (_ ∧ _))
instance : DecidablePred hB := fun ws => inferInstanceAs (Decidable (_ ∧ _))
/-- the step that these words tell, kn the variables read before -/
def stepO (ws kn : List Str) : Option Sk :=
  if hR ws then mkR (W ws 1) (W ws 3) else if hW ws then mkW (W ws 1) (W ws 3) (ws.drop 4) kn else if hB ws then mkB (mkR (W ws 1) (W ws 3)) (mkW (W ws 5) (W ws 7) (ws.drop 8) (kn ++ [W ws 3])) else none
theorem mt1 (ws : List Str) : UX.mt I1 ws = if hR ws then some [(2, .str (W ws 1)), (3, .str (W ws 3))] else none := by
  match ws with
  | [] => simp [UX.mt, hR]
  | [a] => simp [UX.mt, hR]
  | [a, b] => simp [UX.mt, hR]
  | [a, b, c] => simp [UX.mt, hR]
  | [a, b, c, d] =>
    by_cases h1 : a = "read" <;> by_cases h2 : c = "as" <;> simp [UX.mt, hR, W, h1, h2]
  | a :: b :: c :: d :: e :: r => simp [UX.mt, hR]
theorem mt2 (ws : List Str) (h : 4 ≤ ws.length) : UX.mt I2 (ws.take 4) = if hW ws then some [(4, .str (W ws 1)), (5, .str (W ws 3))] else none := by
  match ws, h with
  | a :: b :: c :: d :: r, _ =>
    by_cases h1 : a = "write" <;> by_cases h2 : c = "by" <;> simp [UX.mt, hW, W, h1, h2]
theorem mt3 (ws : List Str) (h : 8 ≤ ws.length) : UX.mt I3 (ws.take 8) = if hB ws then some [(2, .str (W ws 1)), (3, .str (W ws 3)), (4, .str (W ws 5)), (5, .str (W ws 7))] else none := by
  match ws, h with
  | a :: b :: c :: d :: e :: f :: g :: i :: r, _ =>
    by_cases h1 : a = "read" <;> by_cases h2 : c = "as" <;> by_cases h3 : e = "write" <;> by_cases h4 : g = "by" <;> simp [UX.mt, hB, W, h1, h2, h3, h4]
theorem W_le {ws : List Str} {n : Nat} (h : ∀ x ∈ ws, x.length ≤ n) (i : Nat) : (W ws i).length ≤ n := by
  by_cases hi : i < ws.length
  · have e : W ws i = ws[i] := by simp [W, hi]
    rw [e]; exact h _ (List.getElem_mem hi)
  · have e : W ws i = Str.empty := by simp [W]; rw [List.getElem?_eq_none (by omega)]; rfl
    rw [e]; exact Nat.zero_le _
theorem Gv.same {H H' : Hp} {v : V} : ∀ {o : Option Sk}, Same H H' → Gv H R Wr B v o → Gv H' R Wr B v o
  | none, _, h => h
  | some _, s, ⟨a, e, g⟩ => ⟨a, e, StA.same s g⟩
theorem mkR_sh {s l : Str} : mkR s l = none ∨ ∃ s' l', mkR s l = some (.rd s' l') := by
  unfold mkR
  split
  · exact .inr ⟨_, _, rfl⟩
  · exact .inl rfl
theorem mkW_sh {t f : Str} {ws kn : List Str} : mkW t f ws kn = none ∨ ∃ t' f' xs, mkW t f ws kn = some (.wr t' f' xs) := by
  unfold mkW
  split
  · exact .inr ⟨_, _, _, rfl⟩
  · exact .inl rfl
abbrev s_parse_step : Stmt := top 28
abbrev sc_parse_step_N : List Str := ["line", "known", "source", "local", "target", "function", "rest"]
theorem sc_parse_step : FnScope sc_parse_step_N ["line", "known"] (defScope s_parse_step) := ⟨rfl, rfl, rfl, by decide +kernel, rfl, by decide +kernel, by decide +kernel⟩
-- 0 line, 1 known, 2 source, 3 local, 4 target, 5 function, 6 rest
def sp_pstep (K : PySem.W.Frag) (R Wr B : Addr) : Sp := fun vs H Q _ => ∃ (z : Str) (b : Addr) (kn : List Str), vs = [.str z, .ref b] ∧ z.length ≤ 900 ∧ SqL K H b (kn.map V.str) ∧ kn.length ≤ 900 ∧ (∀ x ∈ Txt.split z " ", x.length ≤ 1000) ∧ (Txt.split z " ").length ≤ 1000 ∧
  ∀ v H', Gv H' R Wr B v (stepO (Txt.split z " ") kn) → Same H H' → Q v H'
theorem d_pstep (T : PT K mg R Wr B Pg) (D : TD K mg "parse_step" s_parse_step) (d_make_read : Dn P w K mg base CX0 3 "make_read" (sp_mkR R Wr B)) (d_make_write : Dn P w K mg base CX0 3 "make_write" (sp_mkW K R Wr B)) (d_make_both : Dn P w K mg base CX0 4 "make_both" (sp_mkB R Wr B)) :
    Dn P w K mg base CX0 5 "parse_step" (sp_pstep K R Wr B) := by
  refine D.dn sc_parse_step (fun _ _ _ _ _ _ us hl => match us, hl with | [_, _], _ => rfl) (fun vs H Q E h => ?_) (fun f cdv A outer s H vs Q E hr h => ?_)
  · obtain ⟨z, b, kn, rfl, _⟩ := h; rfl
  · obtain ⟨z, b, kn, rfl, hz, hb, hk, hw, hn, q⟩ := h
    refine ⟨_, (pss_one (ps_match (pe_split (pv 0) pe_str) (pm_seq (its := [.wd "read", .nm 2, .wd "as", .nm 3]) sc_parse_step.nd rfl (.cons ⟨_, _, _, rfl⟩ (.cons ⟨_, _, rfl, rfl, (Or.inl rfl), Or.inl rfl⟩ (.cons ⟨_, _, _, rfl⟩ (.cons ⟨_, _, rfl, rfl, (Or.inl rfl), Or.inl rfl⟩ .nil)))) (pss_one (ps_ret (pe_d d_make_read hr (by decide) pass0 (by rfl) (pa_cons (pv 2) (pa_cons (pv 3) pa_nil))))) (pm_starL (its := [.wd "write", .nm 4, .wd "by", .nm 5]) (i := 6) sc_parse_step.nd rfl rfl (.cons ⟨_, _, _, rfl⟩ (.cons ⟨_, _, rfl, rfl, (Or.inl rfl), Or.inl rfl⟩ (.cons ⟨_, _, _, rfl⟩ (.cons ⟨_, _, rfl, rfl, (Or.inl rfl), Or.inl rfl⟩ .nil)))) ⟨rfl, (Or.inl rfl), Or.inl rfl⟩ (pss_one (ps_ret (pe_d d_make_write hr (by decide) pass0 (by rfl) (pa_cons (pv 4) (pa_cons (pv 5) (pa_cons (pv 6) (pa_cons (pv 1) pa_nil))))))) (pm_starL (its := [.wd "read", .nm 2, .wd "as", .nm 3, .wd "write", .nm 4, .wd "by", .nm 5]) (i := 6) sc_parse_step.nd rfl rfl (.cons ⟨_, _, _, rfl⟩ (.cons ⟨_, _, rfl, rfl, (Or.inl rfl), Or.inl rfl⟩ (.cons ⟨_, _, _, rfl⟩ (.cons ⟨_, _, rfl, rfl, (Or.inl rfl), Or.inl rfl⟩ (.cons ⟨_, _, _, rfl⟩ (.cons ⟨_, _, rfl, rfl, (Or.inl rfl), Or.inl rfl⟩ (.cons ⟨_, _, _, rfl⟩ (.cons ⟨_, _, rfl, rfl, (Or.inl rfl), Or.inl rfl⟩ .nil)))))))) ⟨rfl, (Or.inl rfl), Or.inl rfl⟩ (pss_one (ps_ret (pe_d d_make_both hr (by decide) pass0 (by rfl) (pa_cons (pe_d d_make_read hr (by decide) pass0 (by rfl) (pa_cons (pv 2) (pa_cons (pv 3) pa_nil))) (pa_cons (pe_d d_make_write hr (by decide) pass0 (by rfl) (pa_cons (pv 4) (pa_cons (pv 5) (pa_cons (pv 6) (pa_cons (pe_lst (pa_starK K rfl (pv 1) (pa_cons (pv 3) pa_nil))) pa_nil))))) pa_nil))))) (pm_any (pss_one (ps_ret pe_non))) (by decide) rfl rfl) (by decide) rfl rfl)))), ?_⟩
    walk_at "rd"
    have l1 : ((" " : Str).length == 0) = false := by decide +kernel
    refine ⟨⟨z, rfl⟩, l1, by rw [sizeLine_eq]; omega, fun p hp => ⟨p, rfl, Txt.split z " ", .inl (.inl upd_same), ?_⟩⟩
    generalize Txt.split z " " = ws at hw hn q ⊢
    have sp : Same H (upd H p (.lst (ws.map V.str))) := UL.Same.new hp
    have wl := W_le hw
    have ln : ∀ n x, x ∈ ws.drop n → x.length ≤ 1000 := fun n x hx => hw x (List.mem_of_mem_drop hx)
    unfold sSeq
    rw [mt1]
    by_cases c1 : hR ws
    · rw [if_pos c1]
      simp only [puts]
      walk_at "rd"
      exact ⟨_, _, rfl, wl 1, wl 3, fun v H' g s' => q v H' (by rw [stepO, if_pos c1]; exact g) (Same.tr sp s')⟩
    · rw [if_neg c1]
      unfold sStar
      simp only [List.length_cons, List.length_nil, Nat.reduceAdd]
      by_cases h4 : 4 ≤ ws.length
      · rw [if_pos h4, mt2 ws h4]
        by_cases c2 : hW ws
        · rw [if_pos c2]
          refine fun r hr => ?_
          simp only [puts, List.cons_append, List.nil_append]
          walk_at "rd"
          have s2 := Same.tr sp (UL.Same.new (o := .lst ((ws.drop 4).map V.str)) hr)
          exact ⟨_, _, r, b, ws.drop 4, kn, rfl, wl 1, wl 3, .inl (.inl upd_same), UL.Same.sqL s2 hb, by rw [List.length_drop]; omega, by omega, fun v H' g s' => q v H' (by rw [stepO, if_neg c1, if_pos c2]; exact g) (Same.tr s2 s')⟩
        · rw [if_neg c2]
          dsimp only
          by_cases h8 : 8 ≤ ws.length
          · rw [if_pos h8, mt3 ws h8]
            by_cases c3 : hB ws
            · rw [if_pos c3]
              refine fun r hr => ?_
              simp only [puts, List.cons_append, List.nil_append]
              walk_at "rd"
              have s2 := Same.tr sp (UL.Same.new (o := .lst ((ws.drop 8).map V.str)) hr)
              refine ⟨_, _, rfl, wl 1, wl 3, fun v1 H1 g1 s1 => ?_⟩
              have s3 := Same.tr s2 s1
              refine ⟨kn.map V.str, .inr (UL.Same.sqL s3 hb), by simp [sizeLine_eq]; omega, fun p2 hp2 => ?_⟩
              have s4 : Same H (upd H1 p2 (.lst (kn.map V.str ++ [V.str (W ws 3)]))) := Same.tr s3 (UL.Same.new hp2)
              refine ⟨_, _, r, p2, ws.drop 8, kn ++ [W ws 3], rfl, wl 5, wl 7, .inl (.inl (UL.Same.new hp2 _ _ (s1 _ _ upd_same))), .inl (.inl (by rw [upd_same]; simp)), by rw [List.length_drop]; omega, by simp; omega, fun v2 H5 g2 s5 => ?_⟩
              refine ⟨v1, v2, _, _, rfl, Gv.same (Same.tr (UL.Same.new hp2) s5) g1, g2, mkR_sh, mkW_sh, fun v H6 g s6 => q v H6 (by rw [stepO, if_neg c1, if_neg c2, if_pos c3]; exact g) (Same.tr (Same.tr s4 s5) s6)⟩
            · rw [if_neg c3]
              walk_at "rd"
              exact q _ _ (by rw [stepO, if_neg c1, if_neg c2, if_neg c3]; rfl) sp
          · rw [if_neg h8]
            walk_at "rd"
            exact q _ _ (by rw [stepO, if_neg c1, if_neg c2, if_neg fun h => h8 h.1]; rfl) sp
      · rw [if_neg h4]
        have c2 : ¬ hW ws := fun h => h4 h.1
        have h8 : ¬ 8 ≤ ws.length := by omega
        rw [if_neg h8]
        walk_at "rd"
        exact q _ _ (by rw [stepO, if_neg c1, if_neg c2, if_neg fun h => h8 h.1]; rfl) sp
def Sk.loc : Sk → List Str
  | .rd _ l | .rw _ l _ _ _ => [l]
  | .wr .. => []
/-- the steps that these lines tell -/
def stepsO : List Str → List Str → Option (List Sk)
  | [], _ => some []
  | z :: r, kn => match stepO (Txt.split z " ") kn with
    | none => none
    | some k => match stepsO r (kn ++ k.loc) with
      | none => none
      | some ks => some (k :: ks)
/-- a line that is not too long, nor are its words -/
def LnOk (z : Str) : Prop := z.length ≤ 900 ∧ (∀ x ∈ Txt.split z " ", x.length ≤ 1000) ∧ (Txt.split z " ").length ≤ 1000
theorem FJ.enumS {k : Nat} {a : Addr} {xs : List V} {g : TG} {tb : TS} {D : Ends} {σ : L2.St} {H : Hp} (Pv : Nat → L2.St → Hp → Prop) (h0 : Pv 0 σ H) (hl : ∀ i σ H, i ≤ xs.length → Pv i σ H → SqL K H a xs)
    (hs : ∀ (i : Nat) (x : V) (T : Addr) (σ : L2.St) (H : Hp), xs[i]? = some x → Pv i σ H → H T = none → g (.ref T) σ (upd H T (.tup [.int (i + k : Nat), x])) fun σ2 H2 => tb { D with nx := Pv (i + 1), ct := Pv (i + 1), bk := D.nx } σ2 H2) (hd : ∀ σ H, Pv xs.length σ H → D.nx σ H) :
    FJ (IteS K k a) g tb D σ H := for_it walk_enumS Pv h0 hl (fun i v σ H H' hi p y => by
      obtain ⟨T, x, y', rfl, hT, rfl, e1, e2⟩ := y
      cases e1
      exact hs i y' T σ H e2 p hT) hd
theorem FT.put {H : Hp} {a p : Addr} {xs zs : List V} {o : HO} (hp : H p = some (.lst zs)) (h : FT H a xs) : FT (upd H p o) a xs := by
  obtain ⟨o', e, d⟩ := h
  exact ⟨o', by rw [upd_ne (fun q => by rw [q, hp] at e; cases e)]; exact e, d⟩
theorem StA.put {H : Hp} {a p : Addr} {zs : List V} {o : HO} {k : Sk} (hp : H p = some (.lst zs)) (h : StA H R Wr B a k) : StA (upd H p o) R Wr B a k := by
  have ne : ∀ {C dx fs}, H a = some (.ins C dx fs) → upd H p o a = some (.ins C dx fs) := fun e => by rw [upd_ne (fun q => by rw [q, hp] at e; cases e)]; exact e
  cases k with
  | rd => obtain ⟨dx, e⟩ := h; exact ⟨dx, ne e⟩
  | wr => obtain ⟨dx, q, e, f⟩ := h; exact ⟨dx, q, ne e, FT.put hp f⟩
  | rw => obtain ⟨dx, q, e, f⟩ := h; exact ⟨dx, q, ne e, FT.put hp f⟩
abbrev s_parse_header : Stmt := top 26
abbrev sc_parse_header_N : List Str := ["line", "words"]
theorem sc_parse_header : FnScope sc_parse_header_N ["line"] (defScope s_parse_header) := ⟨rfl, rfl, rfl, by decide +kernel, rfl, by decide +kernel, by decide +kernel⟩
-- 0 line, 1 words
def sp_phead : Sp := fun vs H Q _ => ∃ (z n : Str), vs = [.str z] ∧ Txt.split z " " = [("program" : Str), n] ∧ nmB n = true ∧ z.length ≤ 900 ∧ n.length ≤ 1000 ∧ ∀ H', Same H H' → Q (.str n) H'
theorem d_phead (T : PT K mg R Wr B Pg) (D : TD K mg "parse_header" s_parse_header) (d_is_name : Dn P w K mg base CX0 1 "is_name" sp_isnm) : Dn P w K mg base CX0 2 "parse_header" sp_phead := by
  refine D.dn sc_parse_header (fun _ _ _ _ _ _ us hl => match us, hl with | [_], _ => rfl) (fun vs H Q E h => ?_) (fun f cdv A outer s H vs Q E hr h => ?_)
  · obtain ⟨z, n, rfl, _⟩ := h; rfl
  · obtain ⟨z, n, rfl, hz, hn, hl, hm, q⟩ := h
    refine ⟨_, (pss_cons (ps_set (i := 1) sc_parse_header.nd rfl (Or.inl rfl) (pe_split (pv 0) pe_str))
      (pss_cons (ps_if (pw_or (pt_cmpR (op_neA (hr.units)) (pe_callB call_lenA (by rfl) T.n_len (by decide +kernel) (pa_cons (pv 1) pa_nil)) pe_int (nomark _)) (pw_or (pt_cmpR (op_neA (hr.units)) (pe_ix ix_seq (pv 1) pe_int (fun _ _ => rfl)) pe_str (nomark _)) (pw_or1 (pt_not (pt_val (pe_d d_is_name hr (by decide) pass0 (by rfl) (pa_cons (pe_ix ix_seq (pv 1) pe_int (fun _ _ => rfl)) pa_nil))))))).pt pss_never pss_nil)
      (pss_one (ps_ret (pe_ix ix_seq (pv 1) pe_int (fun _ _ => rfl)))))), ?_⟩
    walk_at "rd"
    have l1 : ((" " : Str).length == 0) = false := by decide +kernel
    refine ⟨⟨z, rfl⟩, l1, by rw [sizeLine_eq]; omega, fun p hp => ?_⟩
    rw [hz]
    have sq : SqL K (upd H p (.lst ([("program" : Str), n].map V.str))) p ([("program" : Str), n].map V.str) := .inl (.inl upd_same)
    refine lenL sq (neII.mpr ⟨_, rfl, ?_⟩)
    rw [if_neg (by simp)]
    refine ixL sq (show atI _ ((0 : Nat) : Int) = some (V.str "program") from atN rfl) (neSS.mpr ⟨_, rfl, ?_⟩)
    rw [if_neg (by simp)]
    refine ixL sq (show atI _ ((1 : Nat) : Int) = some (V.str n) from atN rfl) ⟨n, rfl, by omega, fun H' s' => ⟨_, rfl, ?_⟩⟩
    rw [if_neg (by simp [hn])]
    exact ixL (UL.Same.sqL s' sq) (show atI _ ((1 : Nat) : Int) = some (V.str n) from atN rfl) (q _ (Same.tr (UL.Same.new hp) s'))
abbrev s_parse_steps : Stmt := top 27
abbrev sc_parse_steps_N : List Str := ["lines", "steps", "known", "number", "line", "step"]
theorem sc_parse_steps : FnScope sc_parse_steps_N ["lines"] (defScope s_parse_steps) := ⟨rfl, rfl, rfl, by decide +kernel, rfl, by decide +kernel, by decide +kernel⟩
-- 0 lines, 1 steps, 2 known, 3 number, 4 line, 5 step
def sp_psteps (K : PySem.W.Frag) (R Wr B : Addr) : Sp := fun vs H Q _ => ∃ (a : Addr) (zs : List Str) (ks : List Sk), vs = [.ref a] ∧ SqL K H a (zs.map V.str) ∧ zs.length ≤ 4 ∧ (∀ z ∈ zs, LnOk z) ∧ stepsO zs [] = some ks ∧
  ∀ q ts H', H q = none → H' q = some (.lst (ts.map V.ref)) → Paired (fun t k => StA H' R Wr B t k) ts ks → Same H H' → Q (.ref q) H'
theorem d_psteps (T : PT K mg R Wr B Pg) (D : TD K mg "parse_steps" s_parse_steps) (d_parse_step : Dn P w K mg base CX0 5 "parse_step" (sp_pstep K R Wr B)) : Dn P w K mg base CX0 6 "parse_steps" (sp_psteps K R Wr B) := by
  refine D.dn sc_parse_steps (fun _ _ _ _ _ _ us hl => match us, hl with | [_], _ => rfl) (fun vs H Q E h => ?_) (fun f cdv A outer s H vs Q E hr h => ?_)
  · obtain ⟨a, zs, ks, rfl, _⟩ := h; rfl
  · obtain ⟨a, zs, ks, rfl, ha, hz, hl, hk, q⟩ := h
    refine ⟨_, (pss_cons (ps_set (i := 1) sc_parse_steps.nd rfl (Or.inl rfl) (pe_lst pa_nil))
      (pss_cons (ps_set (i := 2) sc_parse_steps.nd rfl (Or.inl rfl) (pe_lst pa_nil))
      (pss_cons (ps_for PassesOwn.never rfl (pi_enumS (by decide) (by rfl) T.n_enumerate (pa_cons (pv 0) pa_nil)) (pg_tup rfl (pgs_cons (pg_name (i := 3) sc_parse_steps.nd rfl (Or.inl rfl)) (pgs_cons (pg_name (i := 4) sc_parse_steps.nd rfl (Or.inl rfl)) pgs_nil))) (pss_cons (ps_set (i := 5) sc_parse_steps.nd rfl (Or.inl rfl) (pe_d d_parse_step hr (by decide) pass0 (by rfl) (pa_cons (pv 4) (pa_cons (pv 2) pa_nil))))
      (pss_cons (ps_if (pw_or (pt_cmpR op_isNone (pv 5) pe_non (nomark _)) (pw_or1 (pt_cmpR (op_eqA (hr.units)) (pe_callB call_lenA (by rfl) T.n_len (by decide +kernel) (pa_cons (pv 1) pa_nil)) (C8.pe_gc (by rfl) T.c_MOST_STEPS) (nomark _)))).pt pss_never pss_nil)
      (pss_cons (ps_expr (pe_bm PySem.F.plainAttrs_list PySem.F.slot_list_append PySem.F.type_list_append mt_append (pv 1) (pa_cons (pv 5) pa_nil)))
      (pss_one (ps_if (pt_val (pe_callB call_isi (by rfl) T.n_isinstance (by decide +kernel) (pa_cons (pv 5) (pa_cons (C8.pe_gc (by rfl) T.c_Read) pa_nil)))) (pss_one (ps_expr (pe_bm PySem.F.plainAttrs_list PySem.F.slot_list_append PySem.F.type_list_append mt_append (pv 2) (pa_cons (pe_fld (pv 5) (by rfl)) pa_nil)))) pss_nil))))))
      (pss_one (ps_ret (pv 1)))))), ?_⟩
    walk_at "rd"
    refine fun p hp p1 hp1 => ⟨⟨_, UL.Same.sqL (UL.Same.new hp1) (UL.Same.sqL (UL.Same.new hp) ha)⟩, ?_⟩
    have n01 : p ≠ p1 := ne_of_none upd_same hp1
    have hp1H : H p1 = none := by rw [upd_ne (Ne.symm n01)] at hp1; exact hp1
    refine FJ.enumS (xs := zs.map V.str) (fun i σ' H' => ∃ (ts : List Addr) (dn rest : List Sk) (kn : List Str) (x y z : Option V), σ' = [some (.ref a), some (.ref p), some (.ref p1), x, y, z] ∧ H' p = some (.lst (ts.map V.ref)) ∧ H' p1 = some (.lst (kn.map V.str)) ∧ Paired (fun t k => StA H' R Wr B t k) ts dn ∧
      stepsO (zs.drop i) kn = some rest ∧ ks = dn ++ rest ∧ ts.length = i ∧ kn.length ≤ i ∧ Same H H') ?_ (fun i σ' H' _ inv => ?_) (fun i x tq σ' H' hx inv hT => ?_) fun σ' H' inv => ?_
    · exact ⟨[], [], ks, [], _, _, _, rfl, by rw [upd_ne n01]; exact upd_same, upd_same, .nil, hk, rfl, rfl, Nat.zero_le _, Same.tr (UL.Same.new hp) (UL.Same.new hp1)⟩
    · obtain ⟨ts, dn, rest, kn, x, y, z, rfl, _, _, _, _, _, _, _, sm⟩ := inv
      exact UL.Same.sqL sm ha
    · obtain ⟨ts, dn, rest, kn, x0, y0, z0, rfl, h1, h2, hpd, hst, hks, hti, hkn, sm⟩ := inv
      obtain ⟨z, hzi, rfl⟩ : ∃ z, zs[i]? = some z ∧ x = V.str z := by
        rw [List.getElem?_map] at hx
        cases e : zs[i]? with
        | none => rw [e] at hx; cases hx
        | some z => rw [e] at hx; cases hx; exact ⟨z, rfl, rfl⟩
      have hlt : i < zs.length := (List.getElem?_eq_some_iff.mp hzi).1
      have hzm : z ∈ zs := List.mem_of_getElem? hzi
      have dz : zs.drop i = z :: zs.drop (i + 1) := by
        rw [List.drop_eq_getElem_cons hlt, (List.getElem?_eq_some_iff.mp hzi).2]
      rw [dz] at hst
      simp only [stepsO] at hst
      cases e1 : stepO (Txt.split z " ") kn with
      | none => rw [e1] at hst; cases hst
      | some k =>
        rw [e1] at hst
        dsimp only at hst
        cases e2 : stepsO (zs.drop (i + 1)) (kn ++ k.loc) with
        | none => rw [e2] at hst; cases hst
        | some r' =>
          rw [e2] at hst
          have er : rest = k :: r' := (Option.some.inj hst).symm
          subst er
          walk_at "rd"
          refine ⟨_, .inl (.inl upd_same), rfl, _, _, rfl, _, _, rfl, rfl, z, p1, kn, rfl, (hl z hzm).1, .inl (.inl (UL.Same.new hT _ _ h2)), by omega, (hl z hzm).2.1, (hl z hzm).2.2, fun v H1 g s1 => ?_⟩
          rw [e1] at g
          obtain ⟨a', rfl, ga⟩ := g
          have sT : Same H' H1 := Same.tr (UL.Same.new hT) s1
          refine ⟨rfl, _, rfl, ?_⟩
          rw [if_neg (by simp)]
          refine lenL (.inl (.inl (sT _ _ h1))) (eqII.mpr ⟨_, rfl, ?_⟩)
          rw [if_neg (by simp; omega)]
          walk_at "rd"
          refine ⟨.inl ⟨rfl, _, .inl (.inl (sT _ _ h1))⟩, p, _, _, rfl, rfl, sT _ _ h1, by rw [List.length_map, sizeLine_eq]; omega, ?_⟩
          have h2T := sT _ _ h2
          have g6 : StA (upd H1 p (.lst (ts.map V.ref ++ [V.ref a']))) R Wr B a' k := StA.put (sT _ _ h1) ga
          have pd6 : Paired (fun t k => StA (upd H1 p (.lst (ts.map V.ref ++ [V.ref a']))) R Wr B t k) (ts ++ [a']) (dn ++ [k]) := (L2.Paired.mapP hpd fun _ _ q => StA.put (sT _ _ h1) (StA.same sT q)).snoc g6
          have p6 : upd H1 p (.lst (ts.map V.ref ++ [V.ref a'])) p = some (.lst ((ts ++ [a']).map V.ref)) := by rw [upd_same, List.map_append]; rfl
          have p16 : upd H1 p (.lst (ts.map V.ref ++ [V.ref a'])) p1 = some (.lst (kn.map V.str)) := by rw [upd_ne (Ne.symm n01)]; exact h2T
          have s6 : Same H (upd H1 p (.lst (ts.map V.ref ++ [V.ref a']))) := UL.Same.put (Same.tr sm sT) hp
          generalize upd H1 p (.lst (ts.map V.ref ++ [V.ref a'])) = H6 at g6 pd6 p6 p16 s6 ⊢
          cases k with
          | wr t f xs =>
            obtain ⟨dx, q0, ha6, _⟩ := g6
            refine ⟨_, _, _, _, false, rfl, .own R, T.iW.ty T.cW ha6, T.kWR, _, rfl, ?_⟩
            rw [if_neg (by simp)]
            exact ⟨⟨_, rfl⟩, ts ++ [a'], p6, dn ++ [.wr t f xs], r', kn, p16, pd6, by simpa [Sk.loc] using e2, by rw [hks]; simp, by simp; omega, by omega, s6⟩
          | rd s0 l =>
            obtain ⟨dx, ha6⟩ := g6
            refine ⟨_, _, _, _, true, rfl, .own R, T.iR.ty T.cR ha6, T.kRR, _, rfl, ?_⟩
            rw [if_pos rfl]
            exact ⟨.inl ⟨rfl, _, .inl (.inl p16)⟩, R, dx, _, ha6, T.cR, T.aR_local, _, rfl, p1, _, _, rfl, rfl, p16, by rw [List.length_map, sizeLine_eq]; omega, ⟨_, rfl⟩, ts ++ [a'], by rw [upd_ne n01]; exact p6, _, r', kn ++ [l], by rw [upd_same, List.map_append]; rfl, L2.Paired.mapP pd6 fun _ _ q => StA.put p16 q, e2, by rw [hks]; simp, by simp; omega, by simp; omega, UL.Same.put s6 hp1H⟩
          | rw s0 l t f xs =>
            obtain ⟨dx, q0, ha6, _⟩ := g6
            refine ⟨_, _, _, _, true, rfl, .own R, T.iB.ty T.cB ha6, T.kBR, _, rfl, ?_⟩
            rw [if_pos rfl]
            exact ⟨.inl ⟨rfl, _, .inl (.inl p16)⟩, B, dx, _, ha6, T.cB, T.aB_local, _, rfl, p1, _, _, rfl, rfl, p16, by rw [List.length_map, sizeLine_eq]; omega, ⟨_, rfl⟩, ts ++ [a'], by rw [upd_ne n01]; exact p6, _, r', kn ++ [l], by rw [upd_same, List.map_append]; rfl, L2.Paired.mapP pd6 fun _ _ q => StA.put p16 q, e2, by rw [hks]; simp, by simp; omega, by simp; omega, UL.Same.put s6 hp1H⟩
    · obtain ⟨ts, dn, rest, kn, x0, y0, z0, rfl, h1, h2, hpd, hst, hks, hti, hkn, sm⟩ := inv
      rw [List.length_map, List.drop_length] at hst
      have er : rest = [] := (Option.some.inj hst).symm
      subst er
      rw [List.append_nil] at hks
      subst hks
      walk_at "rd"
      exact q p ts _ hp h1 hpd sm
end
end U
set_option Elab.async false
set_option linter.all false
set_option maxRecDepth 100000
set_option maxHeartbeats 4000000
set_option pp.deepTerms true
set_option pp.maxSteps 400000
namespace U
open PySem PySem.Spec PyProof.Rows L2 UL UX
local macro_rules | `(tactic| walk_at "rd") => `(tactic| simp only [sMatch, tJs, tFmt, tBC, tMethA, tMakeL, iEnumS, tSeq, tAsg, tOp, tCB, tCons, tNil, tVar, tC, tB, tTest, tNot, tIfS, tNext, tYes, tUn, rU, tM0, tGFrom, tGThen, tG0, tYfLst, gcxK, tSubO, tProp, tListG, tMethG, tBMF, tFld, sFld, tMeth, tMake, tSl, tNoPart, tPart, tM1, gTup, gCons, gNil, tDrop, tFor_eq, tLc_eq, tLc2_eq, iRng1_eq, StX.tStar, iList, iTup, iStr, iAny_var, iZipB, tLenSetS, wipe, tVar, tAndV, tOrV, tNotV, tOr, tAnd, tLst, tTup, tBM, tBM0, tChain, tCall, cxK, noxK, addII, addSS, mulII, eqII, neII, neSS, cIntI, cAbsI, rI, rI0, rLt, rLe, rGt_, rGe_, rSub_, rMod, rPow, rDivW, rNeg, gName, tRet, L2.start, List.length_cons, List.length_nil, List.map_cons, List.map_nil, List.replicate, List.cons_append, List.nil_append, List.getElem?_cons_zero, List.getElem?_cons_succ, List.set_cons_zero, List.set_cons_succ, Option.some.injEq, exists_eq_left', exists_eq_left, V.int.injEq, V.bl.injEq, V.str.injEq, V.ref.injEq, V.ty.injEq, List.cons.injEq, and_true, true_and, reduceCtorEq, false_and, exists_false, or_false, false_or, exists_and_left, exists_and_right, List.append_nil, forall_eq, decide_eq_true_eq, Bool.not_eq_true, Nat.reduceAdd, Nat.reduceSub, List.replicate_zero, List.replicate_succ, Nat.zero_le, ite_true, ite_false, if_true, if_false])
section
variable {P : Program} {w : World} {K : PySem.W.Frag} {mg : Str → Option Value} {base : Heap}
variable {R Wr B Pg : Addr}
def fsP (n : Str) (p : Addr) : List (Str × V) := [("name", .str n), ("steps", .ref p)]
abbrev s_Program___init__ : Stmt := inClass (top 25) 0
abbrev sc_Program___init___N : List Str := ["self", "name", "steps"]
theorem sc_Program___init__ : FnScope sc_Program___init___N ["self", "name", "steps"] (defScope s_Program___init__) := ⟨rfl, rfl, rfl, by decide +kernel, rfl, by decide +kernel, by decide +kernel⟩
-- 0 self, 1 name, 2 steps
def sp_initP (K : PySem.W.Frag) (Pg : Addr) : Sp := fun vs H Q _ => ∃ (x dx b : Addr) (n : Str) (ts : List Addr), vs = [.ref x, .str n, .ref b] ∧ H x = some (.ins Pg dx []) ∧ SqL K H b (ts.map V.ref) ∧ ∀ p H', FT H' p (ts.map V.ref) → H' x = some (.ins Pg dx (fsP n p)) → But x H H' → Q .non H'
theorem m_initP (T : PT K mg R Wr B Pg) (D : MD K Pg "__init__" "Program.__init__" s_Program___init__) : Mn P w K mg base CX0 1 Pg "__init__" (sp_initP K Pg) := by
  refine D.mn sc_Program___init__ (fun _ _ _ _ _ _ us hl => match us, hl with | [_, _, _], _ => rfl) (fun vs H Q E h => ?_) (fun f cdv A outer s H vs Q E hr h => ?_)
  · obtain ⟨x, dx, b, n, ts, rfl, _⟩ := h; rfl
  · obtain ⟨x, dx, b, n, ts, rfl, hx, hb, q⟩ := h
    refine ⟨_, (pss_cons (ps_fld (pv 0) (pv 1) rfl)
      (pss_one (ps_fld (pv 0) (pe_callTy call_tupG (by rfl) T.n_tuple (by decide +kernel) (pa_cons (pv 2) pa_nil)) rfl))), ?_⟩
    walk_at "rd"
    refine ⟨Pg, dx, [], hx, T.cP, T.aP_name, by decide, b, _, rfl, .inl ⟨sqL_ins hx hb, fun l o hl ho hs => ?_⟩⟩
    have nx : x ≠ l := ne_of_none upd_same hl
    refine ⟨Pg, dx, _, by rw [upd_ne nx]; exact upd_same, T.cP, T.aP_steps, by show 1 < 1000; decide, ?_⟩
    have e : putF "steps" (V.ref l) (putF "name" (V.str n) []) = fsP n l := by
      have n1 : ("name" : Str) ≠ "steps" := by decide +kernel
      simp [putF, n1, fsP]
    rw [e]
    refine q l _ ⟨o, by rw [upd_ne (Ne.symm nx)]; exact upd_same, ho, hs⟩ upd_same fun c u ec nc => ?_
    have e1 : But x H (upd H x (.ins Pg dx (putF "name" (V.str n) []))) := But.at_
    rw [upd_ne nc, upd_ne (ne_of_none (e1 c u ec nc) hl)]
    exact e1 c u ec nc
abbrev s_Program_read : Stmt := inClass (top 25) 1
abbrev sc_Program_read_N : List Str := ["cls", "text", "lines"]
theorem sc_Program_read : FnScope sc_Program_read_N ["cls", "text"] (defScope s_Program_read) := ⟨rfl, rfl, rfl, by decide +kernel, rfl, by decide +kernel, by decide +kernel⟩
-- 0 cls, 1 text, 2 lines
def sp_pread (K : PySem.W.Frag) (R Wr B Pg : Addr) : Sp := fun vs H Q _ => ∃ (z zh n : Str) (zs : List Str) (ks : List Sk), vs = [.ref Pg, .str z] ∧ z.length ≤ 10000 ∧ Txt.split z "\n" = zh :: zs ∧ Txt.split zh " " = [("program" : Str), n] ∧ nmB n = true ∧ zh.length ≤ 900 ∧ n.length ≤ 1000 ∧ zs.length ≤ 4 ∧ (∀ z ∈ zs, LnOk z) ∧ stepsO zs [] = some ks ∧
  ∀ a dx p ts H', H' a = some (.ins Pg dx (fsP n p)) → FT H' p (ts.map V.ref) → Paired (fun t k => StA H' R Wr B t k) ts ks → Same H H' → Q (.ref a) H'
theorem d_pread (T : PT K mg R Wr B Pg) {f0 : Addr} {fd : FuncData} (F : Fun K "read" "Program.read" s_Program_read f0 fd) (K_Program : Kn P w K mg base CX0 1 Pg "Program" (sp_initP K Pg)) (d_parse_header : Dn P w K mg base CX0 2 "parse_header" sp_phead) (d_parse_steps : Dn P w K mg base CX0 6 "parse_steps" (sp_psteps K R Wr B)) :
    FnOk P w K mg base CX0 7 f0 fd ["cls", "text"] (sp_pread K R Wr B Pg) := by
  refine F.ok sc_Program_read (fun vs H Q E h => ?_) (fun cdv A outer s H vs Q E hr h => ?_)
  · obtain ⟨z, zh, n, zs, ks, rfl, _⟩ := h; rfl
  · obtain ⟨z, zh, n, zs, ks, rfl, hz, hs, hw, hn, hl, hm, hc, hlo, hk, q⟩ := h
    refine ⟨_, (pss_cons (ps_set (i := 2) sc_Program_read.nd rfl (Or.inl rfl) (pe_split (pv 1) pe_str))
      (pss_one (ps_ret (pe_makeLK K_Program hr (by decide) (i := 0) rfl (Or.inl rfl) (pa_cons (pe_d d_parse_header hr (by decide) pass0 (by rfl) (pa_cons (pe_ix ix_seq (pv 2) pe_int (fun _ _ => rfl)) pa_nil)) (pa_cons (pe_d d_parse_steps hr (by decide) pass0 (by rfl) (pa_cons (pe_slice sl_list (pv 2) (po_some pe_int) po_none) pa_nil)) pa_nil)))))), ?_⟩
    walk_at "rd"
    have l1 : (("\n" : Str).length == 0) = false := by decide +kernel
    refine ⟨⟨z, rfl⟩, l1, by rw [sizeLine_eq]; omega, fun p hp => ?_⟩
    rw [hs]
    have sq : SqL K (upd H p (.lst ((zh :: zs).map V.str))) p ((zh :: zs).map V.str) := .inl (.inl upd_same)
    refine ixL sq (show atI _ ((0 : Nat) : Int) = some (V.str zh) from atN rfl) ⟨zh, n, rfl, hw, hn, hl, hm, fun H1 s1 => ?_⟩
    refine ⟨p, _, rfl, UL.Same.sqL s1 sq, fun p2 hp2 => ?_⟩
    rw [cut1]
    refine ⟨p2, zs, ks, rfl, .inl (.inl upd_same), hc, hlo, hk, fun q0 ts H2 hq0 h2 hpd s2 x dx hx hd hne => ?_⟩
    have s3 : Same H H2 := Same.tr (Same.tr (UL.Same.new hp) s1) (Same.tr (UL.Same.new hp2) s2)
    refine ⟨x, dx, q0, n, ts, rfl, upd_same, .inl (.inl (by rw [upd_ne (ne_of_none h2 hx), upd_ne (ne_of_none h2 hd)]; exact h2)), fun p3 H4 hp3 hx4 b4 => ?_⟩
    have s24 : Same H2 H4 := fun c u e => b4 c u (by rw [upd_ne (ne_of_none e hx), upd_ne (ne_of_none e hd)]; exact e) (ne_of_none e hx)
    exact ⟨rfl, q x dx p3 ts H4 hx4 hp3 (L2.Paired.mapP hpd fun _ _ g => StA.same s24 g) (Same.tr s3 s24)⟩
theorem pr_at {α β : Type} {F : α → β → Prop} : ∀ {l : List α} {m : List β}, Paired F l m → ∀ {i : Nat} {a : α}, l[i]? = some a → ∃ b, m[i]? = some b ∧ F a b
  | _, _, .nil, i, a, e => by simp at e
  | _, _, .cons r _, 0, a, e => by simp at e; subst e; exact ⟨_, rfl, r⟩
  | _, _, .cons _ t, i + 1, a, e => by
    obtain ⟨b, h1, h2⟩ := pr_at t (i := i) (a := a) (by simpa using e)
    exact ⟨b, by simpa using h1, h2⟩
theorem StA.ins {H : Hp} {a : Addr} {k : Sk} (h : StA H R Wr B a k) : ∃ dx fs, H a = some (.ins (k.cls R Wr B) dx fs) ∧ fs.lookup ("text" : Str) = none ∧ fs.lookup ("reads" : Str) = none ∧ fs.lookup ("writes" : Str) = none := by
  cases k with
  | rd s l => obtain ⟨dx, e⟩ := h; exact ⟨dx, _, e, rfl, rfl, rfl⟩
  | wr t f xs => obtain ⟨dx, p, e, _⟩ := h; exact ⟨dx, _, e, rfl, rfl, rfl⟩
  | rw s l t f xs => obtain ⟨dx, p, e, _⟩ := h; exact ⟨dx, _, e, rfl, rfl, rfl⟩
theorem Sk.cls3 (k : Sk) : k.cls R Wr B = R ∨ k.cls R Wr B = Wr ∨ k.cls R Wr B = B := by
  cases k with
  | rd => exact .inl rfl
  | wr => exact .inr (.inl rfl)
  | rw => exact .inr (.inr rfl)
-- 0 self, 1 lines, 2 step
/-- the class of a step, and what it promises -/
def Fam (R Wr B : Addr) (sp : Addr → Sp) (C : Addr) (s : Sp) : Prop := (C = R ∨ C = Wr ∨ C = B) ∧ s = sp C
end
end U
set_option Elab.async false
set_option linter.all false
set_option maxRecDepth 100000
set_option maxHeartbeats 4000000
set_option pp.deepTerms true
set_option pp.maxSteps 400000
namespace U
open PySem PySem.Spec PyProof.Rows L2 UL UX
local macro_rules | `(tactic| walk_at "rd") => `(tactic| simp only [sMatch, tJs, tFmt, tBC, tMethA, tMakeL, iEnumS, tSeq, tAsg, tOp, tCB, tCons, tNil, tVar, tC, tB, tTest, tNot, tIfS, tNext, tYes, tUn, rU, tM0, tGFrom, tGThen, tG0, tYfLst, gcxK, tSubO, tProp, tListG, tMethG, tBMF, tFld, sFld, tMeth, tMake, tSl, tNoPart, tPart, tM1, gTup, gCons, gNil, tDrop, tFor_eq, tLc_eq, tLc2_eq, iRng1_eq, StX.tStar, iList, iTup, iStr, iAny_var, iZipB, tLenSetS, wipe, tVar, tAndV, tOrV, tNotV, tOr, tAnd, tLst, tTup, tBM, tBM0, tChain, tCall, cxK, noxK, addII, addSS, mulII, eqII, neII, neSS, cIntI, cAbsI, rI, rI0, rLt, rLe, rGt_, rGe_, rSub_, rMod, rPow, rDivW, rNeg, gName, tRet, L2.start, List.length_cons, List.length_nil, List.map_cons, List.map_nil, List.replicate, List.cons_append, List.nil_append, List.getElem?_cons_zero, List.getElem?_cons_succ, List.set_cons_zero, List.set_cons_succ, Option.some.injEq, exists_eq_left', exists_eq_left, V.int.injEq, V.bl.injEq, V.str.injEq, V.ref.injEq, V.ty.injEq, List.cons.injEq, and_true, true_and, reduceCtorEq, false_and, exists_false, or_false, false_or, exists_and_left, exists_and_right, List.append_nil, forall_eq, decide_eq_true_eq, Bool.not_eq_true, Nat.reduceAdd, Nat.reduceSub, List.replicate_zero, List.replicate_succ, Nat.zero_le, ite_true, ite_false, if_true, if_false])
section
variable {P : Program} {w : World} {K : PySem.W.Frag} {mg : Str → Option Value} {base : Heap}
variable {R Wr B Pg : Addr}
abbrev s__law_mixed : Stmt := top 52
abbrev sc__law_mixed_N : List Str := ["_law_cell", "_law_k", "_law_first", "_law_second"]
theorem sc__law_mixed : FnScope sc__law_mixed_N ["_law_cell", "_law_k"] (defScope s__law_mixed) := ⟨rfl, rfl, rfl, by decide +kernel, rfl, by decide +kernel, by decide +kernel⟩
-- 0 _law_cell, 1 _law_k, 2 _law_first, 3 _law_second
def sp_mixed : Sp := fun vs H Q _ => ∃ c k : Int, vs = [.int c, .int k] ∧ 0 ≤ c ∧ c < 10 ^ 18 ∧ 0 ≤ k ∧ k < 1000 ∧ ∀ r : Int, 0 ≤ r → Q (.int r) H
theorem d_mixed (T : Nm mg) (D : TD K mg "_law_mixed" s__law_mixed) : Dn P w K mg base CX0 1 "_law_mixed" sp_mixed := by
  refine D.dn sc__law_mixed (fun _ _ _ _ _ _ us hl => match us, hl with | [_, _], _ => rfl) (fun vs H Q E h => ?_) (fun f cdv A outer s H vs Q E hr h => ?_)
  · obtain ⟨c, k, rfl, _⟩ := h; rfl
  · obtain ⟨c, k, rfl, h0, h1, h2, h3, q⟩ := h
    refine ⟨_, (pss_cons (ps_set (i := 2) sc__law_mixed.nd rfl (Or.inl rfl) (pe_op op_modA (pe_callTy call_intA (by rfl) T.n_int (by decide +kernel) (pa_cons (pe_op op_addA (pe_op op_addA (pe_op op_mulA (pv 0) pe_int) (pe_op op_mulA (pv 1) pe_int)) pe_int) pa_nil)) pe_int))
      (pss_cons (ps_set (i := 3) sc__law_mixed.nd rfl (Or.inl rfl) (pe_op op_modA (pe_callTy call_intA (by rfl) T.n_int (by decide +kernel) (pa_cons (pe_op op_addA (pe_op op_addA (pe_op op_mulA (pv 2) (pv 2)) (pe_op op_mulA (pv 1) pe_int)) pe_int) pa_nil)) pe_int))
      (pss_one (ps_ret (pe_op op_modA (pe_callTy call_intA (by rfl) T.n_int (by decide +kernel) (pa_cons (pe_op op_addA (pe_op op_mulA (pv 3) (pv 3)) (pv 2)) pa_nil)) pe_int))))), ?_⟩
    walk_at "rd"
    have e : ∀ a b : Int, 0 < b → 0 ≤ a % b ∧ a % b < b := fun a b hb => ⟨Int.emod_nonneg a (by omega), Int.emod_lt_of_pos a hb⟩
    refine ⟨.inl ⟨by omega, by omega⟩, .inl ⟨by omega, by omega⟩, by decide, .inl ?_, .inl ⟨by omega, by omega⟩, by decide, .inl ?_, by decide, q _ (e _ 99991 (by decide)).1⟩
    · have := e (c * 48271 + k * 69621 + 11) 65537 (by decide); omega
    · have := e ((c * 48271 + k * 69621 + 11) % 65537 * ((c * 48271 + k * 69621 + 11) % 65537) + k * 7919 + 3) 64007 (by decide); omega
abbrev s__law_draw : Stmt := top 54
abbrev sc__law_draw_N : List Str := ["_law_pool_here", "_law_many"]
theorem sc__law_draw : FnScope sc__law_draw_N ["_law_pool_here", "_law_many"] (defScope s__law_draw) := ⟨rfl, rfl, rfl, by decide +kernel, rfl, by decide +kernel, by decide +kernel⟩
-- 0 _law_pool_here, 1 _law_many
def sp_draw : Sp := fun vs H Q _ => ∃ (p : Addr) (m : Int), vs = [.ref p, .int m] ∧ 0 < m ∧ Pl H p ∧ ∀ r H', 0 ≤ r → r < m → Pl H' p → But p H H' → Q (.int r) H'
theorem d_draw (T : Nm mg) (D : TD K mg "_law_draw" s__law_draw) : Dn P w K mg base CX0 1 "_law_draw" sp_draw := by
  refine D.dn sc__law_draw (fun _ _ _ _ _ _ us hl => match us, hl with | [_, _], _ => rfl) (fun vs H Q E h => ?_) (fun f cdv A outer s H vs Q E hr h => ?_)
  · obtain ⟨p, m, rfl, _⟩ := h; rfl
  · obtain ⟨p, m, rfl, hm, ⟨ns, hp⟩, q⟩ := h
    refine ⟨_, (pss_cons (ps_if (pt_cmpR (op_eqA (hr.units)) (pv 0) (pe_lst pa_nil) (nomark _)) (pss_one (ps_ret pe_int)) pss_nil)
      (pss_one (ps_ret (pe_op op_modA (pe_callTy call_intA (by rfl) T.n_int (by decide +kernel) (pa_cons (pe_bm0 PySem.F.plainAttrs_list PySem.F.slot_list_pop PySem.F.type_list_pop mt_pop (pv 0)) pa_nil)) (pv 1))))), ?_⟩
    walk_at "rd"
    refine (fun p1 hp1 => eqL0 (xs := ns.map V.int) fl2_ints (.inl (.inl ?_)) (.inl (.inl upd_same)) ⟨_, rfl, ?_⟩)
    · rw [upd_ne (ne_of_none hp hp1)]; exact hp
    · have hp2 : upd H p1 (.lst []) p = some (.lst (ns.map V.int)) := by rw [upd_ne (ne_of_none hp hp1)]; exact hp
      rcases List.eq_nil_or_concat ns with rfl | ⟨L, y, rfl⟩
      · rw [if_pos (by simp)]
        exact q 0 _ (Int.le_refl 0) hm ⟨[], hp2⟩ (UL.Same.but (UL.Same.new hp1))
      · rw [if_neg (by simp)]
        refine ⟨.inl ⟨rfl, _, .inl (.inl hp2)⟩, p, _, .int y, rfl, rfl, hp2, by simp, cIntI.mpr ⟨y, rfl, hm, q _ _ (Int.emod_nonneg y (by omega)) (Int.emod_lt_of_pos y hm) ⟨L, ?_⟩ (But.trans (UL.Same.but (UL.Same.new hp1)) But.at_)⟩⟩
        rw [upd_same]; simp
abbrev s__law_pool : Stmt := top 53
abbrev sc__law_pool_N : List Str := ["_law_script", "_law_pool_here", "_law_at", "_law_left", "_law_k"]
theorem sc__law_pool : FnScope sc__law_pool_N ["_law_script"] (defScope s__law_pool) := ⟨rfl, rfl, rfl, by decide +kernel, rfl, by decide +kernel, by decide +kernel⟩
-- 0 _law_script, 1 _law_pool_here, 2 _law_at, 3 _law_left, 4 _law_k
def sp_pool : PySem.W.Frag → Sp := fun K vs H Q _ => ∃ (a : Addr) (ns : List Int), vs = [.ref a] ∧ SqL K H a (ns.map V.int) ∧ ns.length ≤ 63 ∧ ∀ p H', H p = none → Pl H' p → Same H H' → Q (.ref p) H'
theorem d_pool (T : Nm mg) (D : TD K mg "_law_pool" s__law_pool) (d__law_mixed : Dn P w K mg base CX0 1 "_law_mixed" sp_mixed) : Dn P w K mg base CX0 2 "_law_pool" (sp_pool K) := by
  refine D.dn sc__law_pool (fun _ _ _ _ _ _ us hl => match us, hl with | [_], _ => rfl) (fun vs H Q E h => ?_) (fun f cdv A outer s H vs Q E hr h => ?_)
  · obtain ⟨i, ns, rfl, _⟩ := h; rfl
  · obtain ⟨a, ns, rfl, ha, hn, q⟩ := h
    refine ⟨_, (pss_cons (ps_set (i := 1) sc__law_pool.nd rfl (Or.inl rfl) (pe_lst pa_nil))
      (pss_cons (ps_for PassesOwn.never rfl (pi_range1 (by rfl) T.n_range (pa_cons (pe_callB call_lenA (by rfl) T.n_len (by decide +kernel) (pa_cons (pv 0) pa_nil)) pa_nil)) (pg_name (i := 2) sc__law_pool.nd rfl (Or.inl rfl)) (pss_cons (ps_set (i := 3) sc__law_pool.nd rfl (Or.inl rfl) (pe_callB call_absA (by rfl) T.n_abs (by decide +kernel) (pa_cons (pe_callTy call_intA (by rfl) T.n_int (by decide +kernel) (pa_cons (pe_ix ix_seq (pv 0) (pv 2) (fun _ _ => rfl)) pa_nil)) pa_nil)))
      (pss_one (ps_if (pt_cmpR op_ltA (pv 3) (pe_op op_powA pe_int pe_int) (nomark _)) (pss_one (ps_for PassesOwn.never rfl (pi_range1 (by rfl) T.n_range (pa_cons pe_int pa_nil)) (pg_name (i := 4) sc__law_pool.nd rfl (Or.inl rfl)) (pss_one (ps_expr (pe_bm PySem.F.plainAttrs_list PySem.F.slot_list_append PySem.F.type_list_append mt_append (pv 1) (pa_cons (pe_d d__law_mixed hr (by decide) pass0 (by rfl) (pa_cons (pv 3) (pa_cons (pe_op op_addA (pe_op op_mulA pe_int (pv 2)) (pv 4)) pa_nil))) pa_nil)))))) (pss_one (ps_for PassesOwn.never rfl (pi_range1 (by rfl) T.n_range (pa_cons pe_int pa_nil)) (pg_name (i := 4) sc__law_pool.nd rfl (Or.inl rfl)) (pss_one (ps_if (pt_cmpR op_gtA (pv 3) pe_int (nomark _)) (pss_cons (ps_expr (pe_bm PySem.F.plainAttrs_list PySem.F.slot_list_append PySem.F.type_list_append mt_append (pv 1) (pa_cons (pe_op op_modA (pe_callTy call_intA (by rfl) T.n_int (by decide +kernel) (pa_cons (pv 3) pa_nil)) pe_int) pa_nil)))
      (pss_one (ps_set (i := 3) sc__law_pool.nd rfl (Or.inl rfl) (pe_op op_divA (pv 3) pe_int)))) pss_nil))))))))
      (pss_cons (ps_expr (pe_bm0 PySem.F.plainAttrs_list PySem.F.slot_list_reverse PySem.F.type_list_reverse mt_reverse (pv 1)))
      (pss_one (ps_ret (pv 1)))))), ?_⟩
    walk_at "rd"
    refine fun p hp => ?_
    have np : ∀ zs, Same H (upd H p (.lst zs)) := fun zs => UL.Same.new hp
    have haU : ∀ zs, SqL K (upd H p (.lst zs)) a (ns.map V.int) := fun zs => UL.Same.sqL (np zs) ha
    refine lenL (haU _) ⟨_, rfl, by omega, by simp; omega, FJ.rangeI (fun i σ' H' => ∃ ms : List Int, ms.length ≤ 60 * i ∧ (∃ x y z, σ' = [some (.ref a), some (.ref p), x, y, z]) ∧ H' = upd H p (.lst (ms.map V.int))) (by omega) ⟨[], Nat.zero_le _, ⟨_, _, _, rfl⟩, rfl⟩ (fun i σ' H' hi inv => ?_) fun σ' H' inv => ?_⟩
    · obtain ⟨ms, hm, ⟨x, y, z, rfl⟩, rfl⟩ := inv
      have hi2 : i < ns.length := by simpa using hi
      have hx : ns[i]? = some ns[i] := by simp [hi2]
      walk_at "rd"
      refine ixL (haU _) (atN (v := .int ns[i]) (by rw [List.getElem?_map, hx]; rfl)) ?_
      rw [cIntI, cAbsI]
      have habs : 0 ≤ (if ns[i] < 0 then -ns[i] else ns[i]) := by split <;> omega
      generalize (if ns[i] < 0 then -ns[i] else ns[i]) = av at habs
      refine ⟨⟨by decide, by decide, by decide⟩, av, rfl, ?_⟩
      have h10 : (10 : Int) ^ Int.toNat 18 = 10 ^ 18 := rfl
      rw [h10]
      by_cases hs : av < 10 ^ 18
      · rw [if_pos hs]
        refine ⟨by decide, by decide, FJ.rangeI (fun j σ' H' => ∃ m2 : List Int, m2.length ≤ 60 * i + j ∧ (∃ z, σ' = [some (.ref a), some (.ref p), some (.int i), some (.int av), z]) ∧ H' = upd H p (.lst (m2.map V.int))) (by decide) ⟨ms, hm, ⟨_, rfl⟩, rfl⟩ (fun j σ' H' hj inv => ?_) fun σ' H' inv => ?_⟩
        · obtain ⟨m2, hm2, ⟨z, rfl⟩, rfl⟩ := inv
          walk_at "rd"
          refine ⟨.inl ⟨rfl, _, .inl (.inl upd_same)⟩, .inr (by omega), av, _, rfl, habs, hs, by omega, by omega, fun r hr0 => ⟨p, _, _, rfl, rfl, upd_same, by rw [List.length_map, sizeLine_eq]; omega, m2 ++ [r], by simp; omega, ⟨_, rfl⟩, ?_⟩⟩
          rw [upd_upd, List.map_append]; rfl
        · obtain ⟨m2, hm2, ⟨z, rfl⟩, rfl⟩ := inv
          exact ⟨m2, by simp at hm2; omega, ⟨_, _, _, rfl⟩, rfl⟩
      · rw [if_neg hs]
        refine ⟨by decide, by decide, FJ.rangeI (fun j σ' H' => ∃ (m2 : List Int) (lv : Int), m2.length ≤ 60 * i + j ∧ 0 ≤ lv ∧ (∃ z, σ' = [some (.ref a), some (.ref p), some (.int i), some (.int lv), z]) ∧ H' = upd H p (.lst (m2.map V.int))) (by decide) ⟨ms, av, hm, habs, ⟨_, rfl⟩, rfl⟩ (fun j σ' H' hj inv => ?_) fun σ' H' inv => ?_⟩
        · obtain ⟨m2, lv, hm2, hlv, ⟨z, rfl⟩, rfl⟩ := inv
          walk_at "rd"
          by_cases h0 : 0 < lv
          · rw [if_pos h0]
            refine ⟨.inl ⟨rfl, _, .inl (.inl upd_same)⟩, by decide, p, _, _, rfl, rfl, upd_same, by rw [List.length_map, sizeLine_eq]; omega, ⟨by decide, by decide⟩, m2 ++ [lv % 1000], by simp; omega, lv / 1000, by omega, ⟨rfl, _, rfl⟩, ?_⟩
            rw [upd_upd, List.map_append]; rfl
          · rw [if_neg h0]
            exact ⟨m2, by omega, lv, hlv, ⟨rfl, _, rfl⟩, rfl⟩
        · obtain ⟨m2, lv, hm2, hlv, ⟨z, rfl⟩, rfl⟩ := inv
          exact ⟨m2, by simp at hm2; omega, ⟨_, _, _, rfl⟩, rfl⟩
    · obtain ⟨ms, hm, ⟨x, y, z, rfl⟩, rfl⟩ := inv
      walk_at "rd"
      refine ⟨.inl ⟨rfl, _, .inl (.inl upd_same)⟩, p, _, rfl, rfl, upd_same, ?_⟩
      exact q p _ hp ⟨ms.reverse, by rw [upd_upd, upd_same, List.map_reverse]⟩ (by rw [upd_upd]; exact np _)
end
end U
set_option Elab.async false
set_option linter.all false
set_option maxRecDepth 100000
set_option maxHeartbeats 4000000
set_option pp.deepTerms true
set_option pp.maxSteps 400000
namespace U
open PySem PySem.Spec PyProof.Rows L2 UL UX
local macro_rules | `(tactic| walk_at "rd") => `(tactic| simp only [sMatch, tJs, tFmt, tBC, tMethA, tMakeL, iEnumS, tSeq, tAsg, tOp, tCB, tCons, tNil, tVar, tC, tB, tTest, tNot, tIfS, tNext, tYes, tUn, rU, tM0, tGFrom, tGThen, tG0, tYfLst, gcxK, tSubO, tProp, tListG, tMethG, tBMF, tFld, sFld, tMeth, tMake, tSl, tNoPart, tPart, tM1, gTup, gCons, gNil, tDrop, tFor_eq, tLc_eq, tLc2_eq, iRng1_eq, StX.tStar, iList, iTup, iStr, iAny_var, iZipB, tLenSetS, wipe, tVar, tAndV, tOrV, tNotV, tOr, tAnd, tLst, tTup, tBM, tBM0, tChain, tCall, cxK, noxK, addII, addSS, mulII, eqII, neII, neSS, cIntI, cAbsI, rI, rI0, rLt, rLe, rGt_, rGe_, rSub_, rMod, rPow, rDivW, rNeg, gName, tRet, L2.start, List.length_cons, List.length_nil, List.map_cons, List.map_nil, List.replicate, List.cons_append, List.nil_append, List.getElem?_cons_zero, List.getElem?_cons_succ, List.set_cons_zero, List.set_cons_succ, Option.some.injEq, exists_eq_left', exists_eq_left, V.int.injEq, V.bl.injEq, V.str.injEq, V.ref.injEq, V.ty.injEq, List.cons.injEq, and_true, true_and, reduceCtorEq, false_and, exists_false, or_false, false_or, exists_and_left, exists_and_right, List.append_nil, forall_eq, decide_eq_true_eq, Bool.not_eq_true, Nat.reduceAdd, Nat.reduceSub, List.replicate_zero, List.replicate_succ, Nat.zero_le, ite_true, ite_false, if_true, if_false])
section
variable {P : Program} {w : World} {K : PySem.W.Frag} {mg : Str → Option Value} {base : Heap}
variable {R Wr B Pg : Addr}
def isNm (z : Str) : Prop := nmB z = true
def InL (z : Str) : Prop := ∀ c ∈ z.cps.toList, c ∈ abc.cps.toList
theorem abc_eq : abc.cps.toList = (List.range 26).map (97 + ·) := by decide +kernel
theorem abc_len : abc.length = 26 := by decide +kernel
theorem abc_at {i : Int} (h0 : 0 ≤ i) (h1 : i < 26) : atI abc.cps.toList i = some (97 + i.toNat) := by
  have e : ((i.toNat : Nat) : Int) = i := by omega
  rw [← e]
  refine atN ?_
  rw [abc_eq, List.getElem?_map, List.getElem?_range (by omega)]
  simp; omega
theorem abc_mem {n : Nat} (h : n < 26) : 97 + n ∈ abc.cps.toList := by
  rw [abc_eq]; exact List.mem_map.mpr ⟨n, List.mem_range.mpr h, rfl⟩
theorem inL_app {x y : Str} (hx : InL x) (hy : InL y) : InL (x ++ y) := fun c hc => by
  have : (x ++ y).cps.toList = x.cps.toList ++ y.cps.toList := by show (x.cps ++ y.cps).toList = _; simp
  rw [this] at hc
  rcases List.mem_append.mp hc with z | z
  · exact hx c z
  · exact hy c z
theorem inL_one {n : Nat} (h : n < 26) : InL ⟨#[97 + n]⟩ := fun c hc => by
  have : c = 97 + n := by simpa using hc
  rw [this]; exact abc_mem h
theorem inL_nil : InL Str.empty := fun c hc => by simp [Str.empty] at hc
theorem len_one (c : Nat) : (⟨#[c]⟩ : Str).length = 1 := rfl
/-- the text at one letter, then anything -/
theorem mid_inj {f b b' s s' : Str} {c c' : Nat} (h : ((f ++ ⟨#[c]⟩) ++ b) ++ s = ((f ++ ⟨#[c']⟩) ++ b') ++ s') : c = c' := by
  have e : ∀ (b s : Str) (c : Nat), (((f ++ ⟨#[c]⟩) ++ b) ++ s).cps.toList = f.cps.toList ++ (c :: (b.cps.toList ++ s.cps.toList)) := fun b s c => by
    show (((f.cps ++ #[c]) ++ b.cps) ++ s.cps).toList = _
    simp
  have h2 := congrArg (fun z : Str => z.cps.toList) h
  simp only [e] at h2
  have h3 := List.append_cancel_left h2
  exact (List.cons.inj h3).1
theorem app_nil (x : Str) : x ++ Str.empty = x := by
  show (⟨x.cps ++ #[]⟩ : Str) = x
  simp
theorem drawI {p : Addr} {m : Int} {H : Hp} {Q : VK} {E : XK} (hm : 0 < m) (hp : Pl H p) (q : ∀ r H', 0 ≤ r → r < m → Pl H' p → But p H H' → Q (.int r) H') : sp_draw [.ref p, .int m] H Q E := ⟨p, m, rfl, hm, hp, q⟩
theorem But.free' {H H' : Hp} {p q : Addr} (s : But p H H') (x : Pl H' p) (h : H' q = none) : H q = none := UL.But.free s x h
theorem But.tr {p : Addr} {H H1 H2 : Hp} (a : But p H H1) (b : But p H1 H2) : But p H H2 := UL.But.trans a b
theorem But.nw {p q : Addr} {H H' : Hp} {o : HO} (a : But p H H') (x : Pl H' p) (h : H' q = none) : But p H (upd H' q o) := But.tr a (UL.Same.but (UL.Same.new h))
/-- the names so far: one letter differs, what stands behind is of no account -/
def NU (fr bk : Str) (sh st : Int) (xs : List Str) : Prop := ∀ (j : Nat) x, xs[j]? = some x → ∃ s', InL s' ∧ s'.length ≤ 1 ∧ x = ((fr ++ ⟨#[97 + ((sh + st * j) % 26).toNat]⟩) ++ bk) ++ s'
theorem mod26 (i : Int) : (i % 26).toNat < 26 := by
  have h0 := Int.emod_nonneg i (show (26 : Int) ≠ 0 by decide)
  have h1 := Int.emod_lt_of_pos i (show (0 : Int) < 26 by decide)
  omega
theorem isNm_of {z : Str} (h1 : 1 ≤ z.length) (h2 : z.length ≤ 8) (h3 : InL z) : isNm z := by
  show nmB z = true
  simp only [nmB, decide_eq_true h1, decide_eq_true h2, Bool.true_and, List.all_eq_true]
  exact fun c hc => decide_eq_true (h3 c hc)
theorem NU.nm {fr bk : Str} {sh st : Int} {xs : List Str} (h : NU fr bk sh st xs) (hf : fr.length ≤ 3) (hb : bk.length ≤ 3) (hfi : InL fr) (hbi : InL bk) : ∀ z ∈ xs, isNm z := by
  intro z hz
  obtain ⟨j, hj⟩ := List.getElem?_of_mem hz
  obtain ⟨s', hs, hl, rfl⟩ := h j z hj
  refine isNm_of ?_ ?_ (inL_app (inL_app (inL_app hfi (inL_one (mod26 _))) hbi) hs) <;> simp only [len_app, len_one] <;> omega
theorem NU.snoc {fr bk : Str} {sh st : Int} {xs : List Str} (h : NU fr bk sh st xs) {s' : Str} (hs : InL s') (hl : s'.length ≤ 1) : NU fr bk sh st (xs ++ [((fr ++ ⟨#[97 + ((sh + st * xs.length) % 26).toNat]⟩) ++ bk) ++ s']) := fun j x hj => by
  by_cases hlt : j < xs.length
  · rw [List.getElem?_append_left hlt] at hj
    exact h j x hj
  · have : j = xs.length := by have := (List.getElem?_eq_some_iff.mp hj).1; simp at this; omega
    subst this
    simp at hj
    subst hj
    exact ⟨s', hs, hl, rfl⟩
theorem mulSI {H : Hp} {Q : VK} {z : Str} {n : Int} (h : n = 0 ∨ n = 1) (q : ∀ y : Str, (y = Str.empty ∨ y = z) → Q (.str y) H) : rMulA K (.str z) (.int n) H Q :=
  .inr (.inl ⟨z, n, rfl, rfl, h.elim (fun e => .inl ⟨e, q _ (.inl rfl)⟩) fun e => .inr ⟨e, q _ (.inr rfl)⟩⟩)
theorem mod26I (i : Int) : 0 ≤ i % 26 ∧ i % 26 < 26 := ⟨Int.emod_nonneg i (by decide), Int.emod_lt_of_pos i (by decide)⟩
theorem nm_read : isNm "read" := by show nmB _ = true; decide +kernel
theorem nm_as : isNm "as" := by show nmB _ = true; decide +kernel
theorem nm_write : isNm "write" := by show nmB _ = true; decide +kernel
theorem nm_by : isNm "by" := by show nmB _ = true; decide +kernel
theorem nm_of : isNm "of" := by show nmB _ = true; decide +kernel
abbrev s__law_names : Stmt := top 55
abbrev sc__law_names_N : List Str := ["_law_pool_here", "_law_count", "_law_letters", "_law_choice", "_law_shift", "_law_stride", "_law_front", "_law_k", "_law_back", "_law_names_here", "_law_name"]
theorem sc__law_names : FnScope sc__law_names_N ["_law_pool_here", "_law_count"] (defScope s__law_names) := ⟨rfl, rfl, rfl, by decide +kernel, rfl, by decide +kernel, by decide +kernel⟩
-- 0 _law_pool_here, 1 _law_count, 2 _law_letters, 3 _law_choice, 4 _law_shift, 5 _law_stride, 6 _law_front, 7 _law_k, 8 _law_back, 9 _law_names_here, 10 _law_name
theorem NU.nodup {fr bk : Str} {sh st : Int} {xs : List Str} (h : NU fr bk sh st xs) (hst : st = 1 ∨ st = 25 ∨ st = 7) (hl : xs.length ≤ 5) : xs.Nodup := by
  rw [List.Nodup, List.pairwise_iff_getElem]
  intro i j hi hj hij e
  obtain ⟨s1, _, _, e1⟩ := h i _ (List.getElem?_eq_getElem hi)
  obtain ⟨s2, _, _, e2⟩ := h j _ (List.getElem?_eq_getElem hj)
  rw [e1, e2] at e
  have m := mid_inj e
  rcases hst with rfl | rfl | rfl <;> omega
def sp_names0 : Sp := fun vs H Q _ => ∃ (p : Addr) (c : Nat), vs = [.ref p, .int c] ∧ Pl H p ∧ c ≤ 5 ∧ ∀ q H' (xs : List Str), xs.length = c → (∀ z ∈ xs, isNm z) → xs.Nodup → H q = none → H' q = some (.lst (xs.map V.str)) → Pl H' p → But p H H' → Q (.ref q) H'
theorem d_names0 (T : Nm mg) (D : TD K mg "_law_names" s__law_names) (d__law_draw : Dn P w K mg base CX0 1 "_law_draw" sp_draw) : Dn P w K mg base CX0 2 "_law_names" sp_names0 := by
  refine D.dn sc__law_names (fun _ _ _ _ _ _ us hl => match us, hl with | [_, _], _ => rfl) (fun vs H Q E h => ?_) (fun f cdv A outer s H vs Q E hr h => ?_)
  · obtain ⟨a, xs, rfl, _⟩ := h; rfl
  · obtain ⟨p, c, rfl, hp, h3, q⟩ := h
    refine ⟨_, (pss_cons (ps_set (i := 2) sc__law_names.nd rfl (Or.inl rfl) pe_str)
      (pss_cons (ps_set (i := 3) sc__law_names.nd rfl (Or.inl rfl) (pe_d d__law_draw hr (by decide) pass0 (by rfl) (pa_cons (pv 0) (pa_cons pe_int pa_nil))))
      (pss_cons (ps_if (pt_cmpR (op_eqA (hr.units)) (pv 3) pe_int (nomark _)) (pss_one (ps_ret (pe_slice sl_list (pe_lst (pa_cons pe_str (pa_cons pe_str (pa_cons pe_str (pa_cons pe_str (pa_cons pe_str (pa_cons pe_str pa_nil))))))) po_none (po_some (pv 1))))) pss_nil)
      (pss_cons (ps_set (i := 4) sc__law_names.nd rfl (Or.inl rfl) (pe_d d__law_draw hr (by decide) pass0 (by rfl) (pa_cons (pv 0) (pa_cons pe_int pa_nil))))
      (pss_cons (ps_set (i := 5) sc__law_names.nd rfl (Or.inl rfl) (pe_ix ix_seq (pe_lst (pa_cons pe_int (pa_cons pe_int (pa_cons pe_int pa_nil)))) (pe_d d__law_draw hr (by decide) pass0 (by rfl) (pa_cons (pv 0) (pa_cons pe_int pa_nil))) (fun _ _ => rfl)))
      (pss_cons (ps_set (i := 6) sc__law_names.nd rfl (Or.inl rfl) pe_str)
      (pss_cons (ps_for PassesOwn.never rfl (pi_range1 (by rfl) T.n_range (pa_cons (pe_d d__law_draw hr (by decide) pass0 (by rfl) (pa_cons (pv 0) (pa_cons pe_int pa_nil))) pa_nil)) (pg_name (i := 7) sc__law_names.nd rfl (Or.inl rfl)) (pss_one (ps_set (i := 6) sc__law_names.nd rfl (Or.inl rfl) (pe_op op_addA (pv 6) (pe_ix ix_seq (pv 2) (pe_d d__law_draw hr (by decide) pass0 (by rfl) (pa_cons (pv 0) (pa_cons pe_int pa_nil))) (fun _ _ => rfl))))))
      (pss_cons (ps_set (i := 8) sc__law_names.nd rfl (Or.inl rfl) pe_str)
      (pss_cons (ps_for PassesOwn.never rfl (pi_range1 (by rfl) T.n_range (pa_cons (pe_d d__law_draw hr (by decide) pass0 (by rfl) (pa_cons (pv 0) (pa_cons pe_int pa_nil))) pa_nil)) (pg_name (i := 7) sc__law_names.nd rfl (Or.inl rfl)) (pss_one (ps_set (i := 8) sc__law_names.nd rfl (Or.inl rfl) (pe_op op_addA (pv 8) (pe_ix ix_seq (pv 2) (pe_d d__law_draw hr (by decide) pass0 (by rfl) (pa_cons (pv 0) (pa_cons pe_int pa_nil))) (fun _ _ => rfl))))))
      (pss_cons (ps_set (i := 9) sc__law_names.nd rfl (Or.inl rfl) (pe_lst pa_nil))
      (pss_cons (ps_for PassesOwn.never rfl (pi_range1 (by rfl) T.n_range (pa_cons (pv 1) pa_nil)) (pg_name (i := 7) sc__law_names.nd rfl (Or.inl rfl)) (pss_cons (ps_set (i := 10) sc__law_names.nd rfl (Or.inl rfl) (pe_op op_addA (pe_op op_addA (pv 6) (pe_ix ix_seq (pv 2) (pe_op op_modA (pe_callTy call_intA (by rfl) T.n_int (by decide +kernel) (pa_cons (pe_op op_addA (pv 4) (pe_op op_mulA (pv 5) (pv 7))) pa_nil)) pe_int) (fun _ _ => rfl))) (pv 8)))
      (pss_cons (ps_if (pt_cmpR (op_eqA (hr.units)) (pv 3) pe_int (nomark _)) (pss_one (ps_set (i := 10) sc__law_names.nd rfl (Or.inl rfl) (pe_op op_addA (pv 10) (pe_op op_mulA (pe_ix ix_seq (pv 2) (pv 7) (fun _ _ => rfl)) (pe_op op_modA (pv 7) pe_int))))) pss_nil)
      (pss_one (ps_expr (pe_bm PySem.F.plainAttrs_list PySem.F.slot_list_append PySem.F.type_list_append mt_append (pv 9) (pa_cons (pv 10) pa_nil)))))))
      (pss_one (ps_ret (pv 9)))))))))))))), ?_⟩
    walk_at "rd"
    refine drawI (by decide) hp fun ch H1 c0 c6 hp1 b1 => eqII.mpr ⟨_, rfl, ?_⟩
    by_cases h4 : ch = 4
    · rw [if_pos (by simp [h4])]
      refine ⟨by rw [sizeLine_eq]; decide, fun l hl => ⟨l, _, rfl, .inl (.inl upd_same), fun q0 hq0 => ?_⟩⟩
      have key : ∀ xs : List Str, (upd (upd H1 l (.lst [V.str (Str.ofString "read"), V.str (Str.ofString "as"), V.str (Str.ofString "write"), V.str (Str.ofString "by"), V.str (Str.ofString "of"), V.str (Str.ofString "program")])) q0 (.lst (xs.map V.str)) = upd (upd H1 l (.lst [V.str (Str.ofString "read"), V.str (Str.ofString "as"), V.str (Str.ofString "write"), V.str (Str.ofString "by"), V.str (Str.ofString "of"), V.str (Str.ofString "program")])) q0 (.lst (cutV [V.str (Str.ofString "read"), V.str (Str.ofString "as"), V.str (Str.ofString "write"), V.str (Str.ofString "by"), V.str (Str.ofString "of"), V.str (Str.ofString "program")] none (some (c : Int))))) → xs.length = c → (∀ z ∈ xs, isNm z) → xs.Nodup → Q (.ref q0) (upd (upd H1 l (.lst [V.str (Str.ofString "read"), V.str (Str.ofString "as"), V.str (Str.ofString "write"), V.str (Str.ofString "by"), V.str (Str.ofString "of"), V.str (Str.ofString "program")])) q0 (.lst (cutV [V.str (Str.ofString "read"), V.str (Str.ofString "as"), V.str (Str.ofString "write"), V.str (Str.ofString "by"), V.str (Str.ofString "of"), V.str (Str.ofString "program")] none (some (c : Int))))) := by
        intro xs e hl2 hn hnd
        rw [← e]
        have hp2 := Pl.put (o := .lst [V.str (Str.ofString "read"), V.str (Str.ofString "as"), V.str (Str.ofString "write"), V.str (Str.ofString "by"), V.str (Str.ofString "of"), V.str (Str.ofString "program")]) hp1 (hp1.ne hl)
        have b2 := But.nw (o := .lst [V.str (Str.ofString "read"), V.str (Str.ofString "as"), V.str (Str.ofString "write"), V.str (Str.ofString "by"), V.str (Str.ofString "of"), V.str (Str.ofString "program")]) b1 hp1 hl
        exact q q0 _ xs hl2 hn hnd (But.free' b2 hp2 hq0) upd_same (hp2.put (hp2.ne hq0)) (But.nw b2 hp2 hq0)
      have c15 : c = 0 ∨ c = 1 ∨ c = 2 ∨ c = 3 ∨ c = 4 ∨ c = 5 := by omega
      rcases c15 with rfl | rfl | rfl | rfl | rfl | rfl
      · exact key [] rfl rfl (fun z hz => by cases hz) (by decide +kernel)
      · exact key ["read"] rfl rfl (by simp only [List.mem_singleton, forall_eq]; exact nm_read) (by decide +kernel)
      · exact key ["read", "as"] rfl rfl (by simp only [List.mem_cons, List.not_mem_nil, or_false, forall_eq_or_imp, forall_eq]; exact ⟨nm_read, nm_as⟩) (by decide +kernel)
      · exact key ["read", "as", "write"] rfl rfl (by simp only [List.mem_cons, List.not_mem_nil, or_false, forall_eq_or_imp, forall_eq]; exact ⟨nm_read, nm_as, nm_write⟩) (by decide +kernel)
      · exact key ["read", "as", "write", "by"] rfl rfl (by simp only [List.mem_cons, List.not_mem_nil, or_false, forall_eq_or_imp, forall_eq]; exact ⟨nm_read, nm_as, nm_write, nm_by⟩) (by decide +kernel)
      · exact key ["read", "as", "write", "by", "of"] rfl rfl (by simp only [List.mem_cons, List.not_mem_nil, or_false, forall_eq_or_imp, forall_eq]; exact ⟨nm_read, nm_as, nm_write, nm_by, nm_of⟩) (by decide +kernel)
    · rw [if_neg (by simp [h4])]
      refine drawI (by decide) hp1 fun sh H2 s0 s26 hp2 b2 => ⟨by rw [sizeLine_eq]; decide, fun l hl => ?_⟩
      have b02 := But.tr b1 b2
      refine drawI (by decide) (hp2.put (hp2.ne hl)) fun r3 H3 r0 r33 hp3 b3 => ?_
      have hl3 : H3 l = some (.lst [V.int 1, .int 25, .int 7]) := b3 _ _ upd_same (Ne.symm (hp2.ne hl))
      have b03 : But p H H3 := But.tr (But.nw b02 hp2 hl) b3
      have hstr : ∃ st : Int, atI [V.int 1, .int 25, .int 7] r3 = some (.int st) ∧ (st = 1 ∨ st = 25 ∨ st = 7) := by
        have : r3 = 0 ∨ r3 = 1 ∨ r3 = 2 := by omega
        rcases this with rfl | rfl | rfl
        · exact ⟨1, rfl, .inl rfl⟩
        · exact ⟨25, rfl, .inr (.inl rfl)⟩
        · exact ⟨7, rfl, .inr (.inr rfl)⟩
      obtain ⟨st, hat, hst⟩ := hstr
      refine ixL (.inl (.inl hl3)) hat (drawI (by decide) hp3 fun fn H4 f0 f4 hp4 b4 => ⟨fn, rfl, by omega, by omega, ?_⟩)
      have b04 := But.tr b03 b4
      refine FJ.rangeI (fun i σ' H' => ∃ fr : Str, fr.length ≤ i ∧ InL fr ∧ Pl H' p ∧ But p H H' ∧ ∃ z, σ' = [some (.ref p), some (.int c), some (.str abc), some (.int ch), some (.int sh), some (.int st), some (.str fr), z, none, none, none]) f0 ⟨Str.empty, Nat.le_refl _, inL_nil, hp4, b04, _, rfl⟩ (fun i σ' H' hi inv => ?_) fun σ' H' inv => ?_
      · obtain ⟨fr, hfl, hfi, hp5, b5, z, rfl⟩ := inv
        walk_at "rd"
        refine drawI (by decide) hp5 fun r H5 r0 r26 hp6 b6 => ixS (by rw [abc_len, sizeLine_eq]; decide) (abc_at r0 r26) (addSS.mpr ⟨by rw [len_one, sizeLine_eq]; omega, _, by rw [len_app, len_one]; omega, inL_app hfi (inL_one (by omega)), hp6, But.tr b5 b6, rfl, _, rfl⟩)
      · obtain ⟨fr, hfl, hfi, hp5, b5, z, rfl⟩ := inv
        walk_at "rd"
        refine drawI (by decide) hp5 fun bn H5 g0 g4 hp6 b6 => ⟨bn, rfl, by omega, by omega, ?_⟩
        have b06 := But.tr b5 b6
        refine FJ.rangeI (fun i σ' H' => ∃ bk : Str, bk.length ≤ i ∧ InL bk ∧ Pl H' p ∧ But p H H' ∧ ∃ z, σ' = [some (.ref p), some (.int c), some (.str abc), some (.int ch), some (.int sh), some (.int st), some (.str fr), z, some (.str bk), none, none]) g0 ⟨Str.empty, Nat.le_refl _, inL_nil, hp6, b06, _, rfl⟩ (fun i σ' H' hi inv => ?_) fun σ' H' inv => ?_
        · obtain ⟨bk, hbl, hbi, hp7, b7, z, rfl⟩ := inv
          walk_at "rd"
          refine drawI (by decide) hp7 fun r H8 r0 r26 hp8 b8 => ixS (by rw [abc_len, sizeLine_eq]; decide) (abc_at r0 r26) (addSS.mpr ⟨by rw [len_one, sizeLine_eq]; omega, _, by rw [len_app, len_one]; omega, inL_app hbi (inL_one (by omega)), hp8, But.tr b7 b8, rfl⟩)
        · obtain ⟨bk, hbl, hbi, hp7, b7, z, rfl⟩ := inv
          walk_at "rd"
          have hfl3 : fr.length ≤ 3 := by omega
          have hbl3 : bk.length ≤ 3 := by omega
          refine fun q0 hq0 => ⟨by omega, by omega, FJ.rangeI (fun i σ' H9 => ∃ xs : List Str, xs.length = i ∧ NU fr bk sh st xs ∧ H9 = upd H' q0 (.lst (xs.map V.str)) ∧ ∃ z w, σ' = [some (.ref p), some (.int c), some (.str abc), some (.int ch), some (.int sh), some (.int st), some (.str fr), z, some (.str bk), some (.ref q0), w]) (by omega) ⟨[], rfl, (fun j x h => nomatch h), rfl, _, _, rfl⟩ (fun i σ' H9 hi inv => ?_) fun σ' H9 inv => ?_⟩
          · obtain ⟨xs, hxl, hnu, rfl, z, w', rfl⟩ := inv
            walk_at "rd"
            subst hxl
            have m := mod26I (sh + st * xs.length)
            refine ⟨.inl (by omega), by decide, ixS (by rw [abc_len, sizeLine_eq]; decide) (abc_at m.1 m.2) (addSS.mpr ⟨by rw [len_one, sizeLine_eq]; omega, addSS.mpr ⟨by rw [len_app, len_one, sizeLine_eq]; omega, ?_⟩⟩)⟩
            have hup : upd H' q0 (.lst (xs.map V.str)) q0 = some (.lst (xs.map V.str)) := upd_same
            have hsz : (xs.map V.str).length < sizeLine := by rw [List.length_map, sizeLine_eq]; omega
            by_cases h2 : ch = 2
            · rw [if_pos h2]
              refine ixS (by rw [abc_len, sizeLine_eq]; decide) (abc_at (by omega) (by omega)) ⟨by decide, mulSI (by omega) fun y hy => addSS.mpr ?_⟩
              have hyl : y.length ≤ 1 ∧ InL y := by
                rcases hy with rfl | rfl
                · exact ⟨Nat.zero_le _, inL_nil⟩
                · exact ⟨Nat.le_refl _, inL_one (by omega)⟩
              refine ⟨by rw [len_app, len_app, len_one, sizeLine_eq]; omega, .inl ⟨rfl, _, .inl (.inl hup)⟩, q0, _, _, rfl, rfl, hup, hsz, _, by simp, hnu.snoc hyl.2 hyl.1, ?_, _, rfl⟩
              rw [upd_upd, List.map_append]; rfl
            · rw [if_neg h2]
              have e := hnu.snoc inL_nil (Nat.zero_le _)
              rw [app_nil] at e
              refine ⟨.inl ⟨rfl, _, .inl (.inl hup)⟩, q0, _, _, rfl, rfl, hup, hsz, _, by simp, e, ?_, _, rfl⟩
              rw [upd_upd, List.map_append]; rfl
          · obtain ⟨xs, hxl, hnu, rfl, z, w', rfl⟩ := inv
            walk_at "rd"
            have hnl : xs.length = c := by omega
            refine q q0 _ xs hnl (hnu.nm hfl3 hbl3 hfi hbi) (hnu.nodup hst (by omega)) (But.free' b7 hp7 hq0) upd_same ?_ ?_
            · exact hp7.put (hp7.ne hq0)
            · exact But.nw b7 hp7 hq0
def sp_namesN : Sp := fun vs H Q _ => ∃ (p : Addr) (c : Nat), vs = [.ref p, .int c] ∧ Pl H p ∧ 1 ≤ c ∧ c ≤ 5 ∧ ∀ q H' (xs : List Str), xs.length = c → (∀ z ∈ xs, isNm z) → xs.Nodup → H q = none → H' q = some (.lst (xs.map V.str)) → Pl H' p → But p H H' → Q (.ref q) H'
theorem d_namesN (T : Nm mg) (D : TD K mg "_law_names" s__law_names) (d__law_draw : Dn P w K mg base CX0 1 "_law_draw" sp_draw) : Dn P w K mg base CX0 2 "_law_names" sp_namesN := by
  obtain ⟨f, fd, ps, F, r⟩ := (d_names0 T D d__law_draw).ex
  exact ⟨f, fd, ps, F.imp fun vs H Q E ⟨p, c, e, hp, h1, h5, q⟩ => ⟨p, c, e, hp, h5, q⟩, r⟩
end
end U
set_option Elab.async false
set_option linter.all false
set_option maxRecDepth 100000
set_option maxHeartbeats 4000000
namespace U
open PySem PySem.Spec PyProof.Rows L2 UL UV UW NdefX
section
variable {P : Program} {w : World} {K : PySem.W.Frag} {mg : Str → Option Value} {base : Heap}
theorem ncK {CX : CXT} {N : List Str} {F : NF} {f : Addr} {A : Around} {outer : List Env} {s : Shared} {H : Hp} {E : XK} : (ncx CX P w K mg base N F f A outer s H E).K = K := rfl
end
local macro_rules | `(tactic| walk_at "rdx") => `(tactic| simp only [tCons, tNil, tJs, tC, tFmt, tFmtN, tVar, tOst, tSeq, startF, L2.start, List.length_cons, List.length_nil, List.map_cons, List.map_nil, List.replicate, List.cons_append, List.nil_append, List.getElem?_cons_zero, List.getElem?_cons_succ, Option.some.injEq, exists_eq_left', exists_eq_left, V.str.injEq, V.int.injEq, V.ref.injEq, reduceCtorEq, false_and, exists_false, or_false, false_or, and_true, true_and, exists_and_left, exists_and_right, Nat.reduceAdd, Nat.reduceSub, Nat.reduceLeDiff, ncK])
section
variable {P : Program} {w : World} {K : PySem.W.Frag} {mg : Str → Option Value} {base : Heap}
/-- an exception class as it stands, with its __init__ -/
structure XD (P : Program) (K : PySem.W.Frag) (mg : Str → Option Value) (C : Addr) (x qual : Str) (st : Stmt) : Prop where
  ex : ∃ (f c cc : Addr) (oc kV doc pm ct : Value) (od an : Option Addr) (osl : Array (Option Value)), K.lookup f = some ⟨oc, od, .func (PySem.W.fnX "__init__" qual (defArgs st) (defBody st) (defScope st) [("__class__", cc)] .none kV doc pm an (.ref c) ct), osl⟩ ∧ PySem.W.codeIn K (.ref c) qual = true ∧
    SupF P K mg C f c cc (PySem.W.fnX "__init__" qual (defArgs st) (defBody st) (defScope st) [("__class__", cc)] .none kV doc pm an (.ref c) ct) ∧ PySem.W.findIn K (.ref C) "__init__" = some (some (.ref f)) ∧ PySem.W.typeIn K (.ref f) = some (.type "function")
  ox : OexC K C
  gc : mg x = some (.ref C)
/-- .. and what its __init__ promises -/
structure Xn (P : Program) (w : World) (K : PySem.W.Frag) (mg : Str → Option Value) (base : Heap) (k : Nat) (C : Addr) (x : Str) (sp : Sp) : Prop where
  ex : ∃ (f : Addr) (fd : FuncData) (ps : List Str), FnOk P w K mg base CX0 k f fd ps sp ∧ PySem.W.findIn K (.ref C) "__init__" = some (some (.ref f)) ∧ PySem.W.typeIn K (.ref f) = some (.type "function") ∧ Binds K fd ps []
  ox : OexC K C
  gc : mg x = some (.ref C)
theorem pmk_x {X : Cx} {C : Addr} {x : Str} {sp : Sp} {k j : Nat} {e : Expr} {es : List Expr} {ta : TA} {p pos : Pos} (d : Xn X.prog X.w X.K X.mg X.base k C x sp) (hr : Room j X.A) (hk : k + 1 ≤ j) (hg : Gl X x) (ha : PA X (e :: es) ta)
    (hdb : (x == ("__debug__" : Str)) = false := by decide) (he : starEach (e :: es) X.env = (false, eval e X.env) :: starEach es X.env := by rfl) (hpl : (backTo pos (starEach es X.env)).any (·.1) = false := by rfl) : PMk X (.Call (.Name x p) (e :: es) [] pos) (tMkO C sp [] ta) := by
  obtain ⟨f, fd, ps, F, h1, h2, B⟩ := d.ex
  exact pmk_oex d.ox h1 h2 F (hr.mono hk) B .nil (fun _ _ _ _ _ _ _ h => h.elim) hg d.gc ha hdb he hpl
theorem log64 {i : Int} (h0 : -(2 ^ 64) < i) (h1 : i < 2 ^ 64) : i.natAbs.log2 < 1920 := by
  by_cases e : i.natAbs = 0
  · rw [e]; decide
  · have : i.natAbs < 2 ^ 64 := by omega
    have := (Nat.log2_lt e).mpr this
    omega
/-- the exception's record is gone, its dict stands -/
theorem exg1 {H : Hp} {a d : Addr} {o1 o2 o3 o4 : HO} (ha : H a = none) : upd (del (upd (upd (upd H a o1) d o2) a o3) a) d o4 = upd H d o4 := by
  funext b
  by_cases hb : b = d
  · rw [hb, upd_same, upd_same]
  · rw [upd_ne hb, upd_ne hb]
    by_cases h2 : b = a
    · rw [h2, del_same, ha]
    · rw [del_ne h2, upd_ne h2, upd_ne hb, upd_ne h2]
end
end U
set_option Elab.async false
set_option linter.all false
set_option maxRecDepth 100000
set_option maxHeartbeats 4000000
/-! a classmethod that may raise, called in a try's body -/
namespace UX
open PySem PySem.Spec PyProof.Rows L2 UL UV UW ClX
/-- xs.insert(i, y) -/
def rInsert : V → List V → Hp → VK → Prop := fun x vs H Q => ∃ (l : Addr) (xs : List V) (i : Int) (y : V), x = .ref l ∧ vs = [.int i, y] ∧ H l = some (.lst xs) ∧ xs.length < sizeLine ∧ 0 ≤ i ∧ i < 2 ^ 63 ∧ Q .non (upd H l (.lst (xs.take i.toNat ++ [y] ++ xs.drop i.toNat)))
theorem mt_insertM {X : Cx} : MtR X "list.insert" rInsert := mt_insert
end UX
set_option Elab.async false
set_option linter.all false
set_option maxRecDepth 100000
set_option maxHeartbeats 4000000
/-! tuple(d); a class made in a try; what is never reached -/
namespace UX
open PySem PySem.Spec PyProof.Rows L2 UL UV UW PySem.W
section
variable {prog : Program} {w : World} {A : Around} {E : Value → Shared → Prop} {s : Shared} {r d : Addr} {n : Nat} {T : String} {P : Nat → Value → Prop} {OK : Heap → Prop}
theorem collect_kdl {Q : List Value → Shared → Prop} (K : KdlSrc prog w T r d n P OK) (hh : A.handled = none) (hok : OK s.heap) (hlen : n ≤ sizeLine)
    (hQ : ∀ (h' : Heap) (tk : Nat) (acc : Array Value), (∀ b o, s.heap.get? b = some o → h'.get? b = some o) → ItemsOf P acc n → Q acc.toList { s with heap := h', toks := tk }) :
    wpAny (model prog w) A (collect (.ref r)) Q E s := by
  unfold collect
  refine wpAny_bind (wpAny_runValue (codeAny_builtin F.entry_proto_collect ?_))
  rw [Around.under_plainId F.plain_proto_collect _]
  show wpAny _ A.in1 (newList [] >>= fun l => again (.builtin "list.__iadd__" ⟨[l, .ref r], []⟩)) _ _ s
  refine wpAny_bind (wpAny_newObj_type ?_)
  refine wpAny_pure ⟨plainId_quiet F.plain_list_iadd _, codeAny_builtin F.entry_list_iadd ?_⟩
  rw [Around.under_plainId F.plain_list_iadd _]
  show wpAny _ A.in1 (Builtin.List.listExtendWith (.ref s.heap.objs.size) (.ref r) (.ref s.heap.objs.size)) _ _ _
  have hS : (s.heap.push { cls := .type "list", data := .seq ([] : List Value).toArray }).get? s.heap.objs.size = some { cls := .type "list", data := .seq #[] 0 } := Heap.get?_push_size _ rfl
  have hok2 : OK (s.heap.push { cls := .type "list", data := .seq ([] : List Value).toArray }) := K.keep _ _ hok fun b _ o e => Heap.get?_push_of_some _ e
  obtain ⟨t1, t2⟩ := K.there _ hok
  refine wpAny_mono (kdl_extend (A := A) (R := fun rr s' => rr = .ok (.ret (.ref s.heap.objs.size)) ∧ ∃ (h' : Heap) (tk : Nat) (acc : Array Value) (c' : Nat), s' = { s with heap := h', toks := tk } ∧
      (∀ b o, s.heap.get? b = some o → h'.get? b = some o) ∧ h'.get? s.heap.objs.size = some { cls := .type "list", dict := none, data := .seq acc c', slots := #[] } ∧ ItemsOf P acc n)
    (s := { s with heap := s.heap.push { cls := .type "list", data := .seq ([] : List Value).toArray } }) K hh hok2 s.heap.objs.size (Nat.ne_of_gt t1) (Nat.ne_of_gt t2) _ 0 hS
    (fun h' tk acc c' hk e hi => ⟨rfl, h', tk, acc, c', rfl, fun b o q => hk b o (Nat.ne_of_lt (Heap.lt_size q)) (Heap.get?_push_of_some _ q), e, hi⟩) hlen) (fun fin s' h => ?_) (fun e s' h => ?_)
  · cases fin with
    | done f =>
      obtain ⟨e, h', tk, acc, c', rfl, hk, hS', hi⟩ := h
      cases e
      show wpAny _ A (load s.heap.objs.size >>= _) _ _ _
      exact wpAny_bind (wpAny_load hS' (wpAny_pure (hQ h' tk acc hk hi)))
    | again c' =>
      refine ⟨h.1, codeAny_mono h.2 fun rr s'' hr' => ?_⟩
      obtain ⟨rfl, h', tk, acc, c', rfl, hk, hS', hi⟩ := hr'
      show wpAny _ A (load s.heap.objs.size >>= _) _ _ _
      exact wpAny_bind (wpAny_load hS' (wpAny_pure (hQ h' tk acc hk hi)))
  · exact absurd h.1 (by simp)
theorem code_tuple_new_kdl {Q₁ : Value → Shared → Prop} (K : KdlSrc prog w T r d n P OK) (hh : A.handled = none) (hok : OK s.heap) (hlen : n ≤ sizeLine)
    (h : ∀ (h' : Heap) (tk : Nat) (acc : Array Value), (∀ b o, s.heap.get? b = some o → h'.get? b = some o) → ItemsOf P acc n →
      Q₁ (.ref h'.objs.size) { s with heap := h'.push { cls := .type "tuple", data := .seq acc }, toks := tk }) :
    codeAny (model prog w) A (.call (.builtin "tuple.__new__") ⟨[.type "tuple", .ref r], []⟩) (wants Q₁ E) s := by
  refine codeAny_of_tree ?_
  show wpAny _ A.in1 (do checkBuiltinCall "tuple.__new__" ⟨[.type "tuple", .ref r], []⟩; again (.builtin "tuple.__new__" ⟨[.type "tuple", .ref r], []⟩)) _ _ s
  refine wpAny_bind (wpAny_of_eq (F.newCall_tuple_1 _) (wpAny_pure ⟨plainId_quiet F.plain_tuple_new _, codeAny_builtin F.entry_tuple_new ?_⟩))
  rw [Around.under_plainId F.plain_tuple_new _]
  have hsub := sub_tuple_self
  have hinit := init_tuple_lookup
  have hmh := madeHere_tuple
  have hTI : s.TypeIs (.ref r) T := K.type s hok
  have hh1 : A.in1.handled = none := hh
  have hnt := K.notTuple
  wp_walk using wpAny_typeOf hTI, collect_kdl (A := A.in1) K hh1 hok hlen
  intro h' tk acc hk hacc
  show wpAny _ _ (Builtin.Tuple.tupleExact acc.toList.toArray >>= fun v => ret v) _ _ _
  unfold Builtin.Tuple.tupleExact
  refine wpAny_bind (wpAny_newObj_type ?_ (by show acc.toList.toArray.size ≤ sizeLine; simp only [Array.toArray_toList]; rw [hacc.1]; exact hlen))
  refine wpAny_pure ?_
  have e : acc.toList.toArray = acc := by simp
  rw [e]
  exact h h' tk acc hk hacc
theorem call_tuple_kdl {Q : Value → Shared → Prop} (K : KdlSrc prog w T r d n P OK) (hh : A.handled = none) (hok : OK s.heap) (hlen : n ≤ sizeLine)
    (hQ : ∀ (h' : Heap) (tk : Nat) (acc : Array Value), (∀ b o, s.heap.get? b = some o → h'.get? b = some o) → ItemsOf P acc n →
      Q (.ref h'.objs.size) { s with heap := h'.push { cls := .type "tuple", data := .seq acc }, toks := tk }) :
    wpAny (model prog w) A (call (.type "tuple") [.ref r]) Q E s := by
  refine callType_codes (Q₁ := fun obj s₁ => s₁.TypeIs obj "tuple" ∧ Q obj s₁) F.called_tuple (F.typeCall_tuple_1 _) F.entry_object_init
    (code_tuple_new_kdl (A := A.in1) K hh hok hlen fun h' tk acc hk hacc => ⟨⟨_, Heap.get?_push_size _ rfl, rfl⟩, hQ h' tk acc hk hacc⟩) fun obj s₁ h₁ => ?_
  exact ⟨h₁.1, F.args_object_init_2 obj _, object_init_meets F.called_tuple.init.lookup F.called_tuple.made (by decide) prog w A.in1 _ s₁ ⟨h₁.1, rfl, h₁.2⟩⟩
end
section
variable {X : Cx}
/-- tuple(d), d with plain keys: no dict, no slots -/
def cTupD : List V → Hp → VK → Prop := fun xs H Q => ∃ (a : Addr) (kvs : List (Key × V)), xs = [.ref a] ∧ Rd H a (.dK kvs) ∧ ∀ p o, H p = none → o.dict = none → o.slots = #[] → Q (.ref p) (upd H p (.frz o (.tup (kvs.map fun kv => kV kv.1))))
theorem call_tupD (hcalm : X.calm = true) : CallR X (.type "tuple") cTupD := by
  intro pins s σ H xs us Q I r q
  obtain ⟨a, kvs, ex, hd, q⟩ := q
  subst ex
  obtain ⟨u, eu, rx⟩ := vals1 r
  subst eu
  cases rx
  obtain ⟨z, lo, vs, rel, dd⟩ := dk_rd I.hok hd
  obtain ⟨ep, hat⟩ := dd.dictAt
  have ek : (kvs.map fun kv => kV kv.1) = vs.map fun p => kV p.1 := by
    have e := congrArg (List.map kV) rel.keys
    rw [List.map_map, List.map_map] at e
    exact e
  refine call_tuple_kdl (kdl_dict (knd := mixKind X.prog X.w) (kvs := vs) (ep := ep) lo) (I.ok.hd hcalm) hat (by rw [← rel.length]; exact z) fun h' tk acc hk hacc => ?_
  have hv : Vals (vs.map fun p => kV p.1) acc.toList := keys_at (by rw [Array.length_toList]; exact hacc.1) fun j v e => hacc.2 j v (by rw [← Array.getElem?_toList]; exact e)
  have I1 : Inv X pins σ H { s with heap := h', toks := tk } := I.kept (t' := tk) hk
  refine ⟨.ref h'.objs.size, _, I1.laid (t' := tk) (fun b o e => Heap.get?_push_of_some _ e) (Nat.le_refl _) (show ObjOk X.prog X.w _ _ _ (.frz { cls := .type "tuple", data := .seq acc } (.tup (kvs.map fun kv => kV kv.1))) from
    ⟨Heap.get?_push_size _ rfl, by rw [List.length_map]; exact z, acc.toList, by rw [ek]; exact hv, ?_⟩), rfl, q _ _ (I1.hok.fresh (Nat.le_refl _)) rfl rfl⟩
  have e : acc = acc.toList.toArray := by simp
  exact e ▸ IsTup.new _ _
end
/-- what a dict comprehension over J wants of its dict at D -/
def DJ (J : It) (g : TG) (tt : TT) (tk tv : TE) (vs : List Nat) (σ : L2.St) (D : Addr) (Qd : Hp → Prop) (H1 : Hp) : Prop := ∃ W : Nat → Nat → Hp → Prop, (∃ m, W 0 m (upd H1 D (.dK []))) ∧ ∀ i m H, W i m H →
  (J.stop i H ∧ Qd H) ∨ (J.go i H ∧ ∃ Nx : Hp → Prop, (∀ H', Nx H' → ∃ m', m' < m ∧ W (i + 1) m' H') ∧ ∀ x H', J.yld i H x H' → g x (wipe σ vs) H' fun σ2 H2 => wipe σ2 vs = wipe σ vs ∧ tt σ2 H2 fun b H3 =>
    if b = true then tk σ2 H3 fun y H4 => tv σ2 H4 fun z H5 => ∃ kvs k, y = kV k ∧ H5 D = some (.dK kvs) ∧ kvs.length < sizeLine ∧ Nx (upd H5 D (.dK (putK kvs k z))) else Nx H3)
theorem tDc_eq {wi : TI} {g : TG} {tt : TT} {tk tv : TE} {vs : List Nat} {σ : L2.St} {H : Hp} {Q : VK} : tDc wi g tt tk tv vs σ H Q = wi σ H fun J H1 => ∀ D, H1 D = none → DJ J g tt tk tv vs σ D (fun H2 => Q (.ref D) H2) H1 := rfl
theorem DJ.tup {K : PySem.W.Frag} {a : Addr} {xs : List V} {g : TG} {tt : TT} {tk tv : TE} {vs : List Nat} {σ : L2.St} {H1 : Hp} {D : Addr} {Qd : Hp → Prop} (Pv : Nat → Hp → Prop) (h0 : Pv 0 (upd H1 D (.dK []))) (hl : ∀ i H, i ≤ xs.length → Pv i H → SqT K H a xs)
    (hs : ∀ i x H, xs[i]? = some x → Pv i H → g x (wipe σ vs) H fun σ2 H2 => wipe σ2 vs = wipe σ vs ∧ tt σ2 H2 fun b H3 =>
      if b = true then tk σ2 H3 fun y H4 => tv σ2 H4 fun z H5 => ∃ kvs k, y = kV k ∧ H5 D = some (.dK kvs) ∧ kvs.length < sizeLine ∧ Pv (i + 1) (upd H5 D (.dK (putK kvs k z))) else Pv (i + 1) H3) (hd : ∀ H, Pv xs.length H → Qd H) : DJ (Itt K a) g tt tk tv vs σ D Qd H1 := dc_tup Pv h0 hl hs hd
end UX
set_option Elab.async false
set_option linter.all false
set_option maxRecDepth 100000
set_option maxHeartbeats 4000000
/-! a classmethod without arguments; own + and |; a classmethod with a star parameter -/
namespace UX
open PySem PySem.Spec PyProof.Rows L2 UL UV UW ClX
section
variable {X : Cx} {CX : CXT} {k j i : Nat} {C : Addr} {sp : Sp} {E : L2.St → XK} {ea eb : Expr} {op : Operator} {m x : Str} {p pos apos : Pos} {ta tb : TE} {pl : Sem Bool}
/-- inside a comprehension -/
theorem call_lenK (K : PySem.W.Frag) (h : X.K = K) : CallR X (.builtin "len") (cLen K) := h ▸ call_lenA
theorem ix_seqK (K : PySem.W.Frag) (h : X.K = K) : IxR X (rIx K) := h ▸ ix_seq
theorem op_neK (K : PySem.W.Frag) (h : X.K = K) (hu : X.A.units + 64 < cLine) : OpR X (compareOp .NotEq) (rNeA K) := h ▸ op_neA hu
end
end UX
set_option Elab.async false
set_option linter.all false
set_option maxRecDepth 100000
set_option maxHeartbeats 4000000
/-! d.setdefault(k, v) -/
namespace UX
open PySem PySem.Spec PyProof.Rows L2 UL UV UW ClX
theorem mt_setd {X : Cx} : MtR X "dict.setdefault" rSetd := by
  intro pins s σ H x vs u us Q I rx rv h
  obtain ⟨a, kvs, k, v, rfl, rfl, ea, hl, w1, w2⟩ := h
  cases rx
  obtain ⟨u1, u2, rfl, ry, rd⟩ := rv.two
  obtain ⟨z, hd, vs0, rel, dd⟩ := dk_of I.hok ea
  have hz : vs0.length ≤ sizeLine := by rw [← rel.length]; exact z
  refine call_meetsIn F.slot_dict_setdefault dd.typeIs F.entry_dict_setdefault (F.args_dict_setdefault_3 _ _ _) (kt_meets_setdefault (mixKind X.prog X.w) _ (kV_is ry) hd _) ⟨vs0, dd, hz, fun u hu => ?_, fun hn h' dd' hs => ?_⟩
  · have rr := rel.val k
    rw [hu] at rr
    cases hv : valV kvs k with
    | none => rw [hv] at rr; exact False.elim rr
    | some x =>
      rw [hv] at rr
      exact (⟨x, H, I.tok _, rr, w1 x hv⟩ : EP X pins σ Q u _)
  · have rr := rel.val k
    rw [hn] at rr
    cases hv : valV kvs k with
    | some x => rw [hv] at rr; exact False.elim rr
    | none =>
      have hl2 : (putK kvs k v).length ≤ sizeLine := by have := length_putK kvs k v; omega
      exact (⟨v, _, d_write (t' := s.toks + 1) I (by rw [ea]; exact True.intro) hs (let ⟨q, _, _, hq, _⟩ := dd'; ⟨q, hq⟩) (dk_new hl2 hd (rel.put k rd) dd'), rd, w2 hv⟩ : EP X pins σ Q _ _)
/-- len(d) -/
def cLenD : List V → Hp → VK → Prop := fun xs H Q => ∃ (a : Addr) (kvs : List (Key × V)), xs = [.ref a] ∧ Rd H a (.dK kvs) ∧ Q (.int kvs.length) H
theorem call_lenF {X : Cx} : CallR X (.builtin "len") cLenD := by
  intro pins s σ H xs us Q I r h
  obtain ⟨a, kvs, rfl, hd, q⟩ := h
  obtain ⟨u, rfl, ru⟩ := r.one
  cases ru
  exact d_len I hd fun t s' I' => ⟨.int kvs.length, H, I', ⟨t, rfl⟩, q⟩
theorem un1 {n k : Nat} (h : n + 64 < k) : n + 1 < k := by omega
end UX
set_option Elab.async false
set_option linter.all false
set_option maxRecDepth 100000
set_option maxHeartbeats 4000000
set_option pp.deepTerms true
set_option pp.maxSteps 400000
namespace U
open PySem PySem.Spec PyProof.Rows L2 UL UX
local macro_rules | `(tactic| walk_at "rd") => `(tactic| simp only [sMatch, tJs, tFmt, tBC, tMethA, tMakeL, iEnumS, tSeq, tAsg, tOp, tCB, tCons, tNil, tVar, tC, tB, tTest, tNot, tIfS, tNext, tYes, tUn, rU, tM0, tGFrom, tGThen, tG0, tYfLst, gcxK, tSubO, tProp, tListG, tMethG, tBMF, tFld, sFld, tMeth, tMake, tSl, tNoPart, tPart, tM1, gTup, gCons, gNil, tDrop, tFor_eq, tLc_eq, tLc2_eq, iRng1_eq, StX.tStar, iList, iTup, iStr, iAny_var, iZipB, tLenSetS, wipe, tVar, tAndV, tOrV, tNotV, tOr, tAnd, tLst, tTup, tBM, tBM0, tChain, tCall, cxK, noxK, addII, addSS, mulII, eqII, neII, neSS, cIntI, cAbsI, rI, rI0, rLt, rLe, rGt_, rGe_, rSub_, rMod, rPow, rDivW, rNeg, gName, tRet, L2.start, List.length_cons, List.length_nil, List.map_cons, List.map_nil, List.replicate, List.cons_append, List.nil_append, List.getElem?_cons_zero, List.getElem?_cons_succ, List.set_cons_zero, List.set_cons_succ, Option.some.injEq, exists_eq_left', exists_eq_left, V.int.injEq, V.bl.injEq, V.str.injEq, V.ref.injEq, V.ty.injEq, List.cons.injEq, and_true, true_and, reduceCtorEq, false_and, exists_false, or_false, false_or, exists_and_left, exists_and_right, List.append_nil, forall_eq, decide_eq_true_eq, Bool.not_eq_true, Nat.reduceAdd, Nat.reduceSub, List.replicate_zero, List.replicate_succ, Nat.zero_le, ite_true, ite_false, if_true, if_false])
section
variable {P : Program} {w : World} {K : PySem.W.Frag} {mg : Str → Option Value} {base : Heap}
open UV UW NdefX
variable {IC : Addr}
theorem pmk_0 {X : Cx} {C : Addr} {x : Str} {sp : Sp} {k j : Nat} {p pos : Pos} (d : Xn X.prog X.w X.K X.mg X.base k C x sp) (hr : Room j X.A) (hk : k + 1 ≤ j) (hg : Gl X x) (hdb : (x == ("__debug__" : Str)) = false := by decide) (hex : X.ex = [] := by rfl) : PMk X (.Call (.Name x p) [] [] pos) (tMk0 C sp) := by
  obtain ⟨f, fd, ps, F, h1, h2, B⟩ := d.ex
  exact made0 d.ox h1 h2 F hr hk B hex hg d.gc hdb
local macro_rules | `(tactic| walk_at "rdx") => `(tactic| simp only [tCons, tNil, tJs, tC, tFmt, tFmtN, tVar, tOst, tSeq, NdefX.startF, L2.start, List.length_cons, List.length_nil, List.map_cons, List.map_nil, List.replicate, List.cons_append, List.nil_append, List.getElem?_cons_zero, List.getElem?_cons_succ, Option.some.injEq, exists_eq_left', exists_eq_left, V.str.injEq, V.int.injEq, V.ref.injEq, reduceCtorEq, false_and, exists_false, or_false, false_or, and_true, true_and, exists_and_left, exists_and_right, Nat.reduceAdd, Nat.reduceSub, Nat.reduceLeDiff, ncK])
abbrev s_IC : Stmt := inClass (top 2) 0
theorem sc_IC : NScope ["self", "__class__"] ["self"] ["__class__"] (defScope s_IC) := nscope_by (by decide +kernel)
def sp_IC : Addr → Sp := fun C vs H Q _ => ∃ a : Addr, vs = [.ref a] ∧ H a = some (exo a C none) ∧ Q .non H
theorem x_IC {C : Addr} (D : XD P K mg C "InvalidCells" "InvalidCells.__init__" s_IC) : Xn P w K mg base 1 C "InvalidCells" (sp_IC C) := by
  obtain ⟨f, c, cc, oc, kV, doc, pm, ct, od, an, osl, lk, hcd, F, h1, h2⟩ := D.ex
  refine ⟨⟨f, _, ["self"], fn_sup (N := ["self", "__class__"]) (ps := []) (pl := _) lk hcd sc_IC D.ox F (by decide +kernel) (fun vs H Q E h => ?_) (fun A outer s H vs Q E hr h => ?_), h1, h2, Binds.all fun us hl => match us, hl with | [_], _ => rfl⟩, D.ox, D.gc⟩
  · obtain ⟨a, rfl, _⟩ := h; rfl
  · obtain ⟨a, rfl, ha, q⟩ := h
    refine ⟨a, _, _, rfl, ha, pa_cons pe_str pa_nil, pss_nil, ?_⟩
    walk_at "rdx"
    exact ⟨ha, q⟩
/-- an exception without fields, at a later heap -/
def X0 (C : Addr) (H : Hp) (E : XK) : Prop := ∀ H', Same H H' → E (.ref C) none H'
theorem X0.same {C : Addr} {H H' : Hp} {E : XK} (h : X0 C H E) (s : Same H H') : X0 C H' E := fun H2 s2 => h H2 (Same.tr s s2)
theorem raise0 {H : Hp} {E : XK} {σ : L2.St} (h : X0 IC H E) : tMk0 IC (sp_IC IC) σ H (fun cls d H' => E cls d H') := fun a ha => ⟨a, rfl, upd_same, rfl, upd_same, h _ fun b o e => by
  have n : b ≠ a := ne_of_none e ha
  rw [del_ne n, upd_ne n]; exact e⟩
abbrev s_check_size : Stmt := top 37
abbrev sc_check_size_N : List Str := ["size"]
theorem sc_check_size : FnScope sc_check_size_N ["size"] (defScope s_check_size) := ⟨rfl, rfl, rfl, by decide +kernel, rfl, by decide +kernel, by decide +kernel⟩
-- 0 size
def sp_chksX (IC : Addr) : Sp := fun vs H Q E => ∃ n : Int, vs = [.int n] ∧ (1 ≤ n ∧ n ≤ 3 → Q .non H) ∧ (¬ (1 ≤ n ∧ n ≤ 3) → X0 IC H E)
theorem d_chksX (T : Nm mg) (D : TD K mg "check_size" s_check_size) (x_InvalidCells : Xn P w K mg base 1 IC "InvalidCells" (sp_IC IC)) : Dn P w K mg base (L2.CX P w) 3 "check_size" (sp_chksX IC) := by
  refine D.dx sc_check_size (fun _ _ _ _ _ _ us hl => match us, hl with | [_], _ => rfl) (fun vs H Q E h => ?_) (fun f cdv A outer s H vs Q E hr h => ?_)
  · obtain ⟨n, rfl, _⟩ := h; rfl
  · obtain ⟨n, rfl, q, qx⟩ := h
    refine ⟨_, (pss_one (ps_if (pt_not (pt_chain op_leA op_leA pe_int (pv 0) (C8.pe_gc (by rfl) T.c_MOST_SIZE))) (pss_one (ps_raise rfl (takes_of rfl rfl rfl rfl) (pmk_0 x_InvalidCells hr (by decide) (by rfl)))) pss_nil)), ?_⟩
    walk_at "rd"
    by_cases h1 : 1 ≤ n
    · rw [if_pos h1]
      by_cases h2 : n ≤ 3
      · rw [if_neg (by rw [decide_eq_true h2]; decide)]
        exact q ⟨h1, h2⟩
      · rw [if_pos (by rw [decide_eq_false h2]; rfl)]
        exact raise0 (qx fun z => h2 z.2)
    · rw [if_neg h1, if_pos (by decide)]
      exact raise0 (qx fun z => h1 z.1)
def nmsB (xs : List Str) : Bool := decide (1 ≤ xs.length) && decide (xs.length ≤ 3) && xs.all nmB && decide ((met xs).length = xs.length)
abbrev s_check_names : Stmt := top 36
abbrev sc_check_names_N : List Str := ["names", ".0", "name"]
theorem sc_check_names : FnScope sc_check_names_N ["names"] (defScope s_check_names) := ⟨rfl, rfl, rfl, by decide +kernel, rfl, by decide +kernel, by decide +kernel⟩
-- 0 names, 1 .0, 2 name
def sp_chknX (K : PySem.W.Frag) (IC : Addr) : Sp := fun vs H Q E => ∃ a xs, vs = [.ref a] ∧ SqA K H a (xs.map V.str) ∧ xs.length ≤ 60 ∧ (∀ z ∈ xs, z.length ≤ 1000) ∧ (nmsB xs = true → ∀ H', Same H H' → Q .non H') ∧ (nmsB xs = false → X0 IC H E)
theorem d_chknX (T : Nm mg) (D : TD K mg "check_names" s_check_names) (d_is_name : Dn P w K mg base CX0 1 "is_name" sp_isnm) (x_InvalidCells : Xn P w K mg base 1 IC "InvalidCells" (sp_IC IC)) : Dn P w K mg base (L2.CX P w) 3 "check_names" (sp_chknX K IC) := by
  refine D.dx sc_check_names (fun _ _ _ _ _ _ us hl => match us, hl with | [_], _ => rfl) (fun vs H Q E h => ?_) (fun f cdv A outer s H vs Q E hr h => ?_)
  · obtain ⟨a, xs, rfl, _⟩ := h; rfl
  · obtain ⟨a, xs, rfl, ha, h6, hz, q, qx⟩ := h
    refine ⟨_, (pss_cons (ps_if (pt_not (pt_chain op_leA op_leA pe_int (pe_callB call_lenA (by rfl) T.n_len (by decide +kernel) (pa_cons (pv 0) pa_nil)) (C8.pe_gc (by rfl) T.c_MOST_CELLS))) (pss_one (ps_raise rfl (takes_of rfl rfl rfl rfl) (pmk_0 x_InvalidCells hr (by decide) (by rfl)))) pss_nil)
      (pss_cons (ps_if (pt_not (pt_val (pe_callB (cr_all rfl) (by rfl) T.n_all (by decide +kernel) (pa_cons (pe_lc (own := [(".0", 1), ("name", 2)]) (g := (gName 2)) (tt := tYes) rfl sc_check_names.nd (pi_any (pv 0)) (blkOk_by (N := sc_check_names_N) (sc := defScope s_check_names) (by decide +kernel)) (fun _ _ _ _ _ => pg_name (i := 2) sc_check_names.nd rfl (Or.inl rfl)) (fun _ _ _ _ _ => pts_nil) (fun _ _ _ _ _ => (pe_d d_is_name hr (by decide) pass0 (by rfl) (pa_cons (pv 2) pa_nil)))) pa_nil)))) (pss_one (ps_raise rfl (takes_of rfl rfl rfl rfl) (pmk_0 x_InvalidCells hr (by decide) (by rfl)))) pss_nil)
      (pss_one (ps_if (pt_cmpR op_ltA (pe_lenSetS rfl (by rfl) T.n_len (by rfl) T.n_set (pv 0)) (pe_callB call_lenA (by rfl) T.n_len (by decide +kernel) (pa_cons (pv 0) pa_nil)) (nomark _)) (pss_one (ps_raise rfl (takes_of rfl rfl rfl rfl) (pmk_0 x_InvalidCells hr (by decide) (by rfl)))) pss_nil)))), ?_⟩
    walk_at "rd"
    obtain ⟨k, ha⟩ := ha
    refine Kd.len ha ⟨_, rfl, ?_⟩
    rw [List.length_map]
    by_cases c1 : ¬ 1 ≤ xs.length
    · rw [if_neg (by omega), if_pos (by decide)]
      exact raise0 (qx (by unfold nmsB; rw [decide_eq_false c1]; rfl))
    have c1 := Decidable.not_not.mp c1
    rw [if_pos (by omega)]
    refine ⟨_, rfl, ?_⟩
    by_cases c2 : ¬ xs.length ≤ 3
    · rw [if_pos (by rw [decide_eq_false (by omega)]; rfl)]
      exact raise0 (qx (by unfold nmsB; rw [decide_eq_false c2, Bool.and_false, Bool.false_and, Bool.false_and]))
    have c2 := Decidable.not_not.mp c2
    rw [if_neg (by rw [decide_eq_true (by omega)]; decide)]
    refine ⟨k, ⟨_, ha⟩, fun D hD => LJ.it (walk_any (xs := xs.map V.str) k) (fun i H2 => H2 D = some (.lst (((xs.take i).map nmB).map V.bl)) ∧ Same H H2) ⟨upd_same, UL.Same.new hD⟩ (fun i H2 _ inv => Kd.same inv.2 ha) (fun i x H2 H3 hi inv yy => ?_) fun H2 inv => ?_⟩
    · obtain ⟨hD2, s2⟩ := inv
      obtain ⟨rfl, hx⟩ := yy
      refine ⟨rfl, ?_⟩
      walk_at "rd"
      rw [List.length_map] at hi
      have ex : x = V.str xs[i] := by rw [List.getElem?_map, List.getElem?_eq_getElem hi] at hx; exact (Option.some.inj hx).symm
      subst ex
      have et : xs.take (i + 1) = xs.take i ++ [xs[i]] := by rw [List.take_add_one, List.getElem?_eq_getElem hi]; rfl
      exact ⟨_, rfl, hz _ (List.getElem_mem hi), fun H4 s4 => ⟨_, s4 _ _ hD2, by simp [sizeLine_eq]; omega, by rw [upd_same, et, List.map_append, List.map_append]; rfl, UL.Same.put (Same.tr s2 s4) hD⟩⟩
    · obtain ⟨hD2, s2⟩ := inv
      rw [List.length_map, List.take_length] at hD2
      refine ⟨D, _, rfl, .inl (.inl hD2), _, rfl, ?_⟩
      have e3 : (xs.map nmB).all id = xs.all nmB := by rw [List.all_map]; rfl
      rw [e3]
      cases c3 : xs.all nmB with
      | false =>
        rw [if_pos (by decide)]
        exact raise0 ((qx (by unfold nmsB; rw [c3, Bool.and_false, Bool.false_and])).same s2)
      | true =>
      rw [if_neg (by decide)]
      refine ⟨xs, Kd.or (Kd.same s2 ha), by omega, Kd.len (Kd.same s2 ha) ⟨_, rfl, ?_⟩⟩
      rw [List.length_map]
      have ml := met_len xs
      by_cases c4 : (met xs).length = xs.length
      · rw [if_neg (by omega)]
        exact q (by unfold nmsB; rw [decide_eq_true c1, decide_eq_true c2, c3, decide_eq_true c4]; rfl) _ s2
      · rw [if_pos (by omega)]
        exact raise0 ((qx (by unfold nmsB; rw [decide_eq_false c4, Bool.and_false])).same s2)
end
end U
set_option Elab.async false
set_option linter.all false
set_option maxRecDepth 100000
set_option maxHeartbeats 4000000
set_option pp.deepTerms true
set_option pp.maxSteps 400000
namespace U
open PySem PySem.Spec PyProof.Rows L2 UL UX
local macro_rules | `(tactic| walk_at "rd") => `(tactic| simp only [sMatch, tJs, tFmt, tBC, tMethA, tMakeL, iEnumS, tSeq, tAsg, tOp, tCB, tCons, tNil, tVar, tC, tB, tTest, tNot, tIfS, tNext, tYes, tUn, rU, tM0, tGFrom, tGThen, tG0, tYfLst, gcxK, tSubO, tProp, tListG, tMethG, tBMF, tFld, sFld, tMeth, tMake, tSl, tNoPart, tPart, tM1, gTup, gCons, gNil, tDrop, tFor_eq, tLc_eq, tLc2_eq, iRng1_eq, StX.tStar, iList, iTup, iStr, iAny_var, iZipB, tLenSetS, wipe, tVar, tAndV, tOrV, tNotV, tOr, tAnd, tLst, tTup, tBM, tBM0, tChain, tCall, cxK, noxK, addII, addSS, mulII, eqII, neII, neSS, cIntI, cAbsI, rI, rI0, rLt, rLe, rGt_, rGe_, rSub_, rMod, rPow, rDivW, rNeg, gName, tRet, L2.start, List.length_cons, List.length_nil, List.map_cons, List.map_nil, List.replicate, List.cons_append, List.nil_append, List.getElem?_cons_zero, List.getElem?_cons_succ, List.set_cons_zero, List.set_cons_succ, Option.some.injEq, exists_eq_left', exists_eq_left, V.int.injEq, V.bl.injEq, V.str.injEq, V.ref.injEq, V.ty.injEq, List.cons.injEq, and_true, true_and, reduceCtorEq, false_and, exists_false, or_false, false_or, exists_and_left, exists_and_right, List.append_nil, forall_eq, decide_eq_true_eq, Bool.not_eq_true, Nat.reduceAdd, Nat.reduceSub, List.replicate_zero, List.replicate_succ, Nat.zero_le, ite_true, ite_false, if_true, if_false])
section
variable {P : Program} {w : World} {K : PySem.W.Frag} {mg : Str → Option Value} {base : Heap}
open UV UW NdefX ClX
variable {R Wr B Pg Sy IC UC IS UP : Addr}
local macro_rules | `(tactic| walk_at "rdx") => `(tactic| simp only [tCons, tNil, tJs, tC, tFmt, tFmtN, tVar, tOst, tSeq, NdefX.startF, L2.start, List.length_cons, List.length_nil, List.map_cons, List.map_nil, List.replicate, List.cons_append, List.nil_append, List.getElem?_cons_zero, List.getElem?_cons_succ, Option.some.injEq, exists_eq_left', exists_eq_left, V.str.injEq, V.int.injEq, V.ref.injEq, reduceCtorEq, false_and, exists_false, or_false, false_or, and_true, true_and, exists_and_left, exists_and_right, Nat.reduceAdd, Nat.reduceSub, Nat.reduceLeDiff, ncK])
abbrev s_IS : Stmt := inClass (top 7) 0
theorem sc_IS : NScope ["self", "name", "__class__"] ["self", "name"] ["__class__"] (defScope s_IS) := nscope_by (by decide +kernel)
def sp_IS : Addr → Sp := fun C vs H Q _ => ∃ (a : Addr) (x0 : Str), vs = [.ref a, .str x0] ∧ H a = some (exo a C none) ∧ PySem.W.findIn K (.ref C) "name" = some none ∧ x0.length ≤ 1000 ∧ x0.length ≤ 1000 ∧ ∀ d, H d = none → d ≠ a → Q .non (upd (upd H d (exd d [(("name" : Str), V.str x0)])) a (exo a C (some d)))
theorem x_IS {C : Addr} (D : XD P K mg C "InvalidSystem" "InvalidSystem.__init__" s_IS) : Xn P w K mg base 1 C "InvalidSystem" (sp_IS (K := K) C) := by
  obtain ⟨f, c, cc, oc, kV, doc, pm, ct, od, an, osl, lk, hcd, F, h1, h2⟩ := D.ex
  refine ⟨⟨f, _, ["self", "name"], fn_sup (N := ["self", "name", "__class__"]) (ps := ["name"]) (pl := _) lk hcd sc_IS D.ox F (by decide +kernel) (fun vs H Q E h => ?_) (fun A outer s H vs Q E hr h => ?_), h1, h2, Binds.all fun us hl => match us, hl with | [_, _], _ => rfl⟩, D.ox, D.gc⟩
  · obtain ⟨a, x0, rfl, _⟩ := h; rfl
  · obtain ⟨a, x0, rfl, ha, hf0, hc0, hd0, q⟩ := h
    refine ⟨a, _, _, rfl, ha, pa_cons (pe_joined (.cons (pe_fmt (pv 1)) (.cons pe_str .nil))) pa_nil, (pss_one (ps_ost (pv 0) (pv 1))), ?_⟩
    walk_at "rdx"
    have ll0 : (Str.ofString " does not fit into the system").length ≤ 200 := by decide +kernel
    have l0 : Str.empty.length = 0 := rfl
    repeat (first | refine ⟨by (simp only [len_app, l0, sizeLine_eq]; omega), ?_⟩)
    exact ⟨ha, C, D.ox, hf0, .inl ⟨ha, fun d hd hda => q d hd hda⟩⟩
abbrev s_UC : Stmt := inClass (top 3) 0
theorem sc_UC : NScope ["self", "cell", "__class__"] ["self", "cell"] ["__class__"] (defScope s_UC) := nscope_by (by decide +kernel)
def sp_UC : Addr → Sp := fun C vs H Q _ => ∃ (a : Addr) (x0 : Str), vs = [.ref a, .str x0] ∧ H a = some (exo a C none) ∧ PySem.W.findIn K (.ref C) "cell" = some none ∧ x0.length ≤ 1000 ∧ x0.length ≤ 1000 ∧ ∀ d, H d = none → d ≠ a → Q .non (upd (upd H d (exd d [(("cell" : Str), V.str x0)])) a (exo a C (some d)))
theorem x_UC {C : Addr} (D : XD P K mg C "UnknownCell" "UnknownCell.__init__" s_UC) : Xn P w K mg base 1 C "UnknownCell" (sp_UC (K := K) C) := by
  obtain ⟨f, c, cc, oc, kV, doc, pm, ct, od, an, osl, lk, hcd, F, h1, h2⟩ := D.ex
  refine ⟨⟨f, _, ["self", "cell"], fn_sup (N := ["self", "cell", "__class__"]) (ps := ["cell"]) (pl := _) lk hcd sc_UC D.ox F (by decide +kernel) (fun vs H Q E h => ?_) (fun A outer s H vs Q E hr h => ?_), h1, h2, Binds.all fun us hl => match us, hl with | [_, _], _ => rfl⟩, D.ox, D.gc⟩
  · obtain ⟨a, x0, rfl, _⟩ := h; rfl
  · obtain ⟨a, x0, rfl, ha, hf0, hc0, hd0, q⟩ := h
    refine ⟨a, _, _, rfl, ha, pa_cons (pe_joined (.cons pe_str (.cons (pe_fmt (pv 1)) .nil))) pa_nil, (pss_one (ps_ost (pv 0) (pv 1))), ?_⟩
    walk_at "rdx"
    have ll0 : (Str.ofString "there is no cell ").length ≤ 200 := by decide +kernel
    have l0 : Str.empty.length = 0 := rfl
    repeat (first | refine ⟨by (simp only [len_app, l0, sizeLine_eq]; omega), ?_⟩)
    exact ⟨ha, C, D.ox, hf0, .inl ⟨ha, fun d hd hda => q d hd hda⟩⟩
abbrev s_UP : Stmt := inClass (top 8) 0
theorem sc_UP : NScope ["self", "name", "__class__"] ["self", "name"] ["__class__"] (defScope s_UP) := nscope_by (by decide +kernel)
def sp_UP : Addr → Sp := fun C vs H Q _ => ∃ (a : Addr) (x0 : Str), vs = [.ref a, .str x0] ∧ H a = some (exo a C none) ∧ PySem.W.findIn K (.ref C) "name" = some none ∧ x0.length ≤ 1000 ∧ x0.length ≤ 1000 ∧ ∀ d, H d = none → d ≠ a → Q .non (upd (upd H d (exd d [(("name" : Str), V.str x0)])) a (exo a C (some d)))
theorem x_UP {C : Addr} (D : XD P K mg C "UnknownProgram" "UnknownProgram.__init__" s_UP) : Xn P w K mg base 1 C "UnknownProgram" (sp_UP (K := K) C) := by
  obtain ⟨f, c, cc, oc, kV, doc, pm, ct, od, an, osl, lk, hcd, F, h1, h2⟩ := D.ex
  refine ⟨⟨f, _, ["self", "name"], fn_sup (N := ["self", "name", "__class__"]) (ps := ["name"]) (pl := _) lk hcd sc_UP D.ox F (by decide +kernel) (fun vs H Q E h => ?_) (fun A outer s H vs Q E hr h => ?_), h1, h2, Binds.all fun us hl => match us, hl with | [_, _], _ => rfl⟩, D.ox, D.gc⟩
  · obtain ⟨a, x0, rfl, _⟩ := h; rfl
  · obtain ⟨a, x0, rfl, ha, hf0, hc0, hd0, q⟩ := h
    refine ⟨a, _, _, rfl, ha, pa_cons (pe_joined (.cons pe_str (.cons (pe_fmt (pv 1)) .nil))) pa_nil, (pss_one (ps_ost (pv 0) (pv 1))), ?_⟩
    walk_at "rdx"
    have ll0 : (Str.ofString "there is no program ").length ≤ 200 := by decide +kernel
    have l0 : Str.empty.length = 0 := rfl
    repeat (first | refine ⟨by (simp only [len_app, l0, sizeLine_eq]; omega), ?_⟩)
    exact ⟨ha, C, D.ox, hf0, .inl ⟨ha, fun d hd hda => q d hd hda⟩⟩
/-- a list or a tuple of the heap -/
def SqW (H : Hp) (a : Addr) (xs : List V) : Prop := Rd H a (.lst xs) ∨ Rd H a (.tup xs)
theorem SqW.sqA {H : Hp} {a : Addr} {xs : List V} (h : SqW H a xs) : SqA K H a xs := h.elim (fun h => ⟨.l, .inl h⟩) fun h => ⟨.t, .inl h⟩
theorem rd_same {H H' : Hp} {a : Addr} {o : HO} (h : Rd H a o) (s : Same H H') : Rd H' a o := h.elim (fun e => .inl (s _ _ e)) fun ⟨ob, e⟩ => .inr ⟨ob, s _ _ e⟩
theorem SqW.same {H H' : Hp} {a : Addr} {xs : List V} (h : SqW H a xs) (s : Same H H') : SqW H' a xs := h.elim (fun h => .inl (rd_same h s)) fun h => .inr (rd_same h s)
theorem SqW.off {H H' : Hp} {a : Addr} {xs : List V} (h : SqW H a xs) (f : ∀ o, H a = some o → H' a = some o) : SqW H' a xs := by
  rcases h with (h | ⟨o, h⟩) | (h | ⟨o, h⟩)
  · exact .inl (.inl (f _ h))
  · exact .inl (.inr ⟨o, f _ h⟩)
  · exact .inr (.inl (f _ h))
  · exact .inr (.inr ⟨o, f _ h⟩)
theorem SqW.some {H : Hp} {a : Addr} {xs : List V} (h : SqW H a xs) : ∃ o, H a = some o ∧ (∀ C d fs, o ≠ .ins C d fs) ∧ ∀ kvs, o ≠ .dK kvs := by
  rcases h with (h | ⟨o, h⟩) | (h | ⟨o, h⟩) <;> exact ⟨_, h, fun _ _ _ z => (nomatch z), fun _ z => nomatch z⟩
theorem Kd.off (k : Kd) {H H' : Hp} {a : Addr} {xs : List V} (h : k.Sq K H a xs) (f : ∀ o, H a = some o → H' a = some o) : k.Sq K H' a xs := by
  cases k with
  | l =>
    rcases h with (h | ⟨o, h⟩) | h
    · exact .inl (.inl (f _ h))
    · exact .inl (.inr ⟨o, f _ h⟩)
    · exact .inr h
  | t =>
    rcases h with (h | ⟨o, h⟩) | h
    · exact .inl (.inl (f _ h))
    · exact .inl (.inr ⟨o, f _ h⟩)
    · exact .inr h
/-- an exception with one field, at a later heap -/
def X1 (C : Addr) (f : Str) (v : V) (H : Hp) (E : XK) : Prop := ∀ d H', Same H H' → H' d = some (.xd [(f, v)]) → E (.ref C) (some d) H'
theorem X1.same {C : Addr} {f : Str} {v : V} {H H' : Hp} {E : XK} (h : X1 C f v H E) (s : Same H H') : X1 C f v H' E := fun d H2 s2 e => h d H2 (Same.tr s s2) e
theorem raiseIS {z : Str} {H : Hp} {E : XK} {σ : L2.St} {ta : TA} (x : PySem.W.findIn K (.ref IS) "name" = some none) (hz : z.length ≤ 1000) (hta : ∀ R : List V → Hp → Prop, R [.str z] H → ta σ H R) (h : X1 IS "name" (.str z) H E) : tMkO IS (sp_IS (K := K) IS) [] ta σ H (fun cls d H' => E cls d H') := by
  refine hta _ ⟨by show 1 ≤ 1000; decide, fun e1 he1 => ?_⟩
  refine ⟨e1, z, rfl, upd_same, x, hz, hz, fun d1 hd1 hde1 => ⟨rfl, d1, _, upd_same, by rw [upd_ne hde1, upd_same], by rw [upd_ne hde1] at hd1; exact hd1, ?_⟩⟩
  rw [exg1 he1]
  rw [upd_ne hde1] at hd1
  exact h d1 _ (UL.Same.new hd1) upd_same
theorem raiseUC {z : Str} {H : Hp} {E : XK} {σ : L2.St} {ta : TA} (x : PySem.W.findIn K (.ref UC) "cell" = some none) (hz : z.length ≤ 1000) (hta : ∀ R : List V → Hp → Prop, R [.str z] H → ta σ H R) (h : X1 UC "cell" (.str z) H E) : tMkO UC (sp_UC (K := K) UC) [] ta σ H (fun cls d H' => E cls d H') := by
  refine hta _ ⟨by show 1 ≤ 1000; decide, fun e1 he1 => ?_⟩
  refine ⟨e1, z, rfl, upd_same, x, hz, hz, fun d1 hd1 hde1 => ⟨rfl, d1, _, upd_same, by rw [upd_ne hde1, upd_same], by rw [upd_ne hde1] at hd1; exact hd1, ?_⟩⟩
  rw [exg1 he1]
  rw [upd_ne hde1] at hd1
  exact h d1 _ (UL.Same.new hd1) upd_same
theorem raiseUP {z : Str} {H : Hp} {E : XK} {σ : L2.St} {ta : TA} (x : PySem.W.findIn K (.ref UP) "name" = some none) (hz : z.length ≤ 1000) (hta : ∀ R : List V → Hp → Prop, R [.str z] H → ta σ H R) (h : X1 UP "name" (.str z) H E) : tMkO UP (sp_UP (K := K) UP) [] ta σ H (fun cls d H' => E cls d H') := by
  refine hta _ ⟨by show 1 ≤ 1000; decide, fun e1 he1 => ?_⟩
  refine ⟨e1, z, rfl, upd_same, x, hz, hz, fun d1 hd1 hde1 => ⟨rfl, d1, _, upd_same, by rw [upd_ne hde1, upd_same], by rw [upd_ne hde1] at hd1; exact hd1, ?_⟩⟩
  rw [exg1 he1]
  rw [upd_ne hde1] at hd1
  exact h d1 _ (UL.Same.new hd1) upd_same
end
end U
set_option Elab.async false
set_option linter.all false
set_option maxRecDepth 100000
set_option maxHeartbeats 4000000
/-! all but some addresses -/
namespace UX
open PySem PySem.Spec PyProof.Rows L2 UL UV UW ClX
def SmS (S : List Addr) (H H' : Hp) : Prop := ∀ c o, H c = some o → c ∉ S → H' c = some o
theorem SmS.same {S : List Addr} {H H' : Hp} (s : ∀ b u, H b = some u → H' b = some u) : SmS S H H' := fun c o e _ => s c o e
theorem SmS.tr {S : List Addr} {H H1 H2 : Hp} (a : SmS S H H1) (b : SmS S H1 H2) : SmS S H H2 := fun c o e n => b c o (a c o e n) n
theorem SmS.at_ {S : List Addr} {p : Addr} {H : Hp} {o : HO} (h : p ∈ S) : SmS S H (upd H p o) := fun c u e n => by rw [upd_ne fun z => n (by rw [z]; exact h)]; exact e
theorem SmS.refl {S : List Addr} {H : Hp} : SmS S H H := fun c o e _ => e
end UX
set_option Elab.async false
set_option linter.all false
set_option maxRecDepth 100000
set_option maxHeartbeats 4000000
set_option pp.deepTerms true
set_option pp.maxSteps 400000
namespace U
open PySem PySem.Spec PyProof.Rows L2 UL UX
local macro_rules | `(tactic| walk_at "rd") => `(tactic| simp only [sMatch, tJs, tFmt, tBC, tMethA, tMakeL, iEnumS, tSeq, tAsg, tOp, tCB, tCons, tNil, tVar, tC, tB, tTest, tNot, tIfS, tNext, tYes, tUn, rU, tM0, tGFrom, tGThen, tG0, tYfLst, gcxK, tSubO, tProp, tListG, tMethG, tBMF, tFld, sFld, tMeth, tMake, tSl, tNoPart, tPart, tM1, gTup, gCons, gNil, tDrop, tFor_eq, tLc_eq, tLc2_eq, iRng1_eq, StX.tStar, iList, iTup, iStr, iAny_var, iZipB, tLenSetS, wipe, tVar, tAndV, tOrV, tNotV, tOr, tAnd, tLst, tTup, tBM, tBM0, tChain, tCall, cxK, noxK, addII, addSS, mulII, eqII, neII, neSS, cIntI, cAbsI, rI, rI0, rLt, rLe, rGt_, rGe_, rSub_, rMod, rPow, rDivW, rNeg, gName, tRet, L2.start, List.length_cons, List.length_nil, List.map_cons, List.map_nil, List.replicate, List.cons_append, List.nil_append, List.getElem?_cons_zero, List.getElem?_cons_succ, List.set_cons_zero, List.set_cons_succ, Option.some.injEq, exists_eq_left', exists_eq_left, V.int.injEq, V.bl.injEq, V.str.injEq, V.ref.injEq, V.ty.injEq, List.cons.injEq, and_true, true_and, reduceCtorEq, false_and, exists_false, or_false, false_or, exists_and_left, exists_and_right, List.append_nil, forall_eq, decide_eq_true_eq, Bool.not_eq_true, Nat.reduceAdd, Nat.reduceSub, List.replicate_zero, List.replicate_succ, Nat.zero_le, ite_true, ite_false, if_true, if_false])
section
variable {P : Program} {w : World} {K : PySem.W.Frag} {mg : Str → Option Value} {base : Heap}
open UV UW NdefX ClX
variable {R Wr B Pg Sy IC UC IS UP : Addr}
local macro_rules | `(tactic| walk_at "rq") => `(tactic| (simp only [tDGet, tDIn, tDNotIn, sDPut, LiI.tListItems, tTest, tB]; walk_at "rd"))
structure SyX (K : PySem.W.Frag) (mg : Str → Option Value) (R Wr B Pg Sy IS UC UP : Addr) : Prop extends PT K mg R Wr B Pg where
  cls : Cls K Sy
  s_cells : NoAttr K Sy "cells"
  s_programs : NoAttr K Sy "_programs"
  s_arities : NoAttr K Sy "_arities"
  s_names : NoAttr K Sy "names"
  c_MOST_PROGRAMS : ∃ u, mg "MOST_PROGRAMS" = some u ∧ RelV (.int 4) u
  naIS : PySem.W.findIn K (.ref IS) "name" = some none
  naUC : PySem.W.findIn K (.ref UC) "cell" = some none
  naUP : PySem.W.findIn K (.ref UP) "name" = some none
inductive Er where
  | cell (c : Str)
  | sys (n : Str)
/-- the exception of a system that is refused, at a heap that is the same but at S -/
def XE (IS UC : Addr) (S : List Addr) (H : Hp) (E : XK) : Er → Prop
  | .cell c => ∀ d H', SmS S H H' → H' d = some (.xd [("cell", .str c)]) → E (.ref UC) (some d) H'
  | .sys n => ∀ d H', SmS S H H' → H' d = some (.xd [("name", .str n)]) → E (.ref IS) (some d) H'
theorem XE.sm {S : List Addr} {H H' : Hp} {E : XK} {e : Er} (h : XE IS UC S H E e) (s : SmS S H H') : XE IS UC S H' E e := match e, h with
  | .cell _, h => fun d H2 s2 x => h d H2 (SmS.tr s s2) x
  | .sys _, h => fun d H2 s2 x => h d H2 (SmS.tr s s2) x
theorem XE.x1s {S : List Addr} {H : Hp} {E : XK} {n : Str} (h : XE IS UC S H E (.sys n)) : X1 IS "name" (.str n) H E := fun d H' s e => h d H' (SmS.same s) e
theorem XE.x1c {S : List Addr} {H : Hp} {E : XK} {n : Str} (h : XE IS UC S H E (.cell n)) : X1 UC "cell" (.str n) H E := fun d H' s e => h d H' (SmS.same s) e
def valA {α : Type} (xs : List (Str × α)) (f : Str) : Option α := (xs.find? fun q => decide (q.1 = f)).map (·.2)
def pk (ps : List (Str × Addr)) : List (Key × V) := ps.map fun q => (Sum.inr q.1, V.ref q.2)
def ak (as : List (Str × Nat)) : List (Key × V) := as.map fun q => (Sum.inr q.1, V.int q.2)
def takeF (as : List (Str × Nat)) (f : Str) (n : Nat) : Except Er (List (Str × Nat)) := match valA as f with
  | none => .ok (as ++ [(f, n)])
  | some m => if m = n then .ok as else .error (.sys f)
theorem valV_ak (as : List (Str × Nat)) (f : Str) : valV (ak as) (Sum.inr f) = (valA as f).map fun n => V.int (n : Nat) := by
  induction as with
  | nil => rfl
  | cons q r ih =>
    by_cases e : q.1 = f
    · show valV ((Sum.inr q.1, V.int q.2) :: ak r) (Sum.inr f) = _
      rw [valV_pos (show (Sum.inr q.1 : Key) = Sum.inr f by rw [e])]
      simp [valA, List.find?_cons, e]
    · show valV ((Sum.inr q.1, V.int q.2) :: ak r) (Sum.inr f) = _
      rw [valV_neg (show ¬ (Sum.inr q.1 : Key) = Sum.inr f from fun h => e (Sum.inr.inj h)), ih]
      simp [valA, List.find?_cons, e]
theorem valV_pk (as : List (Str × Addr)) (f : Str) : valV (pk as) (Sum.inr f) = (valA as f).map fun n => V.ref n := by
  induction as with
  | nil => rfl
  | cons q r ih =>
    by_cases e : q.1 = f
    · show valV ((Sum.inr q.1, V.ref q.2) :: pk r) (Sum.inr f) = _
      rw [valV_pos (show (Sum.inr q.1 : Key) = Sum.inr f by rw [e])]
      simp [valA, List.find?_cons, e]
    · show valV ((Sum.inr q.1, V.ref q.2) :: pk r) (Sum.inr f) = _
      rw [valV_neg (show ¬ (Sum.inr q.1 : Key) = Sum.inr f from fun h => e (Sum.inr.inj h)), ih]
      simp [valA, List.find?_cons, e]
theorem putK_new {α : Type} [DecidableEq α] {kvs : List (α × V)} {k : α} {v : V} (h : valV kvs k = none) : putK kvs k v = kvs ++ [(k, v)] := by
  unfold putK
  rw [if_neg (by rw [valV_any, h]; decide)]
abbrev sysM : List Str := ["_take_program", "_take_step", "_take_function", "program_named", "functions", "known", "check_programs"]
/-- the parts of a system that its methods read and write -/
structure Yo (H : Hp) (Sy y : Addr) (cs : List Str) (pd ad : Addr) (ps : List (Str × Addr)) (as : List (Str × Nat)) : Prop where
  ex : ∃ (dy c : Addr) (fs : List (Str × V)), H y = some (.ins Sy dy fs) ∧ fs.lookup ("cells" : Str) = some (.ref c) ∧ Rd H c (.tup (cs.map V.str)) ∧ fs.lookup ("_programs" : Str) = some (.ref pd) ∧ fs.lookup ("_arities" : Str) = some (.ref ad) ∧ ∀ m ∈ sysM, fs.lookup m = none
  hp : H pd = some (.dK (pk ps))
  ha : H ad = some (.dK (ak as))
  ne : pd ≠ ad
theorem Yo.same {H H' : Hp} {y : Addr} {cs : List Str} {pd ad : Addr} {ps : List (Str × Addr)} {as : List (Str × Nat)} (h : Yo H Sy y cs pd ad ps as) (s : Same H H') : Yo H' Sy y cs pd ad ps as := by
  obtain ⟨⟨dy, c, fs, h1, h2, h3, h4, h5, h9⟩, h6, h7, h8⟩ := h
  exact ⟨⟨dy, c, fs, s _ _ h1, h2, rd_same h3 s, h4, h5, h9⟩, s _ _ h6, s _ _ h7, h8⟩
theorem Yo.put {H : Hp} {y : Addr} {cs : List Str} {pd ad : Addr} {ps : List (Str × Addr)} {as as' : List (Str × Nat)} (h : Yo H Sy y cs pd ad ps as) : Yo (upd H ad (.dK (ak as'))) Sy y cs pd ad ps as' := by
  obtain ⟨⟨dy, c, fs, h1, h2, h3, h4, h5, h9⟩, h6, h7, h8⟩ := h
  refine ⟨⟨dy, c, fs, by rw [upd_ne fun e => by rw [e, h7] at h1; cases h1]; exact h1, h2, ?_, h4, h5, h9⟩, by rw [upd_ne h8]; exact h6, upd_same, h8⟩
  rcases h3 with e | ⟨o, e⟩
  · exact .inl (by rw [upd_ne fun z => by rw [z, h7] at e; cases e]; exact e)
  · exact .inr ⟨o, by rw [upd_ne fun z => by rw [z, h7] at e; cases e]; exact e⟩
abbrev s_System__take_function : Stmt := inClass (top 47) 3
abbrev sc_System__take_function_N : List Str := ["self", "function", "number"]
theorem sc_System__take_function : FnScope sc_System__take_function_N ["self", "function", "number"] (defScope s_System__take_function) := ⟨rfl, rfl, rfl, by decide +kernel, rfl, by decide +kernel, by decide +kernel⟩
-- 0 self, 1 function, 2 number
def sp_takeF (Sy IS UC : Addr) : Sp := fun vs H Q E => ∃ (y pd ad : Addr) (f : Str) (n : Nat) (cs : List Str) (ps : List (Str × Addr)) (as : List (Str × Nat)), vs = [.ref y, .str f, .int n] ∧ Yo H Sy y cs pd ad ps as ∧ f.length ≤ 1000 ∧ as.length ≤ 100 ∧
  (∀ as' H', takeF as f n = .ok as' → Yo H' Sy y cs pd ad ps as' → SmS [ad] H H' → Q .non H') ∧ (∀ e, takeF as f n = .error e → XE IS UC [pd, ad] H E e)
theorem m_takeF (T : SyX K mg R Wr B Pg Sy IS UC UP) (D : MD K Sy "_take_function" "System._take_function" s_System__take_function) (x_InvalidSystem : Xn P w K mg base 1 IS "InvalidSystem" (sp_IS (K := K) IS)) : Mn P w K mg base (L2.CX P w) 3 Sy "_take_function" (sp_takeF Sy IS UC) := by
  refine D.mx sc_System__take_function (fun _ _ _ _ _ _ us hl => match us, hl with | [_, _, _], _ => rfl) (fun vs H Q E h => ?_) (fun f cdv A outer s H vs Q E hr h => ?_)
  · obtain ⟨y, pd, ad, f, n, cs, ps, as, rfl, _⟩ := h; rfl
  · obtain ⟨y, pd, ad, f, n, cs, ps, as, rfl, hy, hf, hn, q, qx⟩ := h
    refine ⟨_, (pss_one (ps_if (pt_cmpR (op_neA (hr.units)) (pe_bm PySem.F.plainAttrs_dict PySem.F.slot_dict_setdefault PySem.F.type_dict_setdefault mt_setd (pe_fld (pv 0) (by rfl)) (pa_cons (pv 1) (pa_cons (pv 2) pa_nil))) (pv 2) (nomark _)) (pss_one (ps_raise rfl (takes_of rfl rfl rfl rfl) (pmk_x x_InvalidSystem hr (by decide) (by rfl) (pa_cons (pv 1) pa_nil)))) pss_nil)), ?_⟩
    walk_at "rd"
    obtain ⟨⟨dy, c, fs, h1, h2, h3, h4, h5, h9⟩, h6, h7, h8⟩ := id hy
    have la : (ak as).length = as.length := List.length_map _
    refine ⟨Sy, dy, fs, h1, T.cls, T.s_arities, .ref ad, h5, .inr (.inr (.inl ⟨rfl, .inl ⟨_, h7⟩⟩)), ad, ak as, Sum.inr f, .int n, rfl, rfl, h7, by rw [la, sizeLine_eq]; omega, fun u hu => ?_, fun hn0 => ?_⟩
    · rw [valV_ak] at hu
      cases hv : valA as f with
      | none => rw [hv] at hu; cases hu
      | some m =>
        rw [hv] at hu
        cases hu
        refine neII.mpr ⟨_, rfl, ?_⟩
        by_cases e : m = n
        · rw [if_neg (by simp [e])]
          exact q as H (by unfold takeF; rw [hv]; exact if_pos e) hy SmS.refl
        · rw [if_pos (by simp; omega)]
          exact raiseIS T.naIS hf (fun R r => ⟨_, rfl, r⟩) (XE.x1s (qx (.sys f) (by unfold takeF; rw [hv]; exact if_neg e)))
    · have hv : valA as f = none := by
        rw [valV_ak] at hn0
        cases hv : valA as f with
        | none => rfl
        | some m => rw [hv] at hn0; cases hn0
      refine neII.mpr ⟨_, rfl, ?_⟩
      rw [if_neg (by simp), putK_new hn0]
      have e : ak as ++ [(Sum.inr f, V.int (n : Nat))] = ak (as ++ [(f, n)]) := by unfold ak; rw [List.map_append]; rfl
      rw [e]
      exact q _ _ (by unfold takeF; rw [hv]) hy.put (SmS.at_ List.mem_cons_self)
/-- the function that a step applies, and its arguments -/
def Sk.fn : Sk → Option (Str × List Str)
  | .rd .. => none
  | .wr _ f xs | .rw _ _ _ f xs => some (f, xs)
def takeS (cs : List Str) (as : List (Str × Nat)) (k : Sk) : Except Er (List (Str × Nat)) := match (k.src ++ k.tgt).find? fun c => decide (c ∉ cs) with
  | some c => .error (.cell c)
  | none => match k.fn with
    | none => .ok as
    | some (f, xs) => takeF as f xs.length
theorem flatS (xs : List Str) : (xs.map V.str).all flatV = true := by
  rw [List.all_eq_true]; intro x hx; obtain ⟨z, _, rfl⟩ := List.mem_map.mp hx; rfl
theorem small_io {k : Sk} (h : k.small) : ∀ c ∈ k.src ++ k.tgt, c.length ≤ 1000 := by
  cases k with
  | rd s l => intro c hc; simp only [Sk.src, Sk.tgt, List.append_nil, List.mem_singleton] at hc; rw [hc]; exact h.1
  | wr t f xs => intro c hc; simp only [Sk.src, Sk.tgt, List.nil_append, List.mem_singleton] at hc; rw [hc]; exact h.1
  | rw s l t f xs =>
    intro c hc
    simp only [Sk.src, Sk.tgt, List.mem_append, List.mem_singleton] at hc
    rcases hc with rfl | rfl
    · exact h.1.1
    · exact h.2.1
theorem io_len (k : Sk) : k.src.length ≤ 1 ∧ k.tgt.length ≤ 1 := by cases k <;> exact ⟨by simp [Sk.src], by simp [Sk.tgt]⟩
theorem find_at {l : List Str} {p : Str → Bool} {i : Nat} {c : Str} (h : l[i]? = some c) (hp : p c = true) (hb : ∀ d ∈ l.take i, p d = false) : l.find? p = some c := by
  have hi : i < l.length := (List.getElem?_eq_some_iff.mp h).1
  have e : l = l.take i ++ c :: l.drop (i + 1) := by
    have e2 : l.drop i = c :: l.drop (i + 1) := by
      rw [List.drop_eq_getElem_cons hi]
      rw [List.getElem?_eq_getElem hi] at h
      rw [Option.some.inj h]
    rw [← e2, List.take_append_drop]
  rw [e, List.find?_append, List.find?_eq_none.mpr (fun d hd => by simp [hb d hd])]
  simp [List.find?_cons, hp]
abbrev s_System__take_step : Stmt := inClass (top 47) 2
abbrev sc_System__take_step_N : List Str := ["self", "step", "cell"]
theorem sc_System__take_step : FnScope sc_System__take_step_N ["self", "step"] (defScope s_System__take_step) := ⟨rfl, rfl, rfl, by decide +kernel, rfl, by decide +kernel, by decide +kernel⟩
-- 0 self, 1 step, 2 cell
def sp_takeS (R Wr B Sy IS UC : Addr) : Sp := fun vs H Q E => ∃ (y pd ad t : Addr) (k : Sk) (cs : List Str) (ps : List (Str × Addr)) (as : List (Str × Nat)), vs = [.ref y, .ref t] ∧ Yo H Sy y cs pd ad ps as ∧ StA H R Wr B t k ∧ k.small ∧ cs.length ≤ 100 ∧ as.length ≤ 100 ∧
  (∀ as' H', takeS cs as k = .ok as' → Yo H' Sy y cs pd ad ps as' → SmS [pd, ad] H H' → Q .non H') ∧ (∀ e, takeS cs as k = .error e → XE IS UC [pd, ad] H E e)
theorem m_takeS (ap : Ap R Wr B) (T : SyX K mg R Wr B Pg Sy IS UC UP) (D : MD K Sy "_take_step" "System._take_step" s_System__take_step) (x_UnknownCell : Xn P w K mg base 1 UC "UnknownCell" (sp_UC (K := K) UC)) (A_reads : ∀ C s, Fam R Wr B (sp_reads R Wr B) C s → Mn P w K mg base CX0 1 C "reads" s ∧ Cls K C) (A_writes : ∀ C s, Fam R Wr B (sp_writes R Wr B) C s → Mn P w K mg base CX0 1 C "writes" s ∧ Cls K C)
    (m__take_function : Mn P w K mg base (L2.CX P w) 3 Sy "_take_function" (sp_takeF Sy IS UC)) : Mn P w K mg base (L2.CX P w) 5 Sy "_take_step" (sp_takeS R Wr B Sy IS UC) := by
  refine D.mx sc_System__take_step (fun _ _ _ _ _ _ us hl => match us, hl with | [_, _], _ => rfl) (fun vs H Q E h => ?_) (fun f cdv A outer s H vs Q E hr h => ?_)
  · obtain ⟨y, pd, ad, t, k, cs, ps, as, rfl, _⟩ := h; rfl
  · obtain ⟨y, pd, ad, t, k, cs, ps, as, rfl, hy, ht, hk, hc, hn, q, qx⟩ := h
    refine ⟨_, (pss_cons (ps_for (passes_of rfl) rfl (pi_tup (pe_op op_addA (pe_mA (i := 1) A_reads hr (by decide) (pv 1)) (pe_mA (i := 1) A_writes hr (by decide) (pv 1)))) (pg_name (i := 2) sc_System__take_step.nd rfl (Or.inl rfl)) (pss_one (ps_if (pt_cmpR op_ninA (pv 2) (pe_fld (pv 0) (by rfl)) (by with_unfolding_all rfl)) (pss_one (ps_raise rfl (takes_of rfl rfl rfl rfl) (pmk_x x_UnknownCell hr (by decide) (by rfl) (pa_cons (pv 2) pa_nil)))) pss_nil)))
      (pss_one (ps_if (pt_val (pe_callB call_isi (by rfl) T.n_isinstance (by decide +kernel) (pa_cons (pv 1) (pa_cons (C8.pe_gc (by rfl) T.c_Write) pa_nil)))) (pss_one (ps_expr (pe_m m__take_function T.cls hr (by decide) (passes_call (takes_of rfl rfl rfl rfl) (fun _ _ _ _ h => h)) (pv 0) (pa_cons (pe_fld (pv 1) (by rfl)) (pa_cons (pe_callB call_lenA (by rfl) T.n_len (by decide +kernel) (pa_cons (pe_fld (pv 1) (by rfl)) pa_nil)) pa_nil))))) pss_nil))), ?_⟩
    walk_at "rd"
    obtain ⟨⟨dy, cc, fs, h1, h2, h3, h4, h5, h9⟩, h6, h7, h8⟩ := id hy
    obtain ⟨dx1, fs1, e1, lk1, lk2, lk3⟩ := StA.ins ht
    obtain ⟨il, ol⟩ := io_len k
    refine ⟨k.cls R Wr B, _, ⟨Sk.cls3 k, rfl⟩, dx1, fs1, e1, lk2, t, k, rfl, rfl, ht, fun r1 H1 hr1 s1 => ⟨k.cls R Wr B, _, ⟨Sk.cls3 k, rfl⟩, dx1, fs1, s1 _ _ e1, lk3, t, k, rfl, rfl, StA.same s1 ht, fun r2 H2 hr2 s2 => ?_⟩⟩
    have hr1 := s2 _ _ hr1
    have s12 : Same H H2 := Same.tr s1 s2
    have fin : ∀ (σ : L2.St) (H3 : Hp) (z : Option V), Same H H3 → (k.src ++ k.tgt).find? (fun c => decide (c ∉ cs)) = none → (tIfS (tB (tCB (rIsi K) (tCons (tVar 1) (tCons (tC (V.ref Wr)) tNil)))) (tDrop (tMeth Sy (Str.ofString "_take_function") (sp_takeF Sy IS UC) [] E (tVar 0) (tCons (tFld K (tVar 1) (Str.ofString "function")) (tCons (tCB (cLen K) (tCons (tFld K (tVar 1) (Str.ofString "arguments")) tNil)) tNil)))) tNext) { nx := fun x H' => Q V.non H', rt := Q } [some (V.ref y), some (V.ref t), z] H3 := fun σ H3 z s3 hf => by
      have hy3 := hy.same s3
      obtain ⟨⟨dy, cc, fs, h1, h2, h3, h4, h5, h9⟩, h6, h7, h8⟩ := id hy3
      walk_at "rd"
      cases k with
      | rd a l =>
        obtain ⟨dx, e⟩ := StA.same s3 ht
        refine ⟨_, _, _, _, _, rfl, .own Wr, T.iR.ty T.cR e, T.kRW, ⟨false, rfl, ?_⟩⟩
        rw [if_neg (by decide)]
        exact q as H3 (by unfold takeS; rw [hf]; rfl) hy3 (SmS.same s3)
      | wr t0 f0 xs =>
        obtain ⟨dx, p, e, ft⟩ := StA.same s3 ht
        refine ⟨_, _, _, _, _, rfl, .own Wr, T.iW.ty T.cW e, T.kWW, ⟨true, rfl, ?_⟩⟩
        rw [if_pos rfl]
        refine ⟨dy, fs, h1, h9 _ (by decide +kernel), Wr, dx, _, e, T.cW, T.aW_function, .str f0, rfl, Wr, dx, _, e, T.cW, T.aW_arguments, .ref p, rfl, lenT (FT.sq ft) ⟨y, pd, ad, f0, xs.length, cs, ps, as, by rw [List.length_map], hy3, hk.2.1, hn, fun as' H' ht' hy' s' => q as' H' (by unfold takeS; rw [hf]; exact ht') hy' (SmS.tr (SmS.same s3) fun c o e n => s' c o e fun z => n (by rw [List.mem_singleton.mp z]; simp)), fun er he => (qx er (by unfold takeS; rw [hf]; exact he)).sm (SmS.same s3)⟩⟩
      | rw a l t0 f0 xs =>
        obtain ⟨dx, p, e, ft⟩ := StA.same s3 ht
        refine ⟨_, _, _, _, _, rfl, .own Wr, T.iB.ty T.cB e, T.kBW, ⟨true, rfl, ?_⟩⟩
        rw [if_pos rfl]
        refine ⟨dy, fs, h1, h9 _ (by decide +kernel), B, dx, _, e, T.cB, T.aB_function, .str f0, rfl, B, dx, _, e, T.cB, T.aB_arguments, .ref p, rfl, lenT (FT.sq ft) ⟨y, pd, ad, f0, xs.length, cs, ps, as, by rw [List.length_map], hy3, hk.2.2.1, hn, fun as' H' ht' hy' s' => q as' H' (by unfold takeS; rw [hf]; exact ht') hy' (SmS.tr (SmS.same s3) fun c o e n => s' c o e fun z => n (by rw [List.mem_singleton.mp z]; simp)), fun er he => (qx er (by unfold takeS; rw [hf]; exact he)).sm (SmS.same s3)⟩⟩
    have lop : ∀ (a : Addr) (H3 : Hp), SqT K H3 a ((k.src ++ k.tgt).map V.str) → Same H H3 → ∃ a', V.ref a = V.ref a' ∧ (∃ xs, SqT K H3 a' xs) ∧ FJ (Itt K a') (gName 2) (tIfS (tTest (tOp (rNInA K) (tVar 2) (tFld K (tVar 0) (Str.ofString "cells")))) (fun x σ H => tMkO UC (sp_UC (K := K) UC) [] (tCons (tVar 2) tNil) σ H fun cls d H' => E cls d H') tNext) { nx := tIfS (tB (tCB (rIsi K) (tCons (tVar 1) (tCons (tC (V.ref Wr)) tNil)))) (tDrop (tMeth Sy (Str.ofString "_take_function") (sp_takeF Sy IS UC) [] E (tVar 0) (tCons (tFld K (tVar 1) (Str.ofString "function")) (tCons (tCB (cLen K) (tCons (tFld K (tVar 1) (Str.ofString "arguments")) tNil)) tNil)))) tNext { nx := fun x H' => Q V.non H', rt := Q }, rt := Q } [some (V.ref y), some (V.ref t), none] H3 := fun a H3 ha s3 => by
      refine ⟨a, rfl, ⟨_, ha⟩, FJ.tup (fun i σ' H' => (∃ z, σ' = [some (.ref y), some (.ref t), z]) ∧ H' = H3 ∧ ∀ d ∈ (k.src ++ k.tgt).take i, d ∈ cs) ⟨⟨_, rfl⟩, rfl, fun d hd => absurd hd (by simp)⟩ (fun i σ' H' _ inv => by rw [inv.2.1]; exact ha) (fun i x σ' H' hx inv => ?_) fun σ' H' inv => ?_⟩
      · obtain ⟨⟨z, rfl⟩, rfl, hin⟩ := inv
        walk_at "rd"
        rw [List.getElem?_map] at hx
        cases hc0 : (k.src ++ k.tgt)[i]? with
        | none => rw [hc0] at hx; cases hx
        | some c0 =>
          rw [hc0] at hx
          cases hx
          have hm : c0 ∈ k.src ++ k.tgt := List.mem_of_getElem? hc0
          obtain ⟨⟨dy, cc, fs, h1, h2, h3, h4, h5, h9⟩, h6, h7, h8⟩ := hy.same s3
          refine ⟨Sy, dy, fs, h1, T.cls, T.s_cells, .ref cc, h2, .inr ⟨cc, cs.map V.str, rfl, .inr (.inl h3), rfl, flatS cs, ?_⟩⟩
          rw [if_pos rfl, inV_str]
          refine ⟨_, rfl, ?_⟩
          by_cases e : c0 ∈ cs
          · rw [if_neg (by simp [e])]
            refine ⟨⟨_, rfl⟩, rfl, fun d hd => ?_⟩
            rw [List.take_add_one, hc0] at hd
            rcases List.mem_append.mp hd with h | h
            · exact hin d h
            · rw [show d = c0 by simpa using h]; exact e
          · rw [if_pos (by simp [e])]
            refine raiseUC T.naUC (small_io hk _ hm) (fun R r => ⟨_, rfl, r⟩) (XE.x1c ((qx (.cell c0) ?_).sm (SmS.same s3)))
            unfold takeS
            rw [find_at hc0 (by simp [e]) (fun d hd => by simp [hin d hd])]
      · obtain ⟨⟨z, rfl⟩, rfl, hin⟩ := inv
        rw [List.length_map, List.take_length] at hin
        exact fin [] _ z s3 (List.find?_eq_none.mpr fun d hd => by simp [hin d hd])
    refine .inr (.inr (.inl ⟨r1, r2, k.src.map V.str, k.tgt.map V.str, rfl, rfl, .inl (.inl hr1), .inl (.inl hr2), by rw [List.length_map, List.length_map, sizeLine_eq]; omega, fun e => ?_, fun e e2 => ?_, fun e e2 p hp => ?_⟩))
    · exact lop r2 H2 (by rw [List.map_append, e]; exact .inl (.inl hr2)) s12
    · exact lop r1 H2 (by rw [List.map_append, e2, List.append_nil]; exact .inl (.inl hr1)) s12
    · exact lop p _ (by rw [List.map_append]; exact .inl (.inl upd_same)) (Same.tr s12 (UL.Same.new hp))
def takeSs (cs : List Str) : List (Str × Nat) → List Sk → Except Er (List (Str × Nat))
  | as, [] => .ok as
  | as, k :: r => match takeS cs as k with
    | .error e => .error e
    | .ok as' => takeSs cs as' r
theorem takeSs_app (cs : List Str) : ∀ (xs ys : List Sk) (as : List (Str × Nat)), takeSs cs as (xs ++ ys) = match takeSs cs as xs with
    | .error e => .error e
    | .ok as' => takeSs cs as' ys
  | [], _, _ => rfl
  | k :: r, ys, as => by
    show (match takeS cs as k with | .error e => Except.error e | .ok as' => takeSs cs as' (r ++ ys)) = match (match takeS cs as k with | .error e => Except.error e | .ok as' => takeSs cs as' r) with | .error e => Except.error e | .ok as' => takeSs cs as' ys
    cases takeS cs as k with
    | error e => rfl
    | ok a => exact takeSs_app cs r ys a
theorem takeF_len {as as' : List (Str × Nat)} {f : Str} {n : Nat} (h : takeF as f n = .ok as') : as'.length ≤ as.length + 1 := by
  unfold takeF at h
  cases hv : valA as f with
  | none => rw [hv] at h; cases h; rw [List.length_append]; exact Nat.le_refl _
  | some m =>
    rw [hv] at h
    by_cases e : m = n
    · simp only [if_pos e] at h; cases h; omega
    · simp only [if_neg e] at h; cases h
theorem takeS_len {cs : List Str} {as as' : List (Str × Nat)} {k : Sk} (h : takeS cs as k = .ok as') : as'.length ≤ as.length + 1 := by
  unfold takeS at h
  cases hf : (k.src ++ k.tgt).find? fun c => decide (c ∉ cs) with
  | some c => rw [hf] at h; cases h
  | none =>
    rw [hf] at h
    cases hk : k.fn with
    | none => rw [hk] at h; cases h; omega
    | some q => rw [hk] at h; exact takeF_len h
/-- the program at a -/
def PgA (H : Hp) (R Wr B Pg a : Addr) (n : Str) (ks : List Sk) : Prop := ∃ (dx p : Addr) (ts : List Addr), H a = some (.ins Pg dx (fsP n p)) ∧ FT H p (ts.map V.ref) ∧ Paired (fun t k => StA H R Wr B t k) ts ks
theorem StA.sms {S : List Addr} {H H' : Hp} {a : Addr} {k : Sk} (h : StA H R Wr B a k) (s : SmS S H H') (hs : ∀ c ∈ S, ∃ kvs, H c = some (.dK kvs)) : StA H' R Wr B a k := by
  have off : ∀ c o, H c = some o → (∀ kvs, o ≠ .dK kvs) → H' c = some o := fun c o e n => s c o e fun z => by
    obtain ⟨kvs, e2⟩ := hs c z
    rw [e] at e2
    exact n kvs (Option.some.inj e2)
  cases k with
  | rd s l => obtain ⟨dx, e⟩ := h; exact ⟨dx, off _ _ e (fun _ z => nomatch z)⟩
  | wr t f xs => obtain ⟨dx, p, e, o, e2, d⟩ := h; exact ⟨dx, p, off _ _ e (fun _ z => nomatch z), o, off _ _ e2 (fun _ z => nomatch z), d⟩
  | rw s l t f xs => obtain ⟨dx, p, e, o, e2, d⟩ := h; exact ⟨dx, p, off _ _ e (fun _ z => nomatch z), o, off _ _ e2 (fun _ z => nomatch z), d⟩
theorem PgA.sms {S : List Addr} {H H' : Hp} {a : Addr} {n : Str} {ks : List Sk} (h : PgA H R Wr B Pg a n ks) (s : SmS S H H') (hs : ∀ c ∈ S, ∃ kvs, H c = some (.dK kvs)) : PgA H' R Wr B Pg a n ks := by
  have off : ∀ c o, H c = some o → (∀ kvs, o ≠ .dK kvs) → H' c = some o := fun c o e n => s c o e fun z => by
    obtain ⟨kvs, e2⟩ := hs c z
    rw [e] at e2
    exact n kvs (Option.some.inj e2)
  obtain ⟨dx, p, ts, e, ⟨o, e2, d⟩, pr⟩ := h
  exact ⟨dx, p, ts, off _ _ e (fun _ z => nomatch z), ⟨o, off _ _ e2 (fun _ z => nomatch z), d⟩, L2.Paired.mapP pr fun _ _ g => StA.sms g s hs⟩
def takeP (cs : List Str) (ps : List (Str × Addr)) (as : List (Str × Nat)) (n : Str) (ks : List Sk) : Except Er (List (Str × Nat)) := if ps.length = 4 ∨ (valA ps n).isSome = true then .error (.sys n) else takeSs cs as ks
theorem Yo.dks {H : Hp} {y : Addr} {cs : List Str} {pd ad : Addr} {ps : List (Str × Addr)} {as : List (Str × Nat)} (h : Yo H Sy y cs pd ad ps as) : ∀ c ∈ [pd, ad], ∃ kvs, H c = some (.dK kvs) := fun c hc => by
  simp only [List.mem_cons, List.not_mem_nil, or_false] at hc
  rcases hc with rfl | rfl
  · exact ⟨_, h.hp⟩
  · exact ⟨_, h.ha⟩
theorem Yo.putp {H : Hp} {y : Addr} {cs : List Str} {pd ad : Addr} {ps ps' : List (Str × Addr)} {as : List (Str × Nat)} (h : Yo H Sy y cs pd ad ps as) : Yo (upd H pd (.dK (pk ps'))) Sy y cs pd ad ps' as := by
  obtain ⟨⟨dy, c, fs, h1, h2, h3, h4, h5, h9⟩, h6, h7, h8⟩ := h
  refine ⟨⟨dy, c, fs, by rw [upd_ne fun e => by rw [e, h6] at h1; cases h1]; exact h1, h2, ?_, h4, h5, h9⟩, upd_same, by rw [upd_ne (Ne.symm h8)]; exact h7, h8⟩
  rcases h3 with e | ⟨o, e⟩
  · exact .inl (by rw [upd_ne fun z => by rw [z, h6] at e; cases e]; exact e)
  · exact .inr ⟨o, by rw [upd_ne fun z => by rw [z, h6] at e; cases e]; exact e⟩
theorem paired_len {α β : Type} {F : α → β → Prop} : ∀ {l : List α} {m : List β}, Paired F l m → l.length = m.length
  | [], [], _ => rfl
  | _ :: _, _ :: _, .cons _ r => congrArg (· + 1) (paired_len r)
abbrev s_System__take_program : Stmt := inClass (top 47) 1
abbrev sc_System__take_program_N : List Str := ["self", "program", "step"]
theorem sc_System__take_program : FnScope sc_System__take_program_N ["self", "program"] (defScope s_System__take_program) := ⟨rfl, rfl, rfl, by decide +kernel, rfl, by decide +kernel, by decide +kernel⟩
-- 0 self, 1 program, 2 step
def sp_takeP (R Wr B Pg Sy IS UC : Addr) : Sp := fun vs H Q E => ∃ (y pd ad a : Addr) (n : Str) (ks : List Sk) (cs : List Str) (ps : List (Str × Addr)) (as : List (Str × Nat)), vs = [.ref y, .ref a] ∧ Yo H Sy y cs pd ad ps as ∧ PgA H R Wr B Pg a n ks ∧ (∀ k ∈ ks, k.small) ∧ ks.length ≤ 8 ∧ n.length ≤ 1000 ∧ cs.length ≤ 100 ∧ as.length ≤ 64 ∧ ps.length ≤ 4 ∧
  (∀ as' H', takeP cs ps as n ks = .ok as' → Yo H' Sy y cs pd ad (ps ++ [(n, a)]) as' → as'.length ≤ as.length + ks.length → SmS [pd, ad] H H' → Q .non H') ∧ (∀ e, takeP cs ps as n ks = .error e → XE IS UC [pd, ad] H E e)
theorem m_takeP (T : SyX K mg R Wr B Pg Sy IS UC UP) (D : MD K Sy "_take_program" "System._take_program" s_System__take_program) (x_InvalidSystem : Xn P w K mg base 1 IS "InvalidSystem" (sp_IS (K := K) IS)) (m__take_step : Mn P w K mg base (L2.CX P w) 5 Sy "_take_step" (sp_takeS R Wr B Sy IS UC)) :
    Mn P w K mg base (L2.CX P w) 7 Sy "_take_program" (sp_takeP R Wr B Pg Sy IS UC) := by
  refine D.mx sc_System__take_program (fun _ _ _ _ _ _ us hl => match us, hl with | [_, _], _ => rfl) (fun vs H Q E h => ?_) (fun f cdv A outer s H vs Q E hr h => ?_)
  · obtain ⟨y, pd, ad, a, n, ks, cs, ps, as, rfl, _⟩ := h; rfl
  · obtain ⟨y, pd, ad, a, n, ks, cs, ps, as, rfl, hy, hg, hk, hkl, hn, hc, hal, hpl, q, qx⟩ := h
    refine ⟨_, (pss_cons (ps_if (pw_or (pt_cmpR (op_eqA (hr.units)) (pe_callB call_lenF (by rfl) T.n_len (by decide +kernel) (pa_cons (pe_fld (pv 0) (by rfl)) pa_nil)) (C8.pe_gc (by rfl) T.c_MOST_PROGRAMS) (nomark _)) (pw_or1 (pt_cmp (pc_din (un1 hr.units) (pe_fld (pv 1) (by rfl)) (pe_fld (pv 0) (by rfl))) (by with_unfolding_all rfl)))).pt (pss_one (ps_raise rfl (takes_of rfl rfl rfl rfl) (pmk_x x_InvalidSystem hr (by decide) (by rfl) (pa_cons (pe_fld (pv 1) (by rfl)) pa_nil)))) pss_nil)
      (pss_cons (ps_for (passes_of rfl) rfl (pi_tup (pe_fld (pv 1) (by rfl))) (pg_name (i := 2) sc_System__take_program.nd rfl (Or.inl rfl)) (pss_one (ps_expr (pe_m m__take_step T.cls hr (by decide) (passes_call (takes_of rfl rfl rfl rfl) (fun _ _ _ _ h => h)) (pv 0) (pa_cons (pv 2) pa_nil)))))
      (pss_one (ps_dput (un1 hr.units) (pe_fld (pv 0) (by rfl)) (pe_fld (pv 1) (by rfl)) (pv 1) rfl)))), ?_⟩
    walk_at "rd"
    obtain ⟨⟨dy, cc, fs, h1, h2, h3, h4, h5, h9⟩, h6, h7, h8⟩ := id hy
    obtain ⟨dx, p, ts, e1, ft, pr⟩ := id hg
    have lp : (pk ps).length = ps.length := List.length_map _
    have rais : takeP cs ps as n ks = .error (.sys n) → tMkO IS (sp_IS (K := K) IS) [] (tCons (tFld K (tVar 1) (Str.ofString "name")) tNil) [some (V.ref y), some (V.ref a), none] H fun cls d H' => E cls d H' := fun e => raiseIS T.naIS hn (fun R r => by
      walk_at "rd"
      exact ⟨Pg, dx, _, e1, T.cP, T.aP_name, .str n, rfl, r⟩) (XE.x1s (qx _ e))
    refine ⟨Sy, dy, fs, h1, T.cls, T.s_programs, .ref pd, h4, pd, pk ps, rfl, .inl h6, eqII.mpr ⟨_, rfl, ?_⟩⟩
    rw [lp]
    by_cases c1 : ps.length = 4
    · rw [if_pos (by simp [c1])]
      exact rais (by unfold takeP; rw [if_pos (.inl c1)])
    rw [if_neg (by simp; omega)]
    unfold tDIn
    walk_at "rd"
    refine ⟨Pg, dx, _, e1, T.cP, T.aP_name, .str n, rfl, Sy, dy, fs, h1, T.cls, T.s_programs, .ref pd, h4, pd, rfl, _, DGet.k (k := Sum.inr n) h6, ?_⟩
    rw [valV_pk]
    cases hv : valA ps n with
    | some m =>
      rw [if_pos (by simp)]
      exact rais (by unfold takeP; rw [if_pos (.inr (by rw [hv]; rfl))])
    | none =>
      rw [if_neg (by simp)]
      have tk : takeP cs ps as n ks = takeSs cs as ks := by unfold takeP; rw [if_neg (by rw [hv]; simp [c1])]
      obtain ⟨ob, ep, eo⟩ := id ft
      have pn : p ∉ [pd, ad] := fun z => by
        obtain ⟨kvs, e⟩ := hy.dks p z
        rw [ep] at e; cases e
      have lt : ts.length = ks.length := paired_len pr
      refine ⟨Pg, dx, _, e1, T.cP, T.aP_steps, .ref p, rfl, p, rfl, ⟨_, FT.sq ft⟩, FJ.tup (fun i σ' H' => (∃ z, σ' = [some (.ref y), some (.ref a), z]) ∧ SmS [pd, ad] H H' ∧ ∃ asi, takeSs cs as (ks.take i) = .ok asi ∧ Yo H' Sy y cs pd ad ps asi ∧ asi.length ≤ as.length + i) ⟨⟨_, rfl⟩, SmS.refl, as, rfl, hy, by omega⟩ (fun i σ' H' _ inv => FT.sq ⟨ob, inv.2.1 _ _ ep pn, eo⟩) (fun i x σ' H' hx inv => ?_) fun σ' H' inv => ?_⟩
      · obtain ⟨⟨z, rfl⟩, s, asi, hasi, hyi, hli⟩ := inv
        rw [List.getElem?_map] at hx
        cases ht : ts[i]? with
        | none => rw [ht] at hx; cases hx
        | some t =>
          rw [ht] at hx
          cases hx
          obtain ⟨k, hki, gk⟩ := pr_at pr ht
          have hil : i < ks.length := (List.getElem?_eq_some_iff.mp hki).1
          walk_at "rd"
          obtain ⟨⟨dy', cc', fs', g1, g2, g3, g4, g5, g9⟩, g6, g7, g8⟩ := id hyi
          refine ⟨dy', fs', g1, g9 _ (by decide +kernel), y, pd, ad, t, k, cs, ps, asi, rfl, hyi, gk.sms s hy.dks, hk k (List.mem_of_getElem? hki), hc, by omega, fun as' H'' ht' hy'' s'' => ⟨⟨_, rfl⟩, SmS.tr s s'', as', ?_, hy'', ?_⟩, fun e he => XE.sm (qx e ?_) s⟩
          · rw [List.take_add_one, hki, takeSs_app, hasi]
            show takeSs cs asi [k] = _
            show (match takeS cs asi k with | .error e => Except.error e | .ok as' => takeSs cs as' []) = _
            rw [ht']
            rfl
          · have := takeS_len ht'; omega
          · rw [tk]
            have e2 : ks = ks.take i ++ k :: ks.drop (i + 1) := by
              have e3 : ks.drop i = k :: ks.drop (i + 1) := by
                rw [List.drop_eq_getElem_cons hil]
                rw [List.getElem?_eq_getElem hil] at hki
                rw [Option.some.inj hki]
              rw [← e3, List.take_append_drop]
            rw [e2, takeSs_app, hasi]
            show (match takeS cs asi k with | .error e => Except.error e | .ok as' => takeSs cs as' (ks.drop (i + 1))) = _
            rw [he]
      · obtain ⟨⟨z, rfl⟩, s, asi, hasi, hyi, hli⟩ := inv
        rw [List.length_map, lt] at hasi hli
        rw [List.take_length] at hasi
        unfold sDPut
        walk_at "rd"
        obtain ⟨⟨dy', cc', fs', g1, g2, g3, g4, g5, g9⟩, g6, g7, g8⟩ := id hyi
        have an : a ∉ [pd, ad] := fun z => by
          obtain ⟨kvs, e⟩ := hy.dks a z
          rw [e1] at e; cases e
        refine ⟨Sy, dy', fs', g1, T.cls, T.s_programs, .ref pd, g4, Pg, dx, _, s _ _ e1 an, T.cP, T.aP_name, .str n, rfl, pd, rfl, _, DPut.k (k := Sum.inr n) (v := .ref a) g6 (by rw [lp, sizeLine_eq]; omega), ?_⟩
        rw [putK_new (by rw [valV_pk, hv]; rfl)]
        have e : pk ps ++ [(Sum.inr n, V.ref a)] = pk (ps ++ [(n, a)]) := by unfold pk; rw [List.map_append]; rfl
        rw [e]
        exact q asi _ (by rw [tk]; exact hasi) hyi.putp hli (SmS.tr s (SmS.at_ List.mem_cons_self))
/-! ### the system -/
abbrev QsT := List (Addr × Str × List Sk)
def takePs (cs : List Str) : List (Str × Addr) → List (Str × Nat) → QsT → Except Er (List (Str × Addr) × List (Str × Nat))
  | ps, as, [] => .ok (ps, as)
  | ps, as, q :: r => match takeP cs ps as q.2.1 q.2.2 with
    | .error e => .error e
    | .ok as' => takePs cs (ps ++ [(q.2.1, q.1)]) as' r
theorem takePs_app (cs : List Str) : ∀ (xs ys : QsT) (ps : List (Str × Addr)) (as : List (Str × Nat)), takePs cs ps as (xs ++ ys) = match takePs cs ps as xs with
    | .error e => .error e
    | .ok (ps', as') => takePs cs ps' as' ys
  | [], _, _, _ => rfl
  | q :: r, ys, ps, as => by
    show (match takeP cs ps as q.2.1 q.2.2 with | .error e => Except.error e | .ok as' => takePs cs (ps ++ [(q.2.1, q.1)]) as' (r ++ ys)) = match (match takeP cs ps as q.2.1 q.2.2 with | .error e => Except.error e | .ok as' => takePs cs (ps ++ [(q.2.1, q.1)]) as' r) with | .error e => Except.error e | .ok (ps', as') => takePs cs ps' as' ys
    cases takeP cs ps as q.2.1 q.2.2 with
    | error e => rfl
    | ok a => exact takePs_app cs r ys _ a
theorem takeP_lt {cs : List Str} {ps : List (Str × Addr)} {as as' : List (Str × Nat)} {n : Str} {ks : List Sk} (h : takeP cs ps as n ks = .ok as') (hp : ps.length ≤ 4) : ps.length < 4 := by
  unfold takeP at h
  by_cases c : ps.length = 4 ∨ (valA ps n).isSome = true
  · rw [if_pos c] at h; cases h
  · have : ps.length ≠ 4 := fun e => c (.inl e)
    omega
theorem StA.keep {H H' : Hp} {a : Addr} {k : Sk} (h : StA H R Wr B a k) (off : ∀ c o, H c = some o → (∀ C d, o ≠ .ins C d []) → H' c = some o) : StA H' R Wr B a k := by
  cases k with
  | rd s l => obtain ⟨dx, e⟩ := h; exact ⟨dx, off _ _ e (fun _ _ z => by injection z with _ _ h; cases h)⟩
  | wr t f xs => obtain ⟨dx, p, e, o, e2, d⟩ := h; exact ⟨dx, p, off _ _ e (fun _ _ z => by injection z with _ _ h; cases h), o, off _ _ e2 (fun _ _ z => nomatch z), d⟩
  | rw s l t f xs => obtain ⟨dx, p, e, o, e2, d⟩ := h; exact ⟨dx, p, off _ _ e (fun _ _ z => by injection z with _ _ h; cases h), o, off _ _ e2 (fun _ _ z => nomatch z), d⟩
theorem PgA.keep {H H' : Hp} {a : Addr} {n : Str} {ks : List Sk} (h : PgA H R Wr B Pg a n ks) (off : ∀ c o, H c = some o → (∀ C d, o ≠ .ins C d []) → H' c = some o) : PgA H' R Wr B Pg a n ks := by
  obtain ⟨dx, p, ts, e, ⟨o, e2, d⟩, pr⟩ := h
  exact ⟨dx, p, ts, off _ _ e (fun _ _ z => by injection z with _ _ h; cases h), ⟨o, off _ _ e2 (fun _ _ z => nomatch z), d⟩, L2.Paired.mapP pr fun _ _ g => StA.keep g off⟩
theorem rd_insS {H : Hp} {x b C dx : Addr} {f0 : List (Str × V)} {o : HO} {ys : List V} (hx : H x = some (.ins C dx f0)) (h : Rd H b (.tup ys)) : Rd (upd H x o) b (.tup ys) := by
  rcases h with e | ⟨ob, e⟩
  · exact .inl (by rw [upd_ne (fun q => by rw [q, hx] at e; cases e)]; exact e)
  · exact .inr ⟨ob, by rw [upd_ne (fun q => by rw [q, hx] at e; cases e)]; exact e⟩
theorem sy1 : ("cells" : Str) ≠ "_programs" := by decide +kernel
theorem sy2 : ("cells" : Str) ≠ "_arities" := by decide +kernel
theorem sy3 : ("_programs" : Str) ≠ "_arities" := by decide +kernel
theorem sy4 : ("cells" : Str) ≠ "names" := by decide +kernel
theorem sy5 : ("_programs" : Str) ≠ "names" := by decide +kernel
theorem sy6 : ("_arities" : Str) ≠ "names" := by decide +kernel
theorem XE.off {S S2 : List Addr} {H H2 : Hp} {E : XK} {e : Er} (h : XE IS UC S H E e) (s : ∀ H3, SmS S2 H2 H3 → SmS S H H3) : XE IS UC S2 H2 E e := match e, h with
  | .cell _, h => fun d H3 s3 z => h d H3 (s H3 s3) z
  | .sys _, h => fun d H3 s3 z => h d H3 (s H3 s3) z
abbrev s_System___init__ : Stmt := inClass (top 47) 0
abbrev sc_System___init___N : List Str := ["self", "cells", "programs", "program"]
theorem sc_System___init__ : FnScope sc_System___init___N ["self", "cells", "programs"] (defScope s_System___init__) := ⟨rfl, rfl, rfl, by decide +kernel, rfl, by decide +kernel, by decide +kernel⟩
-- 0 self, 1 cells, 2 programs, 3 program
def fsS (c p a n : Addr) : List (Str × V) := [("cells", .ref c), ("_programs", .ref p), ("_arities", .ref a), ("names", .ref n)]
def fsS3 (c p a : Addr) : List (Str × V) := [("cells", .ref c), ("_programs", .ref p), ("_arities", .ref a)]
theorem fs3_no {c p a : Addr} : ∀ m ∈ sysM, (fsS3 c p a).lookup m = none := fun m hm => by
  simp only [sysM, List.mem_cons, List.not_mem_nil, or_false] at hm
  rcases hm with rfl | rfl | rfl | rfl | rfl | rfl | rfl <;> rfl
def sp_sinit (K : PySem.W.Frag) (R Wr B Pg Sy IC IS UC : Addr) : Sp := fun vs H Q E => ∃ (x n b dx : Addr) (cs : List Str) (qs : QsT), vs = [.ref x, .ref n, .ref b] ∧ H x = some (.ins Sy dx []) ∧ SqW H n (cs.map V.str) ∧ SqW H b (qs.map fun q => V.ref q.1) ∧ cs.length ≤ 60 ∧ (∀ z ∈ cs, z.length ≤ 1000) ∧ qs.length ≤ 8 ∧
  (∀ q ∈ qs, PgA H R Wr B Pg q.1 q.2.1 q.2.2 ∧ (∀ k ∈ q.2.2, k.small) ∧ q.2.2.length ≤ 8 ∧ q.2.1.length ≤ 1000) ∧
  (nmsB cs = false → X0 IC H E) ∧ (nmsB cs = true → (∀ e, takePs cs [] [] qs = .error e → XE IS UC [x] H E e) ∧
    ∀ ps as, takePs cs [] [] qs = .ok (ps, as) → ∀ H' c p a nn, H' x = some (.ins Sy dx (fsS c p a nn)) → Rd H' c (.tup (cs.map V.str)) → (Rd H n (.lst (cs.map V.str)) → FT H' c (cs.map V.str)) → H' p = some (.dK (pk ps)) → H' a = some (.dK (ak as)) → FT H' nn (ps.map fun q => V.str q.1) → p ≠ a → But x H H' → Q .non H')
theorem cTupG_any2 {a : Addr} {xs : List V} {H : Hp} {Q : VK} (h : SqW H a xs) (q : ∀ t H', Rd H' t (.tup xs) → (Rd H a (.lst xs) → FT H' t xs) → Same H H' → Q (.ref t) H') : cTupG K [.ref a] H Q := by
  rcases h with h | h
  · exact ⟨a, xs, rfl, .inl ⟨.inl h, fun l o hl d s => q l _ (.inr ⟨o, upd_same⟩) (fun _ => ⟨o, upd_same, d, s⟩) (UL.Same.new hl)⟩⟩
  · refine ⟨a, xs, rfl, .inr ⟨.inl h, q a H h (fun h2 => ?_) fun _ _ z => z⟩⟩
    rcases h with h | ⟨o, h⟩ <;> rcases h2 with h2 | ⟨o2, h2⟩ <;>
    · rw [h] at h2; cases h2
theorem m_sinit (T : SyX K mg R Wr B Pg Sy IS UC UP) (D : MD K Sy "__init__" "System.__init__" s_System___init__) (d_check_names : Dn P w K mg base (L2.CX P w) 3 "check_names" (sp_chknX K IC)) (m__take_program : Mn P w K mg base (L2.CX P w) 7 Sy "_take_program" (sp_takeP R Wr B Pg Sy IS UC)) :
    Mn P w K mg base (L2.CX P w) 9 Sy "__init__" (sp_sinit K R Wr B Pg Sy IC IS UC) := by
  refine D.mx sc_System___init__ (fun _ _ _ _ _ _ us hl => match us, hl with | [_, _, _], _ => rfl) (fun vs H Q E h => ?_) (fun f cdv A outer s H vs Q E hr h => ?_)
  · obtain ⟨x, n, b, dx, cs, qs, rfl, _⟩ := h; rfl
  · obtain ⟨x, n, b, dx, cs, qs, rfl, hx, hnn, hb, h6, hz, hql, hqs, qx, q⟩ := h
    refine ⟨_, (pss_cons (ps_expr (pe_d d_check_names hr (by decide) (passes_call (takes_of rfl rfl rfl rfl) (fun _ _ _ _ h => h)) (by rfl) (pa_cons (pv 1) pa_nil)))
      (pss_cons (ps_fld (pv 0) (pe_callTy call_tupG (by rfl) T.n_tuple (by decide +kernel) (pa_cons (pv 1) pa_nil)) rfl)
      (pss_cons (ps_fld (pv 0) pe_dnewK rfl)
      (pss_cons (ps_fld (pv 0) pe_dnewK rfl)
      (pss_cons (ps_for (passes_of rfl) rfl (pi_any (pv 2)) (pg_name (i := 3) sc_System___init__.nd rfl (Or.inl rfl)) (pss_one (ps_expr (pe_m m__take_program T.cls hr (by decide) (passes_call (takes_of rfl rfl rfl rfl) (fun _ _ _ _ h => h)) (pv 0) (pa_cons (pv 3) pa_nil)))))
      (pss_one (ps_fld (pv 0) (pe_callTy (call_tupD rfl) (by rfl) T.n_tuple (by decide +kernel) (pa_cons (pe_fld (pv 0) (by rfl)) pa_nil)) rfl))))))), ?_⟩
    walk_at "rd"
    refine ⟨n, cs, rfl, hnn.sqA, h6, hz, fun hb2 H1 sm1 => cTupG_any2 (hnn.same sm1) fun t H2 ht hft s2 => ?_, fun hb2 => qx hb2⟩
    obtain ⟨qe, qk⟩ := q hb2
    have s02 : Same H H2 := Same.tr sm1 s2
    have hx2 := s02 _ _ hx
    refine ⟨Sy, dx, [], hx2, T.cls, T.s_cells, by decide, fun p hp => ?_⟩
    have e1 : putF "cells" (V.ref t) [] = [(("cells" : Str), V.ref t)] := rfl
    rw [e1] at hp ⊢
    have xp : x ≠ p := ne_of_none upd_same hp
    have hpH : H p = none := by
      have h2 : H2 p = none := by rw [upd_ne (Ne.symm xp)] at hp; exact hp
      cases e : H p with
      | none => rfl
      | some o => rw [s02 _ _ e] at h2; cases h2
    have hx3 : (upd (upd H2 x (.ins Sy dx [(("cells" : Str), V.ref t)])) p (.dK [])) x = some (.ins Sy dx [(("cells" : Str), V.ref t)]) := by rw [upd_ne xp]; exact upd_same
    have ht3 : Rd (upd (upd H2 x (.ins Sy dx [(("cells" : Str), V.ref t)])) p (.dK [])) t (.tup (cs.map V.str)) := rd_same (rd_insS hx2 ht) (UL.Same.new hp)
    have hp3 : (upd (upd H2 x (.ins Sy dx [(("cells" : Str), V.ref t)])) p (.dK [])) p = some (.dK []) := upd_same
    have b3 : But x H (upd (upd H2 x (.ins Sy dx [(("cells" : Str), V.ref t)])) p (.dK [])) := fun c u e nc => UL.Same.new hp _ _ (by rw [upd_ne nc]; exact s02 _ _ e)
    have c3 : But x H2 (upd (upd H2 x (.ins Sy dx [(("cells" : Str), V.ref t)])) p (.dK [])) := fun c u e nc => UL.Same.new hp _ _ (by rw [upd_ne nc]; exact e)
    generalize upd (upd H2 x (.ins Sy dx [(("cells" : Str), V.ref t)])) p (.dK []) = H3 at hx3 ht3 hp3 b3 c3 ⊢
    refine ⟨Sy, dx, _, hx3, T.cls, T.s_programs, by show 1 < 1000; decide, fun a ha => ?_⟩
    have e2 : putF "_programs" (V.ref p) [(("cells" : Str), V.ref t)] = [(("cells" : Str), V.ref t), (("_programs" : Str), V.ref p)] := by simp [putF, sy1]
    rw [e2] at ha ⊢
    have xa : x ≠ a := ne_of_none upd_same ha
    have ha3 : H3 a = none := by rw [upd_ne (Ne.symm xa)] at ha; exact ha
    have haH : H a = none := by
      cases e : H a with
      | none => rfl
      | some o => rw [b3 _ _ e (Ne.symm xa)] at ha3; cases ha3
    have pa : p ≠ a := fun e => by rw [← e, hp3] at ha3; cases ha3
    have hx4 : (upd (upd H3 x (.ins Sy dx [(("cells" : Str), V.ref t), (("_programs" : Str), V.ref p)])) a (.dK [])) x = some (.ins Sy dx [(("cells" : Str), V.ref t), (("_programs" : Str), V.ref p)]) := by rw [upd_ne xa]; exact upd_same
    have ht4 : Rd (upd (upd H3 x (.ins Sy dx [(("cells" : Str), V.ref t), (("_programs" : Str), V.ref p)])) a (.dK [])) t (.tup (cs.map V.str)) := rd_same (rd_insS hx3 ht3) (UL.Same.new ha)
    have hp4 : (upd (upd H3 x (.ins Sy dx [(("cells" : Str), V.ref t), (("_programs" : Str), V.ref p)])) a (.dK [])) p = some (.dK []) := UL.Same.new ha _ _ (by rw [upd_ne (Ne.symm xp)]; exact hp3)
    have ha4 : (upd (upd H3 x (.ins Sy dx [(("cells" : Str), V.ref t), (("_programs" : Str), V.ref p)])) a (.dK [])) a = some (.dK []) := upd_same
    have b4 : But x H (upd (upd H3 x (.ins Sy dx [(("cells" : Str), V.ref t), (("_programs" : Str), V.ref p)])) a (.dK [])) := fun c u e nc => UL.Same.new ha _ _ (by rw [upd_ne nc]; exact b3 c u e nc)
    have c4 : But x H2 (upd (upd H3 x (.ins Sy dx [(("cells" : Str), V.ref t), (("_programs" : Str), V.ref p)])) a (.dK [])) := fun c u e nc => UL.Same.new ha _ _ (by rw [upd_ne nc]; exact c3 c u e nc)
    generalize upd (upd H3 x (.ins Sy dx [(("cells" : Str), V.ref t), (("_programs" : Str), V.ref p)])) a (.dK []) = H4 at hx4 ht4 hp4 ha4 b4 c4 ⊢
    have e3 : putF "_arities" (V.ref a) [(("cells" : Str), V.ref t), (("_programs" : Str), V.ref p)] = fsS3 t p a := by simp [putF, sy2, sy3, fsS3]
    obtain ⟨ob, hob, obi, obd⟩ := hb.some
    have xb : b ≠ x := fun e => by rw [e, hx] at hob; exact obi _ _ _ (Option.some.inj hob).symm
    have hx5 : (upd H4 x (.ins Sy dx (fsS3 t p a))) x = some (.ins Sy dx (fsS3 t p a)) := upd_same
    have hp5 : (upd H4 x (.ins Sy dx (fsS3 t p a))) p = some (.dK []) := by rw [upd_ne (Ne.symm xp)]; exact hp4
    have ha5 : (upd H4 x (.ins Sy dx (fsS3 t p a))) a = some (.dK []) := by rw [upd_ne (Ne.symm xa)]; exact ha4
    have ht5 := rd_insS (o := .ins Sy dx (fsS3 t p a)) hx4 ht4
    have b5 : But x H (upd H4 x (.ins Sy dx (fsS3 t p a))) := fun c u e nc => by rw [upd_ne nc]; exact b4 c u e nc
    have c5 : But x H2 (upd H4 x (.ins Sy dx (fsS3 t p a))) := fun c u e nc => by rw [upd_ne nc]; exact c4 c u e nc
    have hb5 : SqW _ b _ := hb.off fun o e => b5 _ _ e xb
    refine ⟨Sy, dx, _, hx4, T.cls, T.s_arities, by show 2 < 1000; decide, ?_⟩
    rw [e3]
    generalize upd H4 x (.ins Sy dx (fsS3 t p a)) = H5 at hx5 hp5 ha5 ht5 hb5 b5 c5 ⊢
    obtain ⟨kd, hkd⟩ := hb5.sqA (K := K)
    refine ⟨kd, ⟨_, hkd⟩, ?_⟩
    have lq : (qs.map fun q => V.ref q.1).length = qs.length := List.length_map _
    have sH : ∀ H6 H7, SmS [p, a] H5 H6 → SmS [p, a] H6 H7 → SmS [x] H H7 := fun H6 H7 s6 s7 c o e n => by
      have nx : c ≠ x := fun z => n (by simp [z])
      have npa : c ∉ [p, a] := fun z => by
        simp only [List.mem_cons, List.not_mem_nil, or_false] at z
        rcases z with rfl | rfl
        · rw [hpH] at e; cases e
        · rw [haH] at e; cases e
      exact s7 _ _ (s6 _ _ (b5 _ _ e nx) npa) npa
    have bpa : b ∉ [p, a] := fun z => by
      simp only [List.mem_cons, List.not_mem_nil, or_false] at z
      rcases z with rfl | rfl
      · rw [hpH] at hob; cases hob
      · rw [haH] at hob; cases hob
    have xpa : x ∉ [p, a] := by simp [xp, xa]
    have y0 : Yo H5 Sy x cs p a [] [] := ⟨⟨dx, t, fsS3 t p a, hx5, rfl, ht5, rfl, rfl, fs3_no⟩, hp5, ha5, pa⟩
    have pg5 : ∀ q ∈ qs, PgA H5 R Wr B Pg q.1 q.2.1 q.2.2 := fun q hq => (hqs q hq).1.keep fun c o e n => b5 _ _ e fun z => by
      rw [z, hx] at e
      exact n _ _ (Option.some.inj e).symm
    refine fj_any (xs := qs.map fun q => V.ref q.1) kd (fun i σ' H' => (∃ z, σ' = [some (.ref x), some (.ref n), some (.ref b), z]) ∧ SmS [p, a] H5 H' ∧ ∃ psi asi, takePs cs [] [] (qs.take i) = .ok (psi, asi) ∧ Yo H' Sy x cs p a psi asi ∧ psi.length ≤ 4 ∧ asi.length ≤ 8 * i) ⟨⟨_, rfl⟩, SmS.refl, [], [], rfl, y0, by decide, by decide⟩ (fun i σ' H' _ inv => Kd.off kd hkd fun o e => inv.2.1 _ _ e bpa) (fun i v σ' H' hv inv => ?_) fun σ' H' inv => ?_
    · obtain ⟨⟨z, rfl⟩, s, psi, asi, ht6, yi, hpi, hai⟩ := inv
      rw [List.getElem?_map] at hv
      cases hq : qs[i]? with
      | none => rw [hq] at hv; cases hv
      | some q =>
        rw [hq] at hv
        cases hv
        have hil : i < qs.length := (List.getElem?_eq_some_iff.mp hq).1
        have hqm := List.mem_of_getElem? hq
        walk_at "rd"
        have app : takePs cs [] [] qs = match takeP cs psi asi q.2.1 q.2.2 with
            | .error e => .error e
            | .ok as' => takePs cs (psi ++ [(q.2.1, q.1)]) as' (qs.drop (i + 1)) := by
          have e2 : qs = qs.take i ++ q :: qs.drop (i + 1) := by
            have e3 : qs.drop i = q :: qs.drop (i + 1) := by
              rw [List.drop_eq_getElem_cons hil]
              rw [List.getElem?_eq_getElem hil] at hq
              rw [Option.some.inj hq]
            rw [← e3, List.take_append_drop]
          have e4 : takePs cs [] [] (qs.take i ++ q :: qs.drop (i + 1)) = match takeP cs psi asi q.2.1 q.2.2 with
            | .error e => .error e
            | .ok as' => takePs cs (psi ++ [(q.2.1, q.1)]) as' (qs.drop (i + 1)) := by
            rw [takePs_app, ht6]; rfl
          rw [← e2] at e4
          exact e4
        refine ⟨dx, fsS3 t p a, s _ _ hx5 xpa, rfl, x, p, a, q.1, q.2.1, q.2.2, cs, psi, asi, rfl, yi, (pg5 q hqm).sms s y0.dks, (hqs q hqm).2.1, (hqs q hqm).2.2.1, (hqs q hqm).2.2.2, by omega, by omega, hpi, fun as' H7 ht7 y7 l7 s7 => ⟨⟨_, rfl⟩, SmS.tr s s7, psi ++ [(q.2.1, q.1)], as', ?_, y7, ?_, ?_⟩, fun e he => XE.off (qe e (by rw [app, he])) fun H8 s8 => sH _ _ s s8⟩
        · rw [List.take_add_one, hq, takePs_app, ht6]
          show (match takeP cs psi asi q.2.1 q.2.2 with | .error e => Except.error e | .ok as' => takePs cs (psi ++ [(q.2.1, q.1)]) as' []) = _
          rw [ht7]
          rfl
        · have := takeP_lt ht7 hpi
          rw [List.length_append]; simp only [List.length_cons, List.length_nil]; omega
        · have := (hqs q hqm).2.2.1; omega
    · obtain ⟨⟨z, rfl⟩, s, psi, asi, ht6, yi, hpi, hai⟩ := inv
      rw [lq, List.take_length] at ht6
      walk_at "rd"
      have hx6 := s _ _ hx5 xpa
      refine ⟨Sy, dx, _, hx6, T.cls, T.s_programs, .ref p, rfl, p, pk psi, rfl, .inl yi.hp, fun nn o hnn od os => ?_⟩
      have s6 : Same H' (upd H' nn (.frz o (.tup ((pk psi).map fun kv => kV kv.1)))) := UL.Same.new hnn
      refine ⟨Sy, dx, _, s6 _ _ hx6, T.cls, T.s_names, by show 3 < 1000; decide, ?_⟩
      have xn : x ≠ nn := ne_of_none hx6 hnn
      have e4' : putF (Str.ofString "names") (V.ref nn) (fsS3 t p a) = fsS t p a nn := by
        show putF ("names" : Str) (V.ref nn) [(("cells" : Str), V.ref t), (("_programs" : Str), V.ref p), (("_arities" : Str), V.ref a)] = _
        simp [putF, sy4, sy5, sy6, fsS]
      rw [e4']
      have ek : ((pk psi).map fun kv => kV kv.1) = psi.map fun q => V.str q.1 := by unfold pk; rw [List.map_map]; rfl
      have tpa : t ∉ [p, a] := fun z => by
        obtain ⟨kvs, e⟩ := y0.dks t z
        rcases ht5 with h | ⟨o, h⟩ <;> · rw [h] at e; cases e
      have ht6' : Rd H' t (.tup (cs.map V.str)) := ht5.elim (fun e => .inl (s _ _ e tpa)) fun ⟨o, e⟩ => .inr ⟨o, s _ _ e tpa⟩
      have hft6 : Rd H n (.lst (cs.map V.str)) → FT (upd (upd H' nn (.frz o (.tup ((pk psi).map fun kv => kV kv.1)))) x (.ins Sy dx (fsS t p a nn))) t (cs.map V.str) := fun hl => by
        obtain ⟨o', e, d⟩ := hft (rd_same hl sm1)
        have tx : t ≠ x := fun z => by rw [z, hx2] at e; cases e
        exact ⟨o', (upd_ne tx).trans (s6 _ _ (s _ _ (c5 _ _ e tx) tpa)), d⟩
      refine qk psi asi ht6 _ t p a nn upd_same (rd_insS (s6 _ _ hx6) (rd_same ht6' s6)) hft6 ?_ ?_ ⟨o, ?_, od, os⟩ pa fun c u e nc => ?_
      · rw [upd_ne (Ne.symm xp)]; exact s6 _ _ yi.hp
      · rw [upd_ne (Ne.symm xa)]; exact s6 _ _ yi.ha
      · rw [upd_ne (Ne.symm xn), upd_same, ek]
      · rw [upd_ne nc]
        exact s6 _ _ (s _ _ (b5 c u e nc) fun z => by
          simp only [List.mem_cons, List.not_mem_nil, or_false] at z
          rcases z with rfl | rfl
          · rw [hpH] at e; cases e
          · rw [haH] at e; cases e)
abbrev s_System_program_named : Stmt := inClass (top 47) 4
abbrev sc_System_program_named_N : List Str := ["self", "name"]
theorem sc_System_program_named : FnScope sc_System_program_named_N ["self", "name"] (defScope s_System_program_named) := ⟨rfl, rfl, rfl, by decide +kernel, rfl, by decide +kernel, by decide +kernel⟩
-- 0 self, 1 name
def sp_named (Sy UP : Addr) : Sp := fun vs H Q E => ∃ (y pd ad : Addr) (n : Str) (cs : List Str) (ps : List (Str × Addr)) (as : List (Str × Nat)), vs = [.ref y, .str n] ∧ Yo H Sy y cs pd ad ps as ∧ n.length ≤ 1000 ∧ (∀ a, valA ps n = some a → Q (.ref a) H) ∧ (valA ps n = none → X1 UP "name" (.str n) H E)
theorem m_named (T : SyX K mg R Wr B Pg Sy IS UC UP) (D : MD K Sy "program_named" "System.program_named" s_System_program_named) (x_UnknownProgram : Xn P w K mg base 1 UP "UnknownProgram" (sp_UP (K := K) UP)) : Mn P w K mg base (L2.CX P w) 3 Sy "program_named" (sp_named Sy UP) := by
  refine D.mx sc_System_program_named (fun _ _ _ _ _ _ us hl => match us, hl with | [_, _], _ => rfl) (fun vs H Q E h => ?_) (fun f cdv A outer s H vs Q E hr h => ?_)
  · obtain ⟨y, pd, ad, n, cs, ps, as, rfl, _⟩ := h; rfl
  · obtain ⟨y, pd, ad, n, cs, ps, as, rfl, hy, hn, q, qx⟩ := h
    refine ⟨_, (pss_cons (ps_if (pt_cmp (pc_dnotin (un1 hr.units) (pv 1) (pe_fld (pv 0) (by rfl))) (by with_unfolding_all rfl)) (pss_one (ps_raise rfl (takes_of rfl rfl rfl rfl) (pmk_x x_UnknownProgram hr (by decide) (by rfl) (pa_cons (pv 1) pa_nil)))) pss_nil)
      (pss_one (ps_ret (pe_dget (un1 hr.units) (pe_fld (pv 0) (by rfl)) (pv 1) (fun _ _ => rfl))))), ?_⟩
    unfold tDNotIn tDGet
    walk_at "rd"
    obtain ⟨⟨dy, cc, fs, h1, h2, h3, h4, h5, h9⟩, h6, h7, h8⟩ := id hy
    refine ⟨Sy, dy, fs, h1, T.cls, T.s_programs, .ref pd, h4, pd, rfl, _, DGet.k (k := Sum.inr n) h6, ?_⟩
    rw [valV_pk]
    cases hv : valA ps n with
    | none =>
      rw [if_pos (by simp)]
      exact raiseUP T.naUP hn (fun R r => ⟨_, rfl, r⟩) (qx hv)
    | some a =>
      rw [if_neg (by simp)]
      exact ⟨Sy, dy, fs, h1, T.cls, T.s_programs, .ref pd, h4, pd, rfl, .ref a, by have := DGet.k (k := Sum.inr n) h6; rw [valV_pk, hv] at this; exact this, q a hv⟩
theorem paired_ak {H : Hp} : ∀ {ts : List Addr} {as : List (Str × Nat)}, Paired (fun (t : Addr) (q : Key × V) => H t = some (.tup [kV q.1, q.2])) ts (ak as) → Paired (fun (t : Addr) (q : Str × Nat) => H t = some (.tup [.str q.1, .int q.2])) ts as
  | [], [], _ => .nil
  | t :: ts, q :: as, .cons h r => .cons h (paired_ak r)
abbrev s_System_functions : Stmt := inClass (top 47) 5
abbrev sc_System_functions_N : List Str := ["self"]
theorem sc_System_functions : FnScope sc_System_functions_N ["self"] (defScope s_System_functions) := ⟨rfl, rfl, rfl, by decide +kernel, rfl, by decide +kernel, by decide +kernel⟩
-- 0 self
def sp_funcs (Sy : Addr) : Sp := fun vs H Q _ => ∃ (y pd ad : Addr) (cs : List Str) (ps : List (Str × Addr)) (as : List (Str × Nat)), vs = [.ref y] ∧ Yo H Sy y cs pd ad ps as ∧ ∀ H' (p : Addr) (ts : List Addr), Same H H' → H p = none → (∀ t ∈ ts, H t = none) → p ∉ ts → H' p = some (.lst (ts.map V.ref)) →
  Paired (fun (t : Addr) (q : Str × Nat) => H' t = some (.tup [.str q.1, .int q.2])) ts as → Q (.ref p) H'
theorem m_funcs (T : SyX K mg R Wr B Pg Sy IS UC UP) (D : MD K Sy "functions" "System.functions" s_System_functions) : Mn P w K mg base CX0 1 Sy "functions" (sp_funcs Sy) := by
  refine D.mn sc_System_functions (fun _ _ _ _ _ _ us hl => match us, hl with | [_], _ => rfl) (fun vs H Q E h => ?_) (fun f cdv A outer s H vs Q E hr h => ?_)
  · obtain ⟨y, pd, ad, cs, ps, as, rfl, _⟩ := h; rfl
  · obtain ⟨y, pd, ad, cs, ps, as, rfl, hy, q⟩ := h
    refine ⟨_, (pss_one (ps_ret (LiI.pe_listItems rfl (pe_fld (pv 0) (by rfl)) (by rfl) T.n_list (by decide +kernel)))), ?_⟩
    unfold LiI.tListItems
    walk_at "rd"
    obtain ⟨⟨dy, cc, fs, h1, h2, h3, h4, h5, h9⟩, h6, h7, h8⟩ := id hy
    refine ⟨Sy, dy, fs, h1, T.cls, T.s_arities, .ref ad, h5, ad, ak as, rfl, h7, fun H' p ts k0 hp hts np hl pr => q H' p ts k0 hp hts np hl ?_⟩
    exact paired_ak pr
end
end U
set_option Elab.async false
set_option linter.all false
set_option maxRecDepth 100000
set_option maxHeartbeats 4000000
set_option pp.deepTerms true
set_option pp.maxSteps 400000
namespace U
open PySem PySem.Spec PyProof.Rows L2 UL UX
local macro_rules | `(tactic| walk_at "rd") => `(tactic| simp only [sMatch, tJs, tFmt, tBC, tMethA, tMakeL, iEnumS, tSeq, tAsg, tOp, tCB, tCons, tNil, tVar, tC, tB, tTest, tNot, tIfS, tNext, tYes, tUn, rU, tM0, tGFrom, tGThen, tG0, tYfLst, gcxK, tSubO, tProp, tListG, tMethG, tBMF, tFld, sFld, tMeth, tMake, tSl, tNoPart, tPart, tM1, gTup, gCons, gNil, tDrop, tFor_eq, tLc_eq, tLc2_eq, iRng1_eq, StX.tStar, iList, iTup, iStr, iAny_var, iZipB, tLenSetS, wipe, tVar, tAndV, tOrV, tNotV, tOr, tAnd, tLst, tTup, tBM, tBM0, tChain, tCall, cxK, noxK, addII, addSS, mulII, eqII, neII, neSS, cIntI, cAbsI, rI, rI0, rLt, rLe, rGt_, rGe_, rSub_, rMod, rPow, rDivW, rNeg, gName, tRet, L2.start, List.length_cons, List.length_nil, List.map_cons, List.map_nil, List.replicate, List.cons_append, List.nil_append, List.getElem?_cons_zero, List.getElem?_cons_succ, List.set_cons_zero, List.set_cons_succ, Option.some.injEq, exists_eq_left', exists_eq_left, V.int.injEq, V.bl.injEq, V.str.injEq, V.ref.injEq, V.ty.injEq, List.cons.injEq, and_true, true_and, reduceCtorEq, false_and, exists_false, or_false, false_or, exists_and_left, exists_and_right, List.append_nil, forall_eq, decide_eq_true_eq, Bool.not_eq_true, Nat.reduceAdd, Nat.reduceSub, List.replicate_zero, List.replicate_succ, Nat.zero_le, ite_true, ite_false, if_true, if_false])
section
variable {P : Program} {w : World} {K : PySem.W.Frag} {mg : Str → Option Value} {base : Heap}
open UW
variable {R Wr B Pg : Addr}
theorem nm_len {z : Str} (h : isNm z) : z.length ≤ 8 := by
  have h : nmB z = true := h
  simp only [nmB, Bool.and_eq_true, decide_eq_true_eq] at h
  exact h.1.2
abbrev s__law_cells : Stmt := top 56
abbrev sc__law_cells_N : List Str := ["_law_pool_here"]
theorem sc__law_cells : FnScope sc__law_cells_N ["_law_pool_here"] (defScope s__law_cells) := ⟨rfl, rfl, rfl, by decide +kernel, rfl, by decide +kernel, by decide +kernel⟩
-- 0 _law_pool_here
abbrev s__law_functions : Stmt := top 57
abbrev sc__law_functions_N : List Str := ["_law_pool_here"]
theorem sc__law_functions : FnScope sc__law_functions_N ["_law_pool_here"] (defScope s__law_functions) := ⟨rfl, rfl, rfl, by decide +kernel, rfl, by decide +kernel, by decide +kernel⟩
-- 0 _law_pool_here
abbrev s__law_line : Stmt := top 62
abbrev sc__law_line_N : List Str := ["_law_step_here", "_law_words"]
theorem sc__law_line : FnScope sc__law_line_N ["_law_step_here"] (defScope s__law_line) := ⟨rfl, rfl, rfl, by decide +kernel, rfl, by decide +kernel, by decide +kernel⟩
-- 0 _law_step_here, 1 _law_words
/-- a row of the law: what a step reads, its variable, what it writes, by which function, of what -/
def rowV (k : Sk) (e : Addr) : List V := match k with
  | .rd s l => [.str s, .str l, .non, .non, .ref e]
  | .wr t f _ => [.non, .non, .str t, .str f, .ref e]
  | .rw s l t f _ => [.str s, .str l, .str t, .str f, .ref e]
def Sk.args : Sk → List Str
  | .rd .. => []
  | .wr _ _ xs | .rw _ _ _ _ xs => xs
def RowA (H : Hp) (a : Addr) (k : Sk) : Prop := ∃ e, H a = some (.tup (rowV k e)) ∧ H e = some (.tup (k.args.map V.str))
def Sk.words : Sk → List Str
  | .rd s l => [("read" : Str), s, "as", l]
  | .wr t f xs => wrT t f xs
  | .rw s l t f xs => [("read" : Str), s, "as", l] ++ wrT t f xs
theorem words_many {k : Sk} (h : k.small) (hn : k.args.length ≤ 3) : (∀ x ∈ k.words, x.length ≤ 1000) ∧ k.words.length ≤ 12 := by
  have l1 : ("read" : Str).length = 4 := by decide +kernel
  have l2 : ("as" : Str).length = 2 := by decide +kernel
  have hb : (∀ x ∈ k.words, x.length ≤ 1000) ∧ k.words.length ≤ 12 := by
    have r4 : ∀ {s l : Str}, s.length ≤ 1000 → l.length ≤ 1000 → ∀ x ∈ [("read" : Str), s, "as", l], x.length ≤ 1000 := fun hs hl x hx => by
      simp only [List.mem_cons, List.not_mem_nil, or_false] at hx
      rcases hx with rfl | rfl | rfl | rfl
      · rw [l1]; omega
      · exact hs
      · rw [l2]; omega
      · exact hl
    cases k with
    | rd s l => exact ⟨r4 h.1 h.2, by simp [Sk.words]⟩
    | wr t f xs => exact ⟨wr_len h.1 h.2.1 h.2.2.1, Nat.le_trans wr_many (by have : xs.length ≤ 3 := hn; omega)⟩
    | rw s l t f xs =>
      refine ⟨fun x hx => (List.mem_append.mp hx).elim (r4 h.1.1 h.1.2 x) (wr_len h.2.1 h.2.2.1 h.2.2.2.1 x), ?_⟩
      have h3 : xs.length ≤ 3 := hn
      have h4 := wr_many (t := t) (f := f) (xs := xs)
      show ([("read" : Str), s, "as", l] ++ wrT t f xs).length ≤ 12
      rw [List.length_append]
      simp only [List.length_cons, List.length_nil]
      omega
  exact hb
theorem words_sum {k : Sk} (h : k.small) (hn : k.args.length ≤ 3) : (k.words.map (·.length)).sum + k.words.length * (" " : Str).length ≤ 16777216 := by
  have hb := words_many h hn
  have h1 := sum_le hb.1
  have h2 : k.words.length * 1000 ≤ 12 * 1000 := Nat.mul_le_mul_right _ hb.2
  have h3 := hb.2
  rw [l_sp]
  omega
def sp_line : Sp := fun vs H Q _ => ∃ (a : Addr) (k : Sk), vs = [.ref a] ∧ RowA H a k ∧ k.small ∧ k.args.length ≤ 3 ∧ (∀ x ∈ k.args, PyData.strOk x = true) ∧ ∀ H', Same H H' → Q (.str (Txt.join " " k.words)) H'
theorem d_line (T : Nm mg) (D : TD K mg "_law_line" s__law_line) : Dn P w K mg base CX0 1 "_law_line" sp_line := by
  refine D.dn sc__law_line (fun _ _ _ _ _ _ us hl => match us, hl with | [_], _ => rfl) (fun vs H Q E h => ?_) (fun f cdv A outer s H vs Q E hr h => ?_)
  · obtain ⟨a, k, rfl, _⟩ := h; rfl
  · obtain ⟨a, k, rfl, ⟨e, ha, he⟩, hs, hn, hso, q⟩ := h
    refine ⟨_, (pss_cons (ps_set (i := 1) sc__law_line.nd rfl (Or.inl rfl) (pe_lst pa_nil))
      (pss_cons (ps_if (pt_cmpR op_notNone (pe_ix ix_seq (pv 0) pe_int (fun _ _ => rfl)) pe_non (nomark _)) (pss_one (ps_set (i := 1) sc__law_line.nd rfl (Or.inl rfl) (pe_lst (pa_cons pe_str (pa_cons (pe_ix ix_seq (pv 0) pe_int (fun _ _ => rfl)) (pa_cons pe_str (pa_cons (pe_ix ix_seq (pv 0) pe_int (fun _ _ => rfl)) pa_nil))))))) pss_nil)
      (pss_cons (ps_if (pt_cmpR op_notNone (pe_ix ix_seq (pv 0) pe_int (fun _ _ => rfl)) pe_non (nomark _)) (pss_cons (ps_set (i := 1) sc__law_line.nd rfl (Or.inl rfl) (pe_op op_addA (pv 1) (pe_lst (pa_cons pe_str (pa_cons (pe_ix ix_seq (pv 0) pe_int (fun _ _ => rfl)) (pa_cons pe_str (pa_cons (pe_ix ix_seq (pv 0) pe_int (fun _ _ => rfl)) pa_nil)))))))
      (pss_one (ps_if (pt_cmpR (op_neA (hr.units)) (pe_ix ix_seq (pv 0) pe_int (fun _ _ => rfl)) (pe_tup pa_nil) (nomark _)) (pss_one (ps_set (i := 1) sc__law_line.nd rfl (Or.inl rfl) (pe_op op_addA (pe_op op_addA (pv 1) (pe_lst (pa_cons pe_str pa_nil))) (pe_callTy call_listA (by rfl) T.n_list (by decide +kernel) (pa_cons (pe_ix ix_seq (pv 0) pe_int (fun _ _ => rfl)) pa_nil))))) pss_nil))) pss_nil)
      (pss_one (ps_ret (pe_join pe_str (pv 1))))))), ?_⟩
    walk_at "rd"
    have ra : ∀ {H' : Hp} (i : Nat) (j : Int) (_ : j = i) (v : V), Same H H' → (rowV k e)[i]? = some v → ∀ {Q : VK}, Q v H' → rIx K (.ref a) (.int j) H' Q := fun {H'} i j hj v sm hv {Q} hq => by
      subst hj
      exact ixT (.inl (.inl (sm _ _ ha))) (atN hv) hq
    have hj : (k.words.map (·.length)).sum + k.words.length * (" " : Str).length ≤ 16777216 := words_sum hs hn
    have hfx : (k.args.map V.str).all fl3 = true := by
      rw [List.all_map, List.all_eq_true]
      exact fun x hx => hso x hx
    refine fun p hp => ?_
    have s1 : Same H (upd H p (.lst [])) := UL.Same.new hp
    cases k with
    | rd sr l =>
      refine ra 0 0 rfl _ s1 rfl ⟨rfl, _, rfl, ?_⟩
      rw [if_pos (by simp)]
      refine ra 0 0 rfl _ s1 rfl (ra 1 1 rfl _ s1 rfl ⟨by rw [sizeLine_eq]; decide, fun p2 hp2 => ?_⟩)
      have s2 := Same.tr s1 (UL.Same.new (o := .lst [V.str (Str.ofString "read"), V.str sr, V.str (Str.ofString "as"), V.str l]) hp2)
      refine ra 2 2 rfl _ s2 rfl ⟨rfl, _, rfl, ?_⟩
      rw [if_neg (by simp)]
      exact ⟨⟨_, rfl⟩, Sk.words (.rd sr l), .inl (.inl (.inl upd_same)), hj, q _ s2⟩
    | wr t fn xs =>
      refine ra 0 0 rfl _ s1 rfl ⟨rfl, _, rfl, ?_⟩
      rw [if_neg (by simp)]
      refine ra 2 2 rfl _ s1 rfl ⟨rfl, _, rfl, ?_⟩
      rw [if_pos (by simp)]
      have hx1 : upd H p (.lst []) p = some (.lst (([] : List Str).map V.str)) := upd_same
      have hn' : xs.length ≤ 3 := hn
      refine ra 2 2 rfl _ s1 rfl (ra 3 3 rfl _ s1 rfl ⟨by rw [sizeLine_eq]; decide, fun p3 hp3 => ?_⟩)
      refine .inr (.inr (.inr ⟨p, p3, _, _, rfl, rfl, UL.Same.new hp3 _ _ hx1, upd_same, by simp [sizeLine_eq], fun p4 hp4 => ?_⟩))
      have s4 := Same.tr (Same.tr s1 (UL.Same.new (o := .lst [V.str (Str.ofString "write"), V.str t, V.str (Str.ofString "by"), V.str fn]) hp3)) (UL.Same.new (o := .lst (([] : List Str).map V.str ++ [V.str (Str.ofString "write"), V.str t, V.str (Str.ofString "by"), V.str fn])) hp4)
      refine ra 4 4 rfl _ s4 rfl (fun p5 hp5 => neT3 hfx rfl (.inl (.inl (UL.Same.new hp5 _ _ (s4 _ _ he)))) (.inl (.inl upd_same)) ⟨_, rfl, ?_⟩)
      have s5 := Same.tr s4 (UL.Same.new (o := .tup []) hp5)
      by_cases hxs : xs = []
      · subst hxs
        rw [if_neg (by simp [Sk.args])]
        exact ⟨⟨_, rfl⟩, p4, rfl, ([] : List Str) ++ wrT t fn [], .inl (.inl (.inl (UL.Same.new hp5 _ _ (by rw [upd_same, List.map_append]; rfl)))), hj, q _ s5⟩
      · rw [if_pos (by simp [Sk.args, hxs])]
        refine ⟨by rw [sizeLine_eq]; decide, fun p6 hp6 => .inr (.inr (.inr ⟨p4, p6, _, _, rfl, rfl, UL.Same.new hp6 _ _ (UL.Same.new hp5 _ _ upd_same), upd_same, by simp [sizeLine_eq], fun p7 hp7 => ?_⟩))⟩
        have s7 := Same.tr (Same.tr s5 (UL.Same.new (o := .lst [V.str (Str.ofString "of")]) hp6)) (UL.Same.new (o := .lst (([] : List Str).map V.str ++ [V.str (Str.ofString "write"), V.str t, V.str (Str.ofString "by"), V.str fn] ++ [V.str (Str.ofString "of")])) hp7)
        refine ra 4 4 rfl _ s7 rfl ⟨e, _, rfl, .inr (.inl (.inl (s7 _ _ he))), fun p8 hp8 => .inr (.inr (.inr ⟨p7, p8, _, _, rfl, rfl, UL.Same.new hp8 _ _ upd_same, upd_same, by simp [sizeLine_eq, Sk.args]; omega, fun p9 hp9 => ?_⟩))⟩
        have ew : wrT t fn xs = (("write" : Str) :: t :: ("by" : Str) :: fn :: ("of" : Str) :: xs) := by unfold wrT; rw [if_neg hxs]
        exact ⟨⟨_, rfl⟩, p9, rfl, ([] : List Str) ++ wrT t fn xs, .inl (.inl (.inl (by rw [upd_same, ew]; simp [Sk.args]))), hj, q _ (Same.tr (Same.tr s7 (UL.Same.new hp8)) (UL.Same.new hp9))⟩
    | rw sr l t fn xs =>
      refine ra 0 0 rfl _ s1 rfl ⟨rfl, _, rfl, ?_⟩
      rw [if_pos (by simp)]
      refine ra 0 0 rfl _ s1 rfl (ra 1 1 rfl _ s1 rfl ⟨by rw [sizeLine_eq]; decide, fun p2 hp2 => ?_⟩)
      have s2 := Same.tr s1 (UL.Same.new (o := .lst [V.str (Str.ofString "read"), V.str sr, V.str (Str.ofString "as"), V.str l]) hp2)
      have hx2 : upd (upd H p (.lst [])) p2 (.lst [V.str (Str.ofString "read"), V.str sr, V.str (Str.ofString "as"), V.str l]) p2 = some (.lst ([("read" : Str), sr, "as", l].map V.str)) := upd_same
      refine ra 2 2 rfl _ s2 rfl ⟨rfl, _, rfl, ?_⟩
      rw [if_pos (by simp)]
      have hn' : xs.length ≤ 3 := hn
      refine ra 2 2 rfl _ s2 rfl (ra 3 3 rfl _ s2 rfl ⟨by rw [sizeLine_eq]; decide, fun p3 hp3 => ?_⟩)
      refine .inr (.inr (.inr ⟨p2, p3, _, _, rfl, rfl, UL.Same.new hp3 _ _ hx2, upd_same, by simp [sizeLine_eq], fun p4 hp4 => ?_⟩))
      have s4 := Same.tr (Same.tr s2 (UL.Same.new (o := .lst [V.str (Str.ofString "write"), V.str t, V.str (Str.ofString "by"), V.str fn]) hp3)) (UL.Same.new (o := .lst ([("read" : Str), sr, "as", l].map V.str ++ [V.str (Str.ofString "write"), V.str t, V.str (Str.ofString "by"), V.str fn])) hp4)
      refine ra 4 4 rfl _ s4 rfl (fun p5 hp5 => neT3 hfx rfl (.inl (.inl (UL.Same.new hp5 _ _ (s4 _ _ he)))) (.inl (.inl upd_same)) ⟨_, rfl, ?_⟩)
      have s5 := Same.tr s4 (UL.Same.new (o := .tup []) hp5)
      by_cases hxs : xs = []
      · subst hxs
        rw [if_neg (by simp [Sk.args])]
        exact ⟨⟨_, rfl⟩, p4, rfl, [("read" : Str), sr, "as", l] ++ wrT t fn [], .inl (.inl (.inl (UL.Same.new hp5 _ _ (by rw [upd_same, List.map_append]; rfl)))), hj, q _ s5⟩
      · rw [if_pos (by simp [Sk.args, hxs])]
        refine ⟨by rw [sizeLine_eq]; decide, fun p6 hp6 => .inr (.inr (.inr ⟨p4, p6, _, _, rfl, rfl, UL.Same.new hp6 _ _ (UL.Same.new hp5 _ _ upd_same), upd_same, by simp [sizeLine_eq], fun p7 hp7 => ?_⟩))⟩
        have s7 := Same.tr (Same.tr s5 (UL.Same.new (o := .lst [V.str (Str.ofString "of")]) hp6)) (UL.Same.new (o := .lst ([("read" : Str), sr, "as", l].map V.str ++ [V.str (Str.ofString "write"), V.str t, V.str (Str.ofString "by"), V.str fn] ++ [V.str (Str.ofString "of")])) hp7)
        refine ra 4 4 rfl _ s7 rfl ⟨e, _, rfl, .inr (.inl (.inl (s7 _ _ he))), fun p8 hp8 => .inr (.inr (.inr ⟨p7, p8, _, _, rfl, rfl, UL.Same.new hp8 _ _ upd_same, upd_same, by simp [sizeLine_eq, Sk.args]; omega, fun p9 hp9 => ?_⟩))⟩
        have ew : wrT t fn xs = (("write" : Str) :: t :: ("by" : Str) :: fn :: ("of" : Str) :: xs) := by unfold wrT; rw [if_neg hxs]
        exact ⟨⟨_, rfl⟩, p9, rfl, [("read" : Str), sr, "as", l] ++ wrT t fn xs, .inl (.inl (.inl (by rw [upd_same, ew]; simp [Sk.args]))), hj, q _ (Same.tr (Same.tr s7 (UL.Same.new hp8)) (UL.Same.new hp9))⟩
end
end U
set_option Elab.async false
set_option linter.all false
set_option maxRecDepth 100000
set_option maxHeartbeats 4000000
set_option pp.deepTerms true
set_option pp.maxSteps 400000
namespace U
open PySem PySem.Spec PyProof.Rows L2 UL UX
local macro_rules | `(tactic| walk_at "rd") => `(tactic| simp only [sMatch, tJs, tFmt, tBC, tMethA, tMakeL, iEnumS, tSeq, tAsg, tOp, tCB, tCons, tNil, tVar, tC, tB, tTest, tNot, tIfS, tNext, tYes, tUn, rU, tM0, tGFrom, tGThen, tG0, tYfLst, gcxK, tSubO, tProp, tListG, tMethG, tBMF, tFld, sFld, tMeth, tMake, tSl, tNoPart, tPart, tM1, gTup, gCons, gNil, tDrop, tFor_eq, tLc_eq, tLc2_eq, iRng1_eq, StX.tStar, iList, iTup, iStr, iAny_var, iZipB, tLenSetS, wipe, tVar, tAndV, tOrV, tNotV, tOr, tAnd, tLst, tTup, tBM, tBM0, tChain, tCall, cxK, noxK, addII, addSS, mulII, eqII, neII, neSS, cIntI, cAbsI, rI, rI0, rLt, rLe, rGt_, rGe_, rSub_, rMod, rPow, rDivW, rNeg, gName, tRet, L2.start, List.length_cons, List.length_nil, List.map_cons, List.map_nil, List.replicate, List.cons_append, List.nil_append, List.getElem?_cons_zero, List.getElem?_cons_succ, List.set_cons_zero, List.set_cons_succ, Option.some.injEq, exists_eq_left', exists_eq_left, V.int.injEq, V.bl.injEq, V.str.injEq, V.ref.injEq, V.ty.injEq, List.cons.injEq, and_true, true_and, reduceCtorEq, false_and, exists_false, or_false, false_or, exists_and_left, exists_and_right, List.append_nil, forall_eq, decide_eq_true_eq, Bool.not_eq_true, Nat.reduceAdd, Nat.reduceSub, List.replicate_zero, List.replicate_succ, Nat.zero_le, ite_true, ite_false, if_true, if_false])
section
variable {P : Program} {w : World} {K : PySem.W.Frag} {mg : Str → Option Value} {base : Heap}
open UW
variable {R Wr B Pg : Addr}
theorem nm_ok {z : Str} (h : isNm z) : PyData.strOk z = true := by
  have h : nmB z = true := h
  simp only [nmB, Bool.and_eq_true, List.all_eq_true, decide_eq_true_eq] at h
  have e : ∀ c ∈ abc.cps.toList, c < 0x110000 := by rw [abc_eq]; intro c hc; obtain ⟨n, hn, rfl⟩ := List.mem_map.mp hc; have := List.mem_range.mp hn; omega
  show (z.cps.all (· < 0x110000)) = true
  rw [Array.all_eq_true_iff_forall_mem]
  intro c hc
  exact decide_eq_true (e c (h.2 c (by simpa using hc)))
abbrev s__law_step : Stmt := top 58
abbrev sc__law_step_N : List Str := ["_law_pool_here", "_law_cells_here", "_law_words", "_law_functions_here", "_law_known_here", "_law_kind", "_law_source", "_law_local", "_law_target", "_law_names_here", "_law_which", "_law_inputs", "_law_k"]
theorem sc__law_step : FnScope sc__law_step_N ["_law_pool_here", "_law_cells_here", "_law_words", "_law_functions_here", "_law_known_here"] (defScope s__law_step) := ⟨rfl, rfl, rfl, by decide +kernel, rfl, by decide +kernel, by decide +kernel⟩
-- 0 _law_pool_here, 1 _law_cells_here, 2 _law_words, 3 _law_functions_here, 4 _law_known_here, 5 _law_kind, 6 _law_source, 7 _law_local, 8 _law_target, 9 _law_names_here, 10 _law_which, 11 _law_inputs, 12 _law_k
def Good (kn : List Str) (k : Sk) : Prop := (∀ x ∈ k.src ++ k.loc ++ k.tgt, isNm x) ∧ (∀ f, (match k with | .rd .. => none | .wr _ f _ | .rw _ _ _ f _ => some f) = some f → isNm f) ∧ (∀ x ∈ k.args, x ∈ kn ++ k.loc) ∧ k.args.length ≤ 3
theorem catT {H : Hp} {Q : VK} {a b : Addr} {xs ys : List V} (ha : SqT K H a xs) (hb : H b = some (.tup ys)) (hy : ys ≠ []) (hl : xs.length + ys.length ≤ sizeLine) (q : ∀ r H', H' r = some (.tup (xs ++ ys)) → Same H H' → Q (.ref r) H') : rAddA K (.ref a) (.ref b) H Q :=
  .inr (.inr (.inl ⟨a, b, xs, ys, rfl, rfl, ha, .inl (.inl hb), hl, fun e => q b H (by rw [e]; exact hb) (fun _ _ z => z), fun _ e => absurd e hy, fun _ _ p hp => q p _ upd_same (UL.Same.new hp)⟩))
theorem good_wr {t f : Str} {xs kn : List Str} (ht : isNm t) (hf : isNm f) (hx : ∀ x ∈ xs, x ∈ kn) (h3 : xs.length ≤ 3) : Good kn (.wr t f xs) :=
  ⟨fun x h => by have e : x = t := by simpa [Sk.src, Sk.loc, Sk.tgt] using h
                 rw [e]; exact ht, fun g e => by cases e; exact hf, fun x h => List.mem_append_left _ (hx x h), h3⟩
theorem good_rd {s l : Str} {kn : List Str} (hs : isNm s) (hl : isNm l) : Good kn (.rd s l) :=
  ⟨fun x h => by have e : x = s ∨ x = l := by simpa [Sk.src, Sk.loc, Sk.tgt] using h
                 rcases e with rfl | rfl
                 · exact hs
                 · exact hl, (fun g e => by cases e), (fun x h => by cases h), Nat.zero_le _⟩
theorem good_rw {s l t f : Str} {xs kn : List Str} (hs : isNm s) (hl : isNm l) (ht : isNm t) (hf : isNm f) (hx : ∀ x ∈ xs, x ∈ kn ++ [l]) (h3 : xs.length ≤ 3) : Good kn (.rw s l t f xs) :=
  ⟨fun x h => by have e : x = s ∨ x = l ∨ x = t := by simpa [Sk.src, Sk.loc, Sk.tgt] using h
                 rcases e with rfl | rfl | rfl
                 · exact hs
                 · exact hl
                 · exact ht, fun g e => by cases e; exact hf, hx, h3⟩
theorem Same.free {H H' : Hp} {p : Addr} (s : Same H H') (h : H' p = none) : H p = none := by
  cases e : H p with
  | none => rfl
  | some o => rw [s _ _ e] at h; cases h
def Sk.fa : Sk → Option (Str × Nat)
  | .rd .. => none
  | .wr _ f xs | .rw _ _ _ f xs => some (f, xs.length)
/-- the step's cells are of cs, its function is one of fs, with as many arguments as its place says -/
def InS (cs fs : List Str) (k : Sk) : Prop := (∀ c ∈ k.src ++ k.tgt, c ∈ cs) ∧ ∀ f n, k.fa = some (f, n) → ∃ i : Int, 0 ≤ i ∧ atI (fs.map V.str) i = some (V.str f) ∧ atI [V.int 1, .int 0, .int 2, .int 1, .int 3] i = some (V.int (n : Nat))
def sp_lstep (K : PySem.W.Frag) : Sp := fun vs H Q _ => ∃ (p a b c d : Addr) (cs ws fs kn : List Str), vs = [.ref p, .ref a, .ref b, .ref c, .ref d] ∧ Pl H p ∧ H a = some (.lst (cs.map V.str)) ∧ H b = some (.lst (ws.map V.str)) ∧ H c = some (.lst (fs.map V.str)) ∧ H d = some (.lst (kn.map V.str)) ∧ p ≠ a ∧ p ≠ b ∧ p ≠ c ∧ p ≠ d ∧
  1 ≤ cs.length ∧ cs.length ≤ 3 ∧ 1 ≤ ws.length ∧ ws.length ≤ 3 ∧ 2 ≤ fs.length ∧ fs.length ≤ 5 ∧ kn.length ≤ 4 ∧ (∀ z ∈ cs, isNm z) ∧ (∀ z ∈ ws, isNm z) ∧ (∀ z ∈ fs, isNm z) ∧ (∀ z ∈ kn, isNm z) ∧
  ∀ r k H', H r = none → RowA H' r k → Good kn k → InS cs fs k → Pl H' p → But p H H' → Q (.ref r) H'
theorem d_lstep (T : Nm mg) (D : TD K mg "_law_step" s__law_step) (d__law_draw : Dn P w K mg base CX0 1 "_law_draw" sp_draw) : Dn P w K mg base CX0 2 "_law_step" (sp_lstep K) := by
  refine D.dn sc__law_step (fun _ _ _ _ _ _ us hl => match us, hl with | [_, _, _, _, _], _ => rfl) (fun vs H Q E h => ?_) (fun f cdv A outer s H vs Q E hr h => ?_)
  · obtain ⟨p, a, b, c, d, cs, ws, fs, kn, rfl, _⟩ := h; rfl
  · obtain ⟨p, a, b, c, d, cs, ws, fs, kn, rfl, hp, ha, hb, hc, hd, na, nb, nc, nd, c1, c3, w1, w3, f2, f5, k4, ic, iw, iff, ik, q⟩ := h
    refine ⟨_, (pss_cons (ps_set (i := 5) sc__law_step.nd rfl (Or.inl rfl) (pe_d d__law_draw hr (by decide) pass0 (by rfl) (pa_cons (pv 0) (pa_cons pe_int pa_nil))))
      (pss_cons (ps_set (i := 6) sc__law_step.nd rfl (Or.inl rfl) pe_non)
      (pss_cons (ps_set (i := 7) sc__law_step.nd rfl (Or.inl rfl) pe_non)
      (pss_cons (ps_if (pt_cmpR (op_neA (hr.units)) (pv 5) pe_int (nomark _)) (pss_cons (ps_set (i := 6) sc__law_step.nd rfl (Or.inl rfl) (pe_ix ix_seq (pv 1) (pe_d d__law_draw hr (by decide) pass0 (by rfl) (pa_cons (pv 0) (pa_cons (pe_callB call_lenA (by rfl) T.n_len (by decide +kernel) (pa_cons (pv 1) pa_nil)) pa_nil))) (fun _ _ => rfl)))
      (pss_one (ps_set (i := 7) sc__law_step.nd rfl (Or.inl rfl) (pe_ix ix_seq (pv 2) (pe_d d__law_draw hr (by decide) pass0 (by rfl) (pa_cons (pv 0) (pa_cons (pe_callB call_lenA (by rfl) T.n_len (by decide +kernel) (pa_cons (pv 2) pa_nil)) pa_nil))) (fun _ _ => rfl))))) pss_nil)
      (pss_cons (ps_if (pt_cmpR (op_eqA (hr.units)) (pv 5) pe_int (nomark _)) (pss_one (ps_ret (pe_tup (pa_cons (pv 6) (pa_cons (pv 7) (pa_cons pe_non (pa_cons pe_non (pa_cons (pe_tup pa_nil) pa_nil)))))))) pss_nil)
      (pss_cons (ps_set (i := 8) sc__law_step.nd rfl (Or.inl rfl) (pv 6))
      (pss_cons (ps_if (pt_cmpR (op_neA (hr.units)) (pv 5) pe_int (nomark _)) (pss_one (ps_set (i := 8) sc__law_step.nd rfl (Or.inl rfl) (pe_ix ix_seq (pv 1) (pe_d d__law_draw hr (by decide) pass0 (by rfl) (pa_cons (pv 0) (pa_cons (pe_callB call_lenA (by rfl) T.n_len (by decide +kernel) (pa_cons (pv 1) pa_nil)) pa_nil))) (fun _ _ => rfl)))) pss_nil)
      (pss_cons (ps_set (i := 9) sc__law_step.nd rfl (Or.inl rfl) (pe_callTy call_listA (by rfl) T.n_list (by decide +kernel) (pa_cons (pv 4) pa_nil)))
      (pss_cons (ps_if (pt_cmpR op_notNone (pv 7) pe_non (nomark _)) (pss_one (ps_expr (pe_bm PySem.F.plainAttrs_list PySem.F.slot_list_append PySem.F.type_list_append mt_append (pv 9) (pa_cons (pv 7) pa_nil)))) pss_nil)
      (pss_cons (ps_set (i := 10) sc__law_step.nd rfl (Or.inl rfl) (pe_d d__law_draw hr (by decide) pass0 (by rfl) (pa_cons (pv 0) (pa_cons (pe_callB call_lenA (by rfl) T.n_len (by decide +kernel) (pa_cons (pv 3) pa_nil)) pa_nil))))
      (pss_cons (ps_if (pt_cmpR (op_eqA (hr.units)) (pv 9) (pe_lst pa_nil) (nomark _)) (pss_one (ps_set (i := 10) sc__law_step.nd rfl (Or.inl rfl) pe_int)) pss_nil)
      (pss_cons (ps_set (i := 11) sc__law_step.nd rfl (Or.inl rfl) (pe_tup pa_nil))
      (pss_cons (ps_for PassesOwn.never rfl (pi_range1 (by rfl) T.n_range (pa_cons (pe_ix ix_seq (pe_lst (pa_cons pe_int (pa_cons pe_int (pa_cons pe_int (pa_cons pe_int (pa_cons pe_int pa_nil)))))) (pv 10) (fun _ _ => rfl)) pa_nil)) (pg_name (i := 12) sc__law_step.nd rfl (Or.inl rfl)) (pss_one (ps_set (i := 11) sc__law_step.nd rfl (Or.inl rfl) (pe_op op_addA (pv 11) (pe_tup (pa_cons (pe_ix ix_seq (pv 9) (pe_d d__law_draw hr (by decide) pass0 (by rfl) (pa_cons (pv 0) (pa_cons (pe_callB call_lenA (by rfl) T.n_len (by decide +kernel) (pa_cons (pv 9) pa_nil)) pa_nil))) (fun _ _ => rfl)) pa_nil))))))
      (pss_one (ps_ret (pe_tup (pa_cons (pv 6) (pa_cons (pv 7) (pa_cons (pv 8) (pa_cons (pe_ix ix_seq (pv 3) (pv 10) (fun _ _ => rfl)) (pa_cons (pv 11) pa_nil))))))))))))))))))))), ?_⟩
    walk_at "rd"
    have atc : ∀ {xs : List Str} {r : Int}, 0 ≤ r → r < (xs.length : Int) → ∃ z, atI (xs.map V.str) r = some (V.str z) ∧ z ∈ xs := fun {xs r} h0 h1 => by
      obtain ⟨n, rfl⟩ := Int.eq_ofNat_of_zero_le h0
      have hn : n < xs.length := by omega
      exact ⟨xs[n], atN (by rw [List.getElem?_map]; simp [hn]), List.getElem_mem hn⟩
    have inp : ∀ wv : Int, 0 ≤ wv → wv < 5 → ∃ m : Int, atI [V.int 1, .int 0, .int 2, .int 1, .int 3] wv = some (.int m) ∧ 0 ≤ m ∧ m ≤ 3 ∧ (wv = 1 → m = 0) := fun wv h0 h5 => by
      have hc5 : wv = 0 ∨ wv = 1 ∨ wv = 2 ∨ wv = 3 ∨ wv = 4 := by omega
      rcases hc5 with rfl | rfl | rfl | rfl | rfl
      · exact ⟨1, rfl, by decide, by decide, by decide⟩
      · exact ⟨0, rfl, by decide, by decide, by decide⟩
      · exact ⟨2, rfl, by decide, by decide, by decide⟩
      · exact ⟨1, rfl, by decide, by decide, by decide⟩
      · exact ⟨3, rfl, by decide, by decide, by decide⟩
    refine drawI (by decide) hp fun kd H1 k0 k4' hp1 b1 => neII.mpr ⟨_, rfl, ?_⟩
    by_cases e2 : kd = 2
    · rw [if_neg (by simp [e2])]
      have kd2 : kd = 2 := e2
      refine eqII.mpr ⟨_, rfl, ?_⟩
      rw [if_neg (by simp [e2])]
      refine neII.mpr ⟨_, rfl, ?_⟩
      rw [if_pos (by simp [e2])]
      refine lenL (.inl (.inl (b1 _ _ ha (Ne.symm na)))) (drawI (by simp; omega) hp1 fun r1 H3 r10 r1l hp3 b3 => ?_)
      have b13 := But.tr b1 b3
      obtain ⟨tg, htg, htm⟩ := atc (xs := cs) r10 (by simpa using r1l)
      refine ixL (.inl (.inl (b13 _ _ ha (Ne.symm na)))) htg ⟨d, _, rfl, .inl (.inl (.inl (b13 _ _ hd (Ne.symm nd)))), fun l hl0 => ⟨rfl, _, rfl, ?_⟩⟩
      rw [if_neg (by simp)]
      have hl : upd H3 l (.lst (kn.map V.str)) l = some (.lst (kn.map V.str)) := upd_same
      have npl : p ≠ l := hp3.ne hl0
      have hpc : Pl (upd H3 l (.lst (kn.map V.str))) p := hp3.put npl
      have bc : But p H (upd H3 l (.lst (kn.map V.str))) := But.tr b13 (UL.Same.but (UL.Same.new hl0))
      generalize upd H3 l (.lst (kn.map V.str)) = Hc at hl hpc bc ⊢
      have hfl : (kn.map V.str).all fl3 = true := by
        rw [List.all_map, List.all_eq_true]
        exact fun x hx => nm_ok (ik x hx)
      obtain ⟨ns, ens⟩ : ∃ ns, ns = kn := ⟨_, rfl⟩
      rw [← ens] at hl hfl
      refine lenL (.inl (.inl (bc _ _ hc (Ne.symm nc)))) (drawI (by simp; omega) hpc fun wh H2 w0 wlt hp2 b2 => fun p1 hp1' => ?_)
      have hl2 : H2 l = some (.lst (ns.map V.str)) := b2 _ _ hl (Ne.symm npl)
      have wl5 : wh < (fs.length : Int) := by simpa using wlt
      refine eqL3 (xs := ns.map V.str) (ys := []) hfl rfl (.inl (.inl (UL.Same.new hp1' _ _ hl2))) (.inl (.inl upd_same)) ⟨_, rfl, ?_⟩
      by_cases hnn : ns = []
      · rw [if_pos (by simp [hnn])]
        refine fun p2 hp2' => ⟨by rw [sizeLine_eq]; decide, fun p3 hp3 => ?_⟩
        obtain ⟨m, hm, m0, m3, mz⟩ := inp (1) (by omega) (by omega)
        have s3 : Same H2 (upd (upd (upd H2 p1 (.lst [])) p2 (.tup [])) p3 (.lst [V.int 1, .int 0, .int 2, .int 1, .int 3])) := Same.tr (Same.tr (UL.Same.new hp1') (UL.Same.new hp2')) (UL.Same.new hp3)
        refine ixL (.inl (.inl upd_same)) hm ⟨m, rfl, by omega, by omega, FJ.rangeI (fun i σ' H' => ∃ (t : Addr) (xs : List Str) (z : Option V), σ' = [some (.ref p), some (.ref a), some (.ref b), some (.ref c), some (.ref d), some (.int kd), some V.non, some V.non, some (V.str tg), some (.ref l), some (.int (1)), some (.ref t), z] ∧ H' t = some (.tup (xs.map V.str)) ∧ xs.length = i ∧ (∀ x ∈ xs, x ∈ ns) ∧ Pl H' p ∧ But p H H' ∧ H' l = some (.lst (ns.map V.str))) m0 ⟨p2, [], _, rfl, ?_, rfl, (fun _ h => by cases h), hp2.same s3, But.tr bc (But.tr b2 (UL.Same.but s3)), s3 _ _ hl2⟩ (fun i σ' H' hi inv => ?_) fun σ' H' inv => ?_⟩
        · exact UL.Same.new hp3 _ _ upd_same
        · obtain ⟨t, xs, z, rfl, ht, hxl, hxm, hp5, b5, hl5⟩ := inv
          walk_at "rd"
          have hns : ns ≠ [] := fun _ => by have := mz rfl; omega
          have hnl : 0 < ns.length := List.length_pos_iff.mpr hns
          refine lenL (.inl (.inl hl5)) (drawI (by simp; omega) hp5 fun r H6 r0 rl hp6 b6 => ?_)
          obtain ⟨y, hy, hyn⟩ := atc (xs := ns) r0 (by simpa using rl)
          refine ixL (.inl (.inl (b6 _ _ hl5 (Ne.symm npl)))) hy ⟨by rw [sizeLine_eq]; decide, fun p7 hp7 => ?_⟩
          have ntp : t ≠ p := fun e => by obtain ⟨ms, e2⟩ := hp5; rw [e, e2] at ht; cases ht
          refine catT (xs := xs.map V.str) (.inl (.inl (UL.Same.new hp7 _ _ (b6 _ _ ht ntp)))) upd_same (by simp) (by simp [sizeLine_eq]; omega) fun rr H8 hr8 s8 => ?_
          have s68 : Same H6 H8 := Same.tr (UL.Same.new hp7) s8
          exact ⟨rr, ⟨rfl, _, rfl⟩, xs ++ [y], by rw [hr8, List.map_append]; rfl, by simp; omega, fun x hx => (List.mem_append.mp hx).elim (hxm x) fun h => by rw [List.mem_singleton.mp h]; exact hyn, hp6.same s68, But.tr b5 (But.tr b6 (UL.Same.but s68)), s68 _ _ (b6 _ _ hl5 (Ne.symm npl))⟩
        · obtain ⟨t, xs, z, rfl, ht, hxl, hxm, hp5, b5, hl5⟩ := inv
          walk_at "rd"
          obtain ⟨y, hy, hyn⟩ := atc (xs := fs) (r := (1)) (by omega) (by omega)
          refine ixL (.inl (.inl (b5 _ _ hc (Ne.symm nc)))) hy ⟨by rw [sizeLine_eq]; decide, fun p9 hp9 => ?_⟩
          have hx3 : xs.length ≤ 3 := by omega
          have inCells : ∀ c ∈ Sk.src (.wr tg y xs) ++ Sk.tgt (.wr tg y xs), c ∈ cs := by
            intro c h
            simp only [Sk.src, Sk.tgt, List.nil_append, List.append_nil, List.mem_append, List.mem_singleton, or_self, List.cons_append, List.mem_cons, List.not_mem_nil, or_false] at h
            first
              | (rw [h]; assumption)
              | (rcases h with h | h <;> (rw [h]; assumption))
          exact q p9 (.wr tg y xs) _ (But.free' b5 hp5 hp9) ⟨t, upd_same, UL.Same.new hp9 _ _ ht⟩ (good_wr (ic _ htm) (iff _ hyn) (fun x hx => by rw [← ens]; exact hxm x hx) hx3) ⟨inCells, fun f n h => by cases h; exact ⟨(1), by omega, hy, by rw [hm]; exact congrArg (fun z => some (V.int z)) (by omega)⟩⟩ (hp5.same (UL.Same.new hp9)) (But.tr b5 (UL.Same.but (UL.Same.new hp9)))
      · rw [if_neg (by simp [hnn])]
        refine fun p2 hp2' => ⟨by rw [sizeLine_eq]; decide, fun p3 hp3 => ?_⟩
        obtain ⟨m, hm, m0, m3, mz⟩ := inp (wh) (by omega) (by omega)
        have s3 : Same H2 (upd (upd (upd H2 p1 (.lst [])) p2 (.tup [])) p3 (.lst [V.int 1, .int 0, .int 2, .int 1, .int 3])) := Same.tr (Same.tr (UL.Same.new hp1') (UL.Same.new hp2')) (UL.Same.new hp3)
        refine ixL (.inl (.inl upd_same)) hm ⟨m, rfl, by omega, by omega, FJ.rangeI (fun i σ' H' => ∃ (t : Addr) (xs : List Str) (z : Option V), σ' = [some (.ref p), some (.ref a), some (.ref b), some (.ref c), some (.ref d), some (.int kd), some V.non, some V.non, some (V.str tg), some (.ref l), some (.int (wh)), some (.ref t), z] ∧ H' t = some (.tup (xs.map V.str)) ∧ xs.length = i ∧ (∀ x ∈ xs, x ∈ ns) ∧ Pl H' p ∧ But p H H' ∧ H' l = some (.lst (ns.map V.str))) m0 ⟨p2, [], _, rfl, ?_, rfl, (fun _ h => by cases h), hp2.same s3, But.tr bc (But.tr b2 (UL.Same.but s3)), s3 _ _ hl2⟩ (fun i σ' H' hi inv => ?_) fun σ' H' inv => ?_⟩
        · exact UL.Same.new hp3 _ _ upd_same
        · obtain ⟨t, xs, z, rfl, ht, hxl, hxm, hp5, b5, hl5⟩ := inv
          walk_at "rd"
          have hns : ns ≠ [] := hnn
          have hnl : 0 < ns.length := List.length_pos_iff.mpr hns
          refine lenL (.inl (.inl hl5)) (drawI (by simp; omega) hp5 fun r H6 r0 rl hp6 b6 => ?_)
          obtain ⟨y, hy, hyn⟩ := atc (xs := ns) r0 (by simpa using rl)
          refine ixL (.inl (.inl (b6 _ _ hl5 (Ne.symm npl)))) hy ⟨by rw [sizeLine_eq]; decide, fun p7 hp7 => ?_⟩
          have ntp : t ≠ p := fun e => by obtain ⟨ms, e2⟩ := hp5; rw [e, e2] at ht; cases ht
          refine catT (xs := xs.map V.str) (.inl (.inl (UL.Same.new hp7 _ _ (b6 _ _ ht ntp)))) upd_same (by simp) (by simp [sizeLine_eq]; omega) fun rr H8 hr8 s8 => ?_
          have s68 : Same H6 H8 := Same.tr (UL.Same.new hp7) s8
          exact ⟨rr, ⟨rfl, _, rfl⟩, xs ++ [y], by rw [hr8, List.map_append]; rfl, by simp; omega, fun x hx => (List.mem_append.mp hx).elim (hxm x) fun h => by rw [List.mem_singleton.mp h]; exact hyn, hp6.same s68, But.tr b5 (But.tr b6 (UL.Same.but s68)), s68 _ _ (b6 _ _ hl5 (Ne.symm npl))⟩
        · obtain ⟨t, xs, z, rfl, ht, hxl, hxm, hp5, b5, hl5⟩ := inv
          walk_at "rd"
          obtain ⟨y, hy, hyn⟩ := atc (xs := fs) (r := (wh)) (by omega) (by omega)
          refine ixL (.inl (.inl (b5 _ _ hc (Ne.symm nc)))) hy ⟨by rw [sizeLine_eq]; decide, fun p9 hp9 => ?_⟩
          have hx3 : xs.length ≤ 3 := by omega
          have inCells : ∀ c ∈ Sk.src (.wr tg y xs) ++ Sk.tgt (.wr tg y xs), c ∈ cs := by
            intro c h
            simp only [Sk.src, Sk.tgt, List.nil_append, List.append_nil, List.mem_append, List.mem_singleton, or_self, List.cons_append, List.mem_cons, List.not_mem_nil, or_false] at h
            first
              | (rw [h]; assumption)
              | (rcases h with h | h <;> (rw [h]; assumption))
          exact q p9 (.wr tg y xs) _ (But.free' b5 hp5 hp9) ⟨t, upd_same, UL.Same.new hp9 _ _ ht⟩ (good_wr (ic _ htm) (iff _ hyn) (fun x hx => by rw [← ens]; exact hxm x hx) hx3) ⟨inCells, fun f n h => by cases h; exact ⟨(wh), by omega, hy, by rw [hm]; exact congrArg (fun z => some (V.int z)) (by omega)⟩⟩ (hp5.same (UL.Same.new hp9)) (But.tr b5 (UL.Same.but (UL.Same.new hp9)))
    · rw [if_pos (by simp [e2])]
      refine lenL (.inl (.inl (b1 _ _ ha (Ne.symm na)))) (drawI (by simp; omega) hp1 fun r1 H3 r10 r1l hp3 b3 => ?_)
      have b13 := But.tr b1 b3
      obtain ⟨sr, hsr, srm⟩ := atc (xs := cs) r10 (by simpa using r1l)
      refine ixL (.inl (.inl (b13 _ _ ha (Ne.symm na)))) hsr (lenL (.inl (.inl (b13 _ _ hb (Ne.symm nb)))) (drawI (by simp; omega) hp3 fun r2 H4 r20 r2l hp4 b4 => ?_))
      have b14 := But.tr b13 b4
      obtain ⟨lc, hlc, lcm⟩ := atc (xs := ws) r20 (by simpa using r2l)
      refine ixL (.inl (.inl (b14 _ _ hb (Ne.symm nb)))) hlc (eqII.mpr ⟨_, rfl, ?_⟩)
      by_cases e1 : kd = 1
      · rw [if_pos (by simp [e1])]
        refine fun p2 hp2 => ⟨by rw [sizeLine_eq]; decide, fun p3 hp3 => ?_⟩
        have s3 : Same H4 (upd (upd H4 p2 (.tup [])) p3 (.tup [.str sr, .str lc, .non, .non, .ref p2])) := Same.tr (UL.Same.new hp2) (UL.Same.new hp3)
        exact q p3 (.rd sr lc) _ (But.free' b14 hp4 (Same.free (UL.Same.new hp2) hp3)) ⟨p2, upd_same, UL.Same.new hp3 _ _ upd_same⟩ (good_rd (ic _ srm) (iw _ lcm)) ⟨fun c h => (have e : c = sr := (by simpa [Sk.src, Sk.tgt] using h); (by rw [e]; exact srm)), fun f n h => by cases h⟩ (hp4.same s3) (But.tr b14 (UL.Same.but s3))
      · rw [if_neg (by simp [e1])]
        refine neII.mpr ⟨_, rfl, ?_⟩
        by_cases e0 : kd = 0
        · rw [if_neg (by simp [e0])]
          refine ⟨d, _, rfl, .inl (.inl (.inl (b14 _ _ hd (Ne.symm nd)))), fun l hl0 => ⟨rfl, _, rfl, ?_⟩⟩
          rw [if_pos (by simp)]
          refine ⟨.inl ⟨rfl, _, .inl (.inl upd_same)⟩, l, _, _, rfl, rfl, upd_same, by rw [List.length_map, sizeLine_eq]; omega, ?_⟩
          rw [upd_upd]
          have en : kn.map V.str ++ [V.str lc] = (kn ++ [lc]).map V.str := by simp
          rw [en]
          have hl : upd H4 l (.lst ((kn ++ [lc]).map V.str)) l = some (.lst ((kn ++ [lc]).map V.str)) := upd_same
          have npl : p ≠ l := hp4.ne hl0
          have hpc : Pl (upd H4 l (.lst ((kn ++ [lc]).map V.str))) p := hp4.put npl
          have bc : But p H (upd H4 l (.lst ((kn ++ [lc]).map V.str))) := But.tr b14 (UL.Same.but (UL.Same.new hl0))
          generalize upd H4 l (.lst ((kn ++ [lc]).map V.str)) = Hc at hl hpc bc ⊢
          have hfl : ((kn ++ [lc]).map V.str).all fl3 = true := by
            rw [List.all_map, List.all_eq_true]
            exact fun x hx => nm_ok ((List.mem_append.mp hx).elim (ik x) fun h => by rw [List.mem_singleton.mp h]; exact iw _ lcm)
          obtain ⟨ns, ens⟩ : ∃ ns, ns = kn ++ [lc] := ⟨_, rfl⟩
          rw [← ens] at hl hfl
          refine lenL (.inl (.inl (bc _ _ hc (Ne.symm nc)))) (drawI (by simp; omega) hpc fun wh H2 w0 wlt hp2 b2 => fun p1 hp1' => ?_)
          have hl2 : H2 l = some (.lst (ns.map V.str)) := b2 _ _ hl (Ne.symm npl)
          have wl5 : wh < (fs.length : Int) := by simpa using wlt
          refine eqL3 (xs := ns.map V.str) (ys := []) hfl rfl (.inl (.inl (UL.Same.new hp1' _ _ hl2))) (.inl (.inl upd_same)) ⟨_, rfl, ?_⟩
          by_cases hnn : ns = []
          · rw [if_pos (by simp [hnn])]
            refine fun p2 hp2' => ⟨by rw [sizeLine_eq]; decide, fun p3 hp3 => ?_⟩
            obtain ⟨m, hm, m0, m3, mz⟩ := inp (1) (by omega) (by omega)
            have s3 : Same H2 (upd (upd (upd H2 p1 (.lst [])) p2 (.tup [])) p3 (.lst [V.int 1, .int 0, .int 2, .int 1, .int 3])) := Same.tr (Same.tr (UL.Same.new hp1') (UL.Same.new hp2')) (UL.Same.new hp3)
            refine ixL (.inl (.inl upd_same)) hm ⟨m, rfl, by omega, by omega, FJ.rangeI (fun i σ' H' => ∃ (t : Addr) (xs : List Str) (z : Option V), σ' = [some (.ref p), some (.ref a), some (.ref b), some (.ref c), some (.ref d), some (.int kd), some (V.str sr), some (V.str lc), some (V.str sr), some (.ref l), some (.int (1)), some (.ref t), z] ∧ H' t = some (.tup (xs.map V.str)) ∧ xs.length = i ∧ (∀ x ∈ xs, x ∈ ns) ∧ Pl H' p ∧ But p H H' ∧ H' l = some (.lst (ns.map V.str))) m0 ⟨p2, [], _, rfl, ?_, rfl, (fun _ h => by cases h), hp2.same s3, But.tr bc (But.tr b2 (UL.Same.but s3)), s3 _ _ hl2⟩ (fun i σ' H' hi inv => ?_) fun σ' H' inv => ?_⟩
            · exact UL.Same.new hp3 _ _ upd_same
            · obtain ⟨t, xs, z, rfl, ht, hxl, hxm, hp5, b5, hl5⟩ := inv
              walk_at "rd"
              have hns : ns ≠ [] := fun _ => by have := mz rfl; omega
              have hnl : 0 < ns.length := List.length_pos_iff.mpr hns
              refine lenL (.inl (.inl hl5)) (drawI (by simp; omega) hp5 fun r H6 r0 rl hp6 b6 => ?_)
              obtain ⟨y, hy, hyn⟩ := atc (xs := ns) r0 (by simpa using rl)
              refine ixL (.inl (.inl (b6 _ _ hl5 (Ne.symm npl)))) hy ⟨by rw [sizeLine_eq]; decide, fun p7 hp7 => ?_⟩
              have ntp : t ≠ p := fun e => by obtain ⟨ms, e2⟩ := hp5; rw [e, e2] at ht; cases ht
              refine catT (xs := xs.map V.str) (.inl (.inl (UL.Same.new hp7 _ _ (b6 _ _ ht ntp)))) upd_same (by simp) (by simp [sizeLine_eq]; omega) fun rr H8 hr8 s8 => ?_
              have s68 : Same H6 H8 := Same.tr (UL.Same.new hp7) s8
              exact ⟨rr, ⟨rfl, _, rfl⟩, xs ++ [y], by rw [hr8, List.map_append]; rfl, by simp; omega, fun x hx => (List.mem_append.mp hx).elim (hxm x) fun h => by rw [List.mem_singleton.mp h]; exact hyn, hp6.same s68, But.tr b5 (But.tr b6 (UL.Same.but s68)), s68 _ _ (b6 _ _ hl5 (Ne.symm npl))⟩
            · obtain ⟨t, xs, z, rfl, ht, hxl, hxm, hp5, b5, hl5⟩ := inv
              walk_at "rd"
              obtain ⟨y, hy, hyn⟩ := atc (xs := fs) (r := (1)) (by omega) (by omega)
              refine ixL (.inl (.inl (b5 _ _ hc (Ne.symm nc)))) hy ⟨by rw [sizeLine_eq]; decide, fun p9 hp9 => ?_⟩
              have hx3 : xs.length ≤ 3 := by omega
              have inCells : ∀ c ∈ Sk.src (.rw sr lc sr y xs) ++ Sk.tgt (.rw sr lc sr y xs), c ∈ cs := by
                intro c h
                simp only [Sk.src, Sk.tgt, List.nil_append, List.append_nil, List.mem_append, List.mem_singleton, or_self, List.cons_append, List.mem_cons, List.not_mem_nil, or_false] at h
                first
                  | (rw [h]; assumption)
                  | (rcases h with h | h <;> (rw [h]; assumption))
              exact q p9 (.rw sr lc sr y xs) _ (But.free' b5 hp5 hp9) ⟨t, upd_same, UL.Same.new hp9 _ _ ht⟩ (good_rw (ic _ srm) (iw _ lcm) (ic _ srm) (iff _ hyn) (fun x hx => by rw [← ens]; exact hxm x hx) hx3) ⟨inCells, fun f n h => by cases h; exact ⟨(1), by omega, hy, by rw [hm]; exact congrArg (fun z => some (V.int z)) (by omega)⟩⟩ (hp5.same (UL.Same.new hp9)) (But.tr b5 (UL.Same.but (UL.Same.new hp9)))
          · rw [if_neg (by simp [hnn])]
            refine fun p2 hp2' => ⟨by rw [sizeLine_eq]; decide, fun p3 hp3 => ?_⟩
            obtain ⟨m, hm, m0, m3, mz⟩ := inp (wh) (by omega) (by omega)
            have s3 : Same H2 (upd (upd (upd H2 p1 (.lst [])) p2 (.tup [])) p3 (.lst [V.int 1, .int 0, .int 2, .int 1, .int 3])) := Same.tr (Same.tr (UL.Same.new hp1') (UL.Same.new hp2')) (UL.Same.new hp3)
            refine ixL (.inl (.inl upd_same)) hm ⟨m, rfl, by omega, by omega, FJ.rangeI (fun i σ' H' => ∃ (t : Addr) (xs : List Str) (z : Option V), σ' = [some (.ref p), some (.ref a), some (.ref b), some (.ref c), some (.ref d), some (.int kd), some (V.str sr), some (V.str lc), some (V.str sr), some (.ref l), some (.int (wh)), some (.ref t), z] ∧ H' t = some (.tup (xs.map V.str)) ∧ xs.length = i ∧ (∀ x ∈ xs, x ∈ ns) ∧ Pl H' p ∧ But p H H' ∧ H' l = some (.lst (ns.map V.str))) m0 ⟨p2, [], _, rfl, ?_, rfl, (fun _ h => by cases h), hp2.same s3, But.tr bc (But.tr b2 (UL.Same.but s3)), s3 _ _ hl2⟩ (fun i σ' H' hi inv => ?_) fun σ' H' inv => ?_⟩
            · exact UL.Same.new hp3 _ _ upd_same
            · obtain ⟨t, xs, z, rfl, ht, hxl, hxm, hp5, b5, hl5⟩ := inv
              walk_at "rd"
              have hns : ns ≠ [] := hnn
              have hnl : 0 < ns.length := List.length_pos_iff.mpr hns
              refine lenL (.inl (.inl hl5)) (drawI (by simp; omega) hp5 fun r H6 r0 rl hp6 b6 => ?_)
              obtain ⟨y, hy, hyn⟩ := atc (xs := ns) r0 (by simpa using rl)
              refine ixL (.inl (.inl (b6 _ _ hl5 (Ne.symm npl)))) hy ⟨by rw [sizeLine_eq]; decide, fun p7 hp7 => ?_⟩
              have ntp : t ≠ p := fun e => by obtain ⟨ms, e2⟩ := hp5; rw [e, e2] at ht; cases ht
              refine catT (xs := xs.map V.str) (.inl (.inl (UL.Same.new hp7 _ _ (b6 _ _ ht ntp)))) upd_same (by simp) (by simp [sizeLine_eq]; omega) fun rr H8 hr8 s8 => ?_
              have s68 : Same H6 H8 := Same.tr (UL.Same.new hp7) s8
              exact ⟨rr, ⟨rfl, _, rfl⟩, xs ++ [y], by rw [hr8, List.map_append]; rfl, by simp; omega, fun x hx => (List.mem_append.mp hx).elim (hxm x) fun h => by rw [List.mem_singleton.mp h]; exact hyn, hp6.same s68, But.tr b5 (But.tr b6 (UL.Same.but s68)), s68 _ _ (b6 _ _ hl5 (Ne.symm npl))⟩
            · obtain ⟨t, xs, z, rfl, ht, hxl, hxm, hp5, b5, hl5⟩ := inv
              walk_at "rd"
              obtain ⟨y, hy, hyn⟩ := atc (xs := fs) (r := (wh)) (by omega) (by omega)
              refine ixL (.inl (.inl (b5 _ _ hc (Ne.symm nc)))) hy ⟨by rw [sizeLine_eq]; decide, fun p9 hp9 => ?_⟩
              have hx3 : xs.length ≤ 3 := by omega
              have inCells : ∀ c ∈ Sk.src (.rw sr lc sr y xs) ++ Sk.tgt (.rw sr lc sr y xs), c ∈ cs := by
                intro c h
                simp only [Sk.src, Sk.tgt, List.nil_append, List.append_nil, List.mem_append, List.mem_singleton, or_self, List.cons_append, List.mem_cons, List.not_mem_nil, or_false] at h
                first
                  | (rw [h]; assumption)
                  | (rcases h with h | h <;> (rw [h]; assumption))
              exact q p9 (.rw sr lc sr y xs) _ (But.free' b5 hp5 hp9) ⟨t, upd_same, UL.Same.new hp9 _ _ ht⟩ (good_rw (ic _ srm) (iw _ lcm) (ic _ srm) (iff _ hyn) (fun x hx => by rw [← ens]; exact hxm x hx) hx3) ⟨inCells, fun f n h => by cases h; exact ⟨(wh), by omega, hy, by rw [hm]; exact congrArg (fun z => some (V.int z)) (by omega)⟩⟩ (hp5.same (UL.Same.new hp9)) (But.tr b5 (UL.Same.but (UL.Same.new hp9)))
        · rw [if_pos (by simp [e0])]
          refine lenL (.inl (.inl (b14 _ _ ha (Ne.symm na)))) (drawI (by simp; omega) hp4 fun r3 H5 r30 r3l hp5' b5' => ?_)
          have b15 := But.tr b14 b5'
          obtain ⟨tg, htg, htm⟩ := atc (xs := cs) r30 (by simpa using r3l)
          refine ixL (.inl (.inl (b15 _ _ ha (Ne.symm na)))) htg ?_
          refine ⟨d, _, rfl, .inl (.inl (.inl (b15 _ _ hd (Ne.symm nd)))), fun l hl0 => ⟨rfl, _, rfl, ?_⟩⟩
          rw [if_pos (by simp)]
          refine ⟨.inl ⟨rfl, _, .inl (.inl upd_same)⟩, l, _, _, rfl, rfl, upd_same, by rw [List.length_map, sizeLine_eq]; omega, ?_⟩
          rw [upd_upd]
          have en : kn.map V.str ++ [V.str lc] = (kn ++ [lc]).map V.str := by simp
          rw [en]
          have hl : upd H5 l (.lst ((kn ++ [lc]).map V.str)) l = some (.lst ((kn ++ [lc]).map V.str)) := upd_same
          have npl : p ≠ l := hp5'.ne hl0
          have hpc : Pl (upd H5 l (.lst ((kn ++ [lc]).map V.str))) p := hp5'.put npl
          have bc : But p H (upd H5 l (.lst ((kn ++ [lc]).map V.str))) := But.tr b15 (UL.Same.but (UL.Same.new hl0))
          generalize upd H5 l (.lst ((kn ++ [lc]).map V.str)) = Hc at hl hpc bc ⊢
          have hfl : ((kn ++ [lc]).map V.str).all fl3 = true := by
            rw [List.all_map, List.all_eq_true]
            exact fun x hx => nm_ok ((List.mem_append.mp hx).elim (ik x) fun h => by rw [List.mem_singleton.mp h]; exact iw _ lcm)
          obtain ⟨ns, ens⟩ : ∃ ns, ns = kn ++ [lc] := ⟨_, rfl⟩
          rw [← ens] at hl hfl
          refine lenL (.inl (.inl (bc _ _ hc (Ne.symm nc)))) (drawI (by simp; omega) hpc fun wh H2 w0 wlt hp2 b2 => fun p1 hp1' => ?_)
          have hl2 : H2 l = some (.lst (ns.map V.str)) := b2 _ _ hl (Ne.symm npl)
          have wl5 : wh < (fs.length : Int) := by simpa using wlt
          refine eqL3 (xs := ns.map V.str) (ys := []) hfl rfl (.inl (.inl (UL.Same.new hp1' _ _ hl2))) (.inl (.inl upd_same)) ⟨_, rfl, ?_⟩
          by_cases hnn : ns = []
          · rw [if_pos (by simp [hnn])]
            refine fun p2 hp2' => ⟨by rw [sizeLine_eq]; decide, fun p3 hp3 => ?_⟩
            obtain ⟨m, hm, m0, m3, mz⟩ := inp (1) (by omega) (by omega)
            have s3 : Same H2 (upd (upd (upd H2 p1 (.lst [])) p2 (.tup [])) p3 (.lst [V.int 1, .int 0, .int 2, .int 1, .int 3])) := Same.tr (Same.tr (UL.Same.new hp1') (UL.Same.new hp2')) (UL.Same.new hp3)
            refine ixL (.inl (.inl upd_same)) hm ⟨m, rfl, by omega, by omega, FJ.rangeI (fun i σ' H' => ∃ (t : Addr) (xs : List Str) (z : Option V), σ' = [some (.ref p), some (.ref a), some (.ref b), some (.ref c), some (.ref d), some (.int kd), some (V.str sr), some (V.str lc), some (V.str tg), some (.ref l), some (.int (1)), some (.ref t), z] ∧ H' t = some (.tup (xs.map V.str)) ∧ xs.length = i ∧ (∀ x ∈ xs, x ∈ ns) ∧ Pl H' p ∧ But p H H' ∧ H' l = some (.lst (ns.map V.str))) m0 ⟨p2, [], _, rfl, ?_, rfl, (fun _ h => by cases h), hp2.same s3, But.tr bc (But.tr b2 (UL.Same.but s3)), s3 _ _ hl2⟩ (fun i σ' H' hi inv => ?_) fun σ' H' inv => ?_⟩
            · exact UL.Same.new hp3 _ _ upd_same
            · obtain ⟨t, xs, z, rfl, ht, hxl, hxm, hp5, b5, hl5⟩ := inv
              walk_at "rd"
              have hns : ns ≠ [] := fun _ => by have := mz rfl; omega
              have hnl : 0 < ns.length := List.length_pos_iff.mpr hns
              refine lenL (.inl (.inl hl5)) (drawI (by simp; omega) hp5 fun r H6 r0 rl hp6 b6 => ?_)
              obtain ⟨y, hy, hyn⟩ := atc (xs := ns) r0 (by simpa using rl)
              refine ixL (.inl (.inl (b6 _ _ hl5 (Ne.symm npl)))) hy ⟨by rw [sizeLine_eq]; decide, fun p7 hp7 => ?_⟩
              have ntp : t ≠ p := fun e => by obtain ⟨ms, e2⟩ := hp5; rw [e, e2] at ht; cases ht
              refine catT (xs := xs.map V.str) (.inl (.inl (UL.Same.new hp7 _ _ (b6 _ _ ht ntp)))) upd_same (by simp) (by simp [sizeLine_eq]; omega) fun rr H8 hr8 s8 => ?_
              have s68 : Same H6 H8 := Same.tr (UL.Same.new hp7) s8
              exact ⟨rr, ⟨rfl, _, rfl⟩, xs ++ [y], by rw [hr8, List.map_append]; rfl, by simp; omega, fun x hx => (List.mem_append.mp hx).elim (hxm x) fun h => by rw [List.mem_singleton.mp h]; exact hyn, hp6.same s68, But.tr b5 (But.tr b6 (UL.Same.but s68)), s68 _ _ (b6 _ _ hl5 (Ne.symm npl))⟩
            · obtain ⟨t, xs, z, rfl, ht, hxl, hxm, hp5, b5, hl5⟩ := inv
              walk_at "rd"
              obtain ⟨y, hy, hyn⟩ := atc (xs := fs) (r := (1)) (by omega) (by omega)
              refine ixL (.inl (.inl (b5 _ _ hc (Ne.symm nc)))) hy ⟨by rw [sizeLine_eq]; decide, fun p9 hp9 => ?_⟩
              have hx3 : xs.length ≤ 3 := by omega
              have inCells : ∀ c ∈ Sk.src (.rw sr lc tg y xs) ++ Sk.tgt (.rw sr lc tg y xs), c ∈ cs := by
                intro c h
                simp only [Sk.src, Sk.tgt, List.nil_append, List.append_nil, List.mem_append, List.mem_singleton, or_self, List.cons_append, List.mem_cons, List.not_mem_nil, or_false] at h
                first
                  | (rw [h]; assumption)
                  | (rcases h with h | h <;> (rw [h]; assumption))
              exact q p9 (.rw sr lc tg y xs) _ (But.free' b5 hp5 hp9) ⟨t, upd_same, UL.Same.new hp9 _ _ ht⟩ (good_rw (ic _ srm) (iw _ lcm) (ic _ htm) (iff _ hyn) (fun x hx => by rw [← ens]; exact hxm x hx) hx3) ⟨inCells, fun f n h => by cases h; exact ⟨(1), by omega, hy, by rw [hm]; exact congrArg (fun z => some (V.int z)) (by omega)⟩⟩ (hp5.same (UL.Same.new hp9)) (But.tr b5 (UL.Same.but (UL.Same.new hp9)))
          · rw [if_neg (by simp [hnn])]
            refine fun p2 hp2' => ⟨by rw [sizeLine_eq]; decide, fun p3 hp3 => ?_⟩
            obtain ⟨m, hm, m0, m3, mz⟩ := inp (wh) (by omega) (by omega)
            have s3 : Same H2 (upd (upd (upd H2 p1 (.lst [])) p2 (.tup [])) p3 (.lst [V.int 1, .int 0, .int 2, .int 1, .int 3])) := Same.tr (Same.tr (UL.Same.new hp1') (UL.Same.new hp2')) (UL.Same.new hp3)
            refine ixL (.inl (.inl upd_same)) hm ⟨m, rfl, by omega, by omega, FJ.rangeI (fun i σ' H' => ∃ (t : Addr) (xs : List Str) (z : Option V), σ' = [some (.ref p), some (.ref a), some (.ref b), some (.ref c), some (.ref d), some (.int kd), some (V.str sr), some (V.str lc), some (V.str tg), some (.ref l), some (.int (wh)), some (.ref t), z] ∧ H' t = some (.tup (xs.map V.str)) ∧ xs.length = i ∧ (∀ x ∈ xs, x ∈ ns) ∧ Pl H' p ∧ But p H H' ∧ H' l = some (.lst (ns.map V.str))) m0 ⟨p2, [], _, rfl, ?_, rfl, (fun _ h => by cases h), hp2.same s3, But.tr bc (But.tr b2 (UL.Same.but s3)), s3 _ _ hl2⟩ (fun i σ' H' hi inv => ?_) fun σ' H' inv => ?_⟩
            · exact UL.Same.new hp3 _ _ upd_same
            · obtain ⟨t, xs, z, rfl, ht, hxl, hxm, hp5, b5, hl5⟩ := inv
              walk_at "rd"
              have hns : ns ≠ [] := hnn
              have hnl : 0 < ns.length := List.length_pos_iff.mpr hns
              refine lenL (.inl (.inl hl5)) (drawI (by simp; omega) hp5 fun r H6 r0 rl hp6 b6 => ?_)
              obtain ⟨y, hy, hyn⟩ := atc (xs := ns) r0 (by simpa using rl)
              refine ixL (.inl (.inl (b6 _ _ hl5 (Ne.symm npl)))) hy ⟨by rw [sizeLine_eq]; decide, fun p7 hp7 => ?_⟩
              have ntp : t ≠ p := fun e => by obtain ⟨ms, e2⟩ := hp5; rw [e, e2] at ht; cases ht
              refine catT (xs := xs.map V.str) (.inl (.inl (UL.Same.new hp7 _ _ (b6 _ _ ht ntp)))) upd_same (by simp) (by simp [sizeLine_eq]; omega) fun rr H8 hr8 s8 => ?_
              have s68 : Same H6 H8 := Same.tr (UL.Same.new hp7) s8
              exact ⟨rr, ⟨rfl, _, rfl⟩, xs ++ [y], by rw [hr8, List.map_append]; rfl, by simp; omega, fun x hx => (List.mem_append.mp hx).elim (hxm x) fun h => by rw [List.mem_singleton.mp h]; exact hyn, hp6.same s68, But.tr b5 (But.tr b6 (UL.Same.but s68)), s68 _ _ (b6 _ _ hl5 (Ne.symm npl))⟩
            · obtain ⟨t, xs, z, rfl, ht, hxl, hxm, hp5, b5, hl5⟩ := inv
              walk_at "rd"
              obtain ⟨y, hy, hyn⟩ := atc (xs := fs) (r := (wh)) (by omega) (by omega)
              refine ixL (.inl (.inl (b5 _ _ hc (Ne.symm nc)))) hy ⟨by rw [sizeLine_eq]; decide, fun p9 hp9 => ?_⟩
              have hx3 : xs.length ≤ 3 := by omega
              have inCells : ∀ c ∈ Sk.src (.rw sr lc tg y xs) ++ Sk.tgt (.rw sr lc tg y xs), c ∈ cs := by
                intro c h
                simp only [Sk.src, Sk.tgt, List.nil_append, List.append_nil, List.mem_append, List.mem_singleton, or_self, List.cons_append, List.mem_cons, List.not_mem_nil, or_false] at h
                first
                  | (rw [h]; assumption)
                  | (rcases h with h | h <;> (rw [h]; assumption))
              exact q p9 (.rw sr lc tg y xs) _ (But.free' b5 hp5 hp9) ⟨t, upd_same, UL.Same.new hp9 _ _ ht⟩ (good_rw (ic _ srm) (iw _ lcm) (ic _ htm) (iff _ hyn) (fun x hx => by rw [← ens]; exact hxm x hx) hx3) ⟨inCells, fun f n h => by cases h; exact ⟨(wh), by omega, hy, by rw [hm]; exact congrArg (fun z => some (V.int z)) (by omega)⟩⟩ (hp5.same (UL.Same.new hp9)) (But.tr b5 (UL.Same.but (UL.Same.new hp9)))
end
end U
set_option Elab.async false
set_option linter.all false
set_option maxRecDepth 100000
set_option maxHeartbeats 4000000
set_option pp.deepTerms true
set_option pp.maxSteps 400000
namespace U
open PySem PySem.Spec PyProof.Rows L2 UL UX
local macro_rules | `(tactic| walk_at "rd") => `(tactic| simp only [sMatch, tJs, tFmt, tBC, tMethA, tMakeL, iEnumS, tSeq, tAsg, tOp, tCB, tCons, tNil, tVar, tC, tB, tTest, tNot, tIfS, tNext, tYes, tUn, rU, tM0, tGFrom, tGThen, tG0, tYfLst, gcxK, tSubO, tProp, tListG, tMethG, tBMF, tFld, sFld, tMeth, tMake, tSl, tNoPart, tPart, tM1, gTup, gCons, gNil, tDrop, tFor_eq, tLc_eq, tLc2_eq, iRng1_eq, StX.tStar, iList, iTup, iStr, iAny_var, iZipB, tLenSetS, wipe, tVar, tAndV, tOrV, tNotV, tOr, tAnd, tLst, tTup, tBM, tBM0, tChain, tCall, cxK, noxK, addII, addSS, mulII, eqII, neII, neSS, cIntI, cAbsI, rI, rI0, rLt, rLe, rGt_, rGe_, rSub_, rMod, rPow, rDivW, rNeg, gName, tRet, L2.start, List.length_cons, List.length_nil, List.map_cons, List.map_nil, List.replicate, List.cons_append, List.nil_append, List.getElem?_cons_zero, List.getElem?_cons_succ, List.set_cons_zero, List.set_cons_succ, Option.some.injEq, exists_eq_left', exists_eq_left, V.int.injEq, V.bl.injEq, V.str.injEq, V.ref.injEq, V.ty.injEq, List.cons.injEq, and_true, true_and, reduceCtorEq, false_and, exists_false, or_false, false_or, exists_and_left, exists_and_right, List.append_nil, forall_eq, decide_eq_true_eq, Bool.not_eq_true, Nat.reduceAdd, Nat.reduceSub, List.replicate_zero, List.replicate_succ, Nat.zero_le, ite_true, ite_false, if_true, if_false])
section
variable {P : Program} {w : World} {K : PySem.W.Frag} {mg : Str → Option Value} {base : Heap}
open UW
variable {R Wr B Pg : Addr}
def GoodS : List Str → List Sk → Prop
  | _, [] => True
  | kn, k :: r => Good kn k ∧ GoodS (kn ++ k.loc) r
def locs (ks : List Sk) : List Str := ks.flatMap Sk.loc
theorem GoodS.snoc : ∀ {ks : List Sk} {kn : List Str} {k : Sk}, GoodS kn ks → Good (kn ++ locs ks) k → GoodS kn (ks ++ [k])
  | [], kn, k, _, h => ⟨by simpa [locs] using h, trivial⟩
  | k0 :: r, kn, k, ⟨h0, hr⟩, h => ⟨h0, GoodS.snoc hr (by simpa [locs] using h)⟩
theorem RowA.same {H H' : Hp} {a : Addr} {k : Sk} (s : Same H H') (h : RowA H a k) : RowA H' a k := let ⟨e, x, y⟩ := h; ⟨e, s _ _ x, s _ _ y⟩
theorem RowA.but {H H' : Hp} {a p : Addr} {k : Sk} (hp : Pl H p) (s : But p H H') (h : RowA H a k) : RowA H' a k := by
  obtain ⟨e, x, y⟩ := h
  obtain ⟨ms, hm⟩ := hp
  exact ⟨e, s _ _ x (fun q => by rw [q, hm] at x; cases x), s _ _ y (fun q => by rw [q, hm] at y; cases y)⟩
theorem RowA.put {H : Hp} {a p : Addr} {zs : List V} {o : HO} {k : Sk} (hp : H p = some (.lst zs)) (h : RowA H a k) : RowA (upd H p o) a k := by
  obtain ⟨e, x, y⟩ := h
  exact ⟨e, by rw [upd_ne (fun q => by rw [q, hp] at x; cases x)]; exact x, by rw [upd_ne (fun q => by rw [q, hp] at y; cases y)]; exact y⟩
theorem locs_len : ∀ ks : List Sk, (locs ks).length ≤ ks.length
  | [] => Nat.le_refl _
  | k :: r => by
    have h := locs_len r
    have e : k.loc.length ≤ 1 := by cases k <;> simp [Sk.loc]
    show (k.loc ++ locs r).length ≤ _
    rw [List.length_append, List.length_cons]
    omega
theorem GoodS.nm : ∀ {ks : List Sk} {kn : List Str}, GoodS kn ks → ∀ z ∈ locs ks, isNm z
  | [], _, _, _, h => by cases h
  | k :: r, kn, ⟨h0, hr⟩, z, h => by
    have h : z ∈ k.loc ++ locs r := h
    rcases List.mem_append.mp h with h | h
    · exact h0.1 z (by simp [h])
    · exact GoodS.nm hr z h
abbrev s__law_steps : Stmt := top 59
abbrev sc__law_steps_N : List Str := ["_law_pool_here", "_law_cells_here", "_law_words", "_law_functions_here", "_law_count", "_law_steps_here", "_law_known_here", "_law_k", "_law_step_here"]
theorem sc__law_steps : FnScope sc__law_steps_N ["_law_pool_here", "_law_cells_here", "_law_words", "_law_functions_here", "_law_count"] (defScope s__law_steps) := ⟨rfl, rfl, rfl, by decide +kernel, rfl, by decide +kernel, by decide +kernel⟩
-- 0 _law_pool_here, 1 _law_cells_here, 2 _law_words, 3 _law_functions_here, 4 _law_count, 5 _law_steps_here, 6 _law_known_here, 7 _law_k, 8 _law_step_here
def sp_lsteps (K : PySem.W.Frag) : Sp := fun vs H Q _ => ∃ (p a b c : Addr) (n : Nat) (cs ws fs : List Str), vs = [.ref p, .ref a, .ref b, .ref c, .int n] ∧ n ≤ 4 ∧ Pl H p ∧ H a = some (.lst (cs.map V.str)) ∧ H b = some (.lst (ws.map V.str)) ∧ H c = some (.lst (fs.map V.str)) ∧ p ≠ a ∧ p ≠ b ∧ p ≠ c ∧
  1 ≤ cs.length ∧ cs.length ≤ 3 ∧ 1 ≤ ws.length ∧ ws.length ≤ 3 ∧ 2 ≤ fs.length ∧ fs.length ≤ 5 ∧ (∀ z ∈ cs, isNm z) ∧ (∀ z ∈ ws, isNm z) ∧ (∀ z ∈ fs, isNm z) ∧
  ∀ r ks rs H', H r = none → H' r = some (.lst (rs.map V.ref)) → Paired (fun t k => RowA H' t k) rs ks → GoodS [] ks → (∀ k ∈ ks, InS cs fs k) → ks.length = n → Pl H' p → But p H H' → Q (.ref r) H'
theorem d_lsteps (T : Nm mg) (D : TD K mg "_law_steps" s__law_steps) (d__law_step : Dn P w K mg base CX0 2 "_law_step" (sp_lstep K)) : Dn P w K mg base CX0 3 "_law_steps" (sp_lsteps K) := by
  refine D.dn sc__law_steps (fun _ _ _ _ _ _ us hl => match us, hl with | [_, _, _, _, _], _ => rfl) (fun vs H Q E h => ?_) (fun f cdv A outer s H vs Q E hr h => ?_)
  · obtain ⟨p, a, b, c, n, cs, ws, fs, rfl, _⟩ := h; rfl
  · obtain ⟨p, a, b, c, n, cs, ws, fs, rfl, hn, hp, ha, hb, hc, na, nb, nc, c1, c3, w1, w3, f2, f5, ic, iw, iff, q⟩ := h
    refine ⟨_, (pss_cons (ps_set (i := 5) sc__law_steps.nd rfl (Or.inl rfl) (pe_lst pa_nil))
      (pss_cons (ps_set (i := 6) sc__law_steps.nd rfl (Or.inl rfl) (pe_lst pa_nil))
      (pss_cons (ps_for PassesOwn.never rfl (pi_range1 (by rfl) T.n_range (pa_cons (pv 4) pa_nil)) (pg_name (i := 7) sc__law_steps.nd rfl (Or.inl rfl)) (pss_cons (ps_set (i := 8) sc__law_steps.nd rfl (Or.inl rfl) (pe_d d__law_step hr (by decide) pass0 (by rfl) (pa_cons (pv 0) (pa_cons (pv 1) (pa_cons (pv 2) (pa_cons (pv 3) (pa_cons (pv 6) pa_nil)))))))
      (pss_cons (ps_if (pt_cmpR op_notNone (pe_ix ix_seq (pv 8) pe_int (fun _ _ => rfl)) pe_non (nomark _)) (pss_one (ps_expr (pe_bm PySem.F.plainAttrs_list PySem.F.slot_list_append PySem.F.type_list_append mt_append (pv 6) (pa_cons (pe_ix ix_seq (pv 8) pe_int (fun _ _ => rfl)) pa_nil)))) pss_nil)
      (pss_one (ps_expr (pe_bm PySem.F.plainAttrs_list PySem.F.slot_list_append PySem.F.type_list_append mt_append (pv 5) (pa_cons (pv 8) pa_nil)))))))
      (pss_one (ps_ret (pv 5)))))), ?_⟩
    walk_at "rd"
    refine fun l1 hl1 l2 hl2 => ⟨by omega, by omega, ?_⟩
    have n12 : l1 ≠ l2 := ne_of_none upd_same hl2
    have hl2H : H l2 = none := by rw [upd_ne (Ne.symm n12)] at hl2; exact hl2
    have np1 := hp.ne hl1
    have np2 := hp.ne hl2H
    have s0 : Same H (upd (upd H l1 (.lst [])) l2 (.lst [])) := Same.tr (UL.Same.new hl1) (UL.Same.new hl2)
    refine FJ.rangeI (fun i σ' H' => ∃ (rs : List Addr) (ks : List Sk) (z1 z2 : Option V), σ' = [some (.ref p), some (.ref a), some (.ref b), some (.ref c), some (.int n), some (.ref l1), some (.ref l2), z1, z2] ∧ H' l1 = some (.lst (rs.map V.ref)) ∧ H' l2 = some (.lst ((locs ks).map V.str)) ∧ Paired (fun t k => RowA H' t k) rs ks ∧ (GoodS [] ks ∧ ∀ k ∈ ks, InS cs fs k) ∧ ks.length = i ∧ Pl H' p ∧ But p H H') (by omega) ⟨[], [], _, _, rfl, by rw [upd_ne n12]; exact upd_same, upd_same, .nil, ⟨trivial, fun k hk => by cases hk⟩, rfl, hp.same s0, UL.Same.but s0⟩ (fun i σ' H' hi inv => ?_) fun σ' H' inv => ?_
    · obtain ⟨rs, ks, z1, z2, rfl, h1, h2, hk, hg, hki, hp', bt⟩ := inv
      walk_at "rd"
      have ll := locs_len ks
      refine ⟨p, a, b, c, l2, cs, ws, fs, locs ks, rfl, hp', bt _ _ ha (Ne.symm na), bt _ _ hb (Ne.symm nb), bt _ _ hc (Ne.symm nc), h2, na, nb, nc, np2, c1, c3, w1, w3, f2, f5, by omega, ic, iw, iff, fun z hz => hg.1.nm z hz, fun r k H1 hr0 hrow hgood hins hp1 b1 => ?_⟩
      have h1' := b1 _ _ h1 (Ne.symm np1)
      have h2' := b1 _ _ h2 (Ne.symm np2)
      have hk1 : Paired (fun t k => RowA H1 t k) (rs ++ [r]) (ks ++ [k]) := (L2.Paired.mapP hk fun _ _ g => RowA.but hp' b1 g).snoc hrow
      have hg1 : GoodS [] (ks ++ [k]) ∧ ∀ k' ∈ ks ++ [k], InS cs fs k' := ⟨hg.1.snoc (by simpa using hgood), fun k' h => (List.mem_append.mp h).elim (hg.2 k') fun h => by rw [List.mem_singleton.mp h]; exact hins⟩
      have bt1 := But.tr bt b1
      have rl : rs.length = ks.length := hk.length
      have fin : ∀ (kn2 : List Str) (H5 : Hp), H5 l1 = some (.lst (rs.map V.ref)) → H5 l2 = some (.lst (kn2.map V.str)) → kn2 = locs (ks ++ [k]) → Paired (fun t k => RowA H5 t k) (rs ++ [r]) (ks ++ [k]) → Pl H5 p → But p H H5 →
          upd H5 l1 (.lst (rs.map V.ref ++ [V.ref r])) l1 = some (.lst ((rs ++ [r]).map V.ref)) ∧ upd H5 l1 (.lst (rs.map V.ref ++ [V.ref r])) l2 = some (.lst ((locs (ks ++ [k])).map V.str)) ∧ Paired (fun t k => RowA (upd H5 l1 (.lst (rs.map V.ref ++ [V.ref r]))) t k) (rs ++ [r]) (ks ++ [k]) ∧ Pl (upd H5 l1 (.lst (rs.map V.ref ++ [V.ref r]))) p ∧ But p H (upd H5 l1 (.lst (rs.map V.ref ++ [V.ref r]))) := fun kn2 H5 e1 e2 ek pr pl b5 =>
        ⟨by rw [upd_same, List.map_append]; rfl, by rw [upd_ne (Ne.symm n12), e2, ek], L2.Paired.mapP pr fun _ _ g => RowA.put e1 g, pl.put np1, UL.But.put b5 hl1⟩
      obtain ⟨e, hr1, he⟩ := hrow
      have ix : ∀ {v : V} {Q : VK}, (rowV k e)[1]? = some v → Q v H1 → rIx K (.ref r) (.int 1) H1 Q := fun {v Q} h hq => ixT (.inl (.inl hr1)) (show atI _ ((1 : Nat) : Int) = some v from atN h) hq
      cases k with
      | wr t fn xs =>
        refine ix rfl ⟨rfl, _, rfl, ?_⟩
        rw [if_neg (by simp)]
        obtain ⟨g1, g2, g3, g4, g5⟩ := fin (locs ks) H1 h1' h2' (by simp [locs, Sk.loc]) hk1 hp1 bt1
        exact ⟨.inl ⟨rfl, _, .inl (.inl h1')⟩, l1, _, _, rfl, rfl, h1', by rw [List.length_map, sizeLine_eq]; omega, ⟨_, rfl⟩, rs ++ [r], g1, ks ++ [.wr t fn xs], g2, g3, hg1, by simp; omega, g4, g5⟩
      | rd sr l =>
        refine ix rfl ⟨rfl, _, rfl, ?_⟩
        rw [if_pos (by simp)]
        have pr5 : Paired (fun t k => RowA (upd H1 l2 (.lst ((locs ks).map V.str ++ [V.str l]))) t k) (rs ++ [r]) (ks ++ [.rd sr l]) := L2.Paired.mapP hk1 fun _ _ g => RowA.put h2' g
        have e5 : upd H1 l2 (.lst ((locs ks).map V.str ++ [V.str l])) l1 = some (.lst (rs.map V.ref)) := by rw [upd_ne n12]; exact h1'
        obtain ⟨g1, g2, g3, g4, g5⟩ := fin (locs ks ++ [l]) (upd H1 l2 (.lst ((locs ks).map V.str ++ [V.str l]))) e5 (by rw [upd_same, List.map_append]; rfl) (by simp [locs, Sk.loc]) pr5 (hp1.put np2) (UL.But.put bt1 hl2H)
        refine ⟨.inl ⟨rfl, _, .inl (.inl h2')⟩, ix rfl ⟨l2, _, _, rfl, rfl, h2', by rw [List.length_map, sizeLine_eq]; omega, ?_⟩⟩
        exact ⟨.inl ⟨rfl, _, .inl (.inl e5)⟩, l1, _, _, rfl, rfl, e5, by rw [List.length_map, sizeLine_eq]; omega, ⟨_, rfl⟩, rs ++ [r], g1, ks ++ [.rd sr l], g2, g3, hg1, by simp; omega, g4, g5⟩
      | rw sr l t fn xs =>
        refine ix rfl ⟨rfl, _, rfl, ?_⟩
        rw [if_pos (by simp)]
        have pr5 : Paired (fun t k => RowA (upd H1 l2 (.lst ((locs ks).map V.str ++ [V.str l]))) t k) (rs ++ [r]) (ks ++ [.rw sr l t fn xs]) := L2.Paired.mapP hk1 fun _ _ g => RowA.put h2' g
        have e5 : upd H1 l2 (.lst ((locs ks).map V.str ++ [V.str l])) l1 = some (.lst (rs.map V.ref)) := by rw [upd_ne n12]; exact h1'
        obtain ⟨g1, g2, g3, g4, g5⟩ := fin (locs ks ++ [l]) (upd H1 l2 (.lst ((locs ks).map V.str ++ [V.str l]))) e5 (by rw [upd_same, List.map_append]; rfl) (by simp [locs, Sk.loc]) pr5 (hp1.put np2) (UL.But.put bt1 hl2H)
        refine ⟨.inl ⟨rfl, _, .inl (.inl h2')⟩, ix rfl ⟨l2, _, _, rfl, rfl, h2', by rw [List.length_map, sizeLine_eq]; omega, ?_⟩⟩
        exact ⟨.inl ⟨rfl, _, .inl (.inl e5)⟩, l1, _, _, rfl, rfl, e5, by rw [List.length_map, sizeLine_eq]; omega, ⟨_, rfl⟩, rs ++ [r], g1, ks ++ [.rw sr l t fn xs], g2, g3, hg1, by simp; omega, g4, g5⟩
    · obtain ⟨rs, ks, z1, z2, rfl, h1, h2, hk, hg, hki, hp', bt⟩ := inv
      walk_at "rd"
      exact q l1 ks rs _ hl1 h1 hk hg.1 hg.2 (by omega) hp' bt
abbrev s__law_text : Stmt := top 63
abbrev sc__law_text_N : List Str := ["_law_name", "_law_steps_here", ".0", "_law_step_here"]
theorem sc__law_text : FnScope sc__law_text_N ["_law_name", "_law_steps_here"] (defScope s__law_text) := ⟨rfl, rfl, rfl, by decide +kernel, rfl, by decide +kernel, by decide +kernel⟩
-- 0 _law_name, 1 _law_steps_here, 2 .0, 3 _law_step_here
def sp_ltext : Sp := fun vs H Q _ => ∃ (n : Str) (r : Addr) (rs : List Addr) (ks : List Sk), vs = [.str n, .ref r] ∧ n.length ≤ 8 ∧ H r = some (.lst (rs.map V.ref)) ∧ Paired (fun t k => RowA H t k) rs ks ∧ ks.length ≤ 4 ∧ (∀ k ∈ ks, k.small ∧ k.args.length ≤ 3 ∧ ∀ x ∈ k.args, PyData.strOk x = true) ∧
  ∀ H', Same H H' → Q (.str (Txt.join "\n" (("program " ++ n) :: ks.map fun k => Txt.join " " k.words))) H'
theorem d_ltext (T : Nm mg) (D : TD K mg "_law_text" s__law_text) (d__law_line : Dn P w K mg base CX0 1 "_law_line" sp_line) : Dn P w K mg base CX0 2 "_law_text" sp_ltext := by
  refine D.dn sc__law_text (fun _ _ _ _ _ _ us hl => match us, hl with | [_, _], _ => rfl) (fun vs H Q E h => ?_) (fun f cdv A outer s H vs Q E hr h => ?_)
  · obtain ⟨n, r, rs, ks, rfl, _⟩ := h; rfl
  · obtain ⟨n, r, rs, ks, rfl, hn, hrr, hk, hl, hs, q⟩ := h
    refine ⟨_, (pss_one (ps_ret (pe_join pe_str (pe_op op_addA (pe_lst (pa_cons (pe_op op_addA pe_str (pv 0)) pa_nil)) (pe_lc (own := [(".0", 2), ("_law_step_here", 3)]) (g := (gName 3)) (tt := tYes) rfl sc__law_text.nd (pi_list (pv 1)) (blkOk_by (N := sc__law_text_N) (sc := defScope s__law_text) (by decide +kernel)) (fun _ _ _ _ _ => pg_name (i := 3) sc__law_text.nd rfl (Or.inl rfl)) (fun _ _ _ _ _ => pts_nil) (fun _ _ _ _ _ => (pe_d d__law_line hr (by decide) pass0 (by rfl) (pa_cons (pv 3) pa_nil)))))))), ?_⟩
    walk_at "rd"
    have l8 : ("program " : Str).length = 8 := by decide +kernel
    have l1 : ("\n" : Str).length = 1 := by decide +kernel
    have rl : rs.length = ks.length := hk.length
    refine ⟨⟨_, rfl⟩, by rw [l8, sizeLine_eq]; omega, by rw [sizeLine_eq]; decide, fun p hp => ⟨⟨_, .inl (.inl (UL.Same.new hp _ _ hrr))⟩, fun D hD => ?_⟩⟩
    have npD := ne_of_none upd_same hD
    have hDH : H D = none := Same.free (UL.Same.new hp) hD
    refine LJ.it (walk_list (xs := rs.map V.ref)) (fun i H' => H' p = some (.lst [V.str ("program " ++ n)]) ∧ H' D = some (.lst (((ks.take i).map fun k => Txt.join " " k.words).map V.str)) ∧ Same H H') ⟨by rw [upd_ne npD]; exact upd_same, upd_same, Same.tr (UL.Same.new hp) (UL.Same.new hD)⟩ (fun i H' _ inv => .inl (.inl (inv.2.2 _ _ hrr))) (fun i x H1 H2 hi inv yy => ?_) fun H2 inv => ?_
    · obtain ⟨e1, e2, sm⟩ := inv
      obtain ⟨rfl, hx⟩ := yy
      obtain ⟨t, hti, rfl⟩ : ∃ t, rs[i]? = some t ∧ x = V.ref t := by
        rw [List.getElem?_map] at hx
        cases e : rs[i]? with
        | none => rw [e] at hx; cases hx
        | some t => rw [e] at hx; cases hx; exact ⟨t, rfl, rfl⟩
      obtain ⟨k, hki, gk⟩ := pr_at hk hti
      refine ⟨rfl, ?_⟩
      walk_at "rd"
      obtain ⟨k1, k2, k3⟩ := hs k (List.mem_of_getElem? hki)
      refine ⟨t, k, rfl, RowA.same sm gk, k1, k2, k3, fun H5 s5 => ⟨_, s5 _ _ e2, by simp [sizeLine_eq]; omega, ?_, ?_, UL.Same.put (Same.tr sm s5) hDH⟩⟩
      · rw [upd_ne npD]; exact s5 _ _ e1
      · rw [upd_same, List.take_add_one, hki]; simp
    · obtain ⟨e1, e2, sm⟩ := inv
      rw [List.length_map, rl, List.take_length] at e2
      refine .inr (.inr (.inr ⟨p, D, _, _, rfl, rfl, e1, e2, by simp [sizeLine_eq]; omega, fun r2 hr2 => ⟨r2, rfl, (("program " ++ n) :: ks.map fun k => Txt.join " " k.words), .inl (.inl (.inl (by rw [upd_same]; simp))), ?_, q _ (UL.Same.put sm (Same.free sm hr2))⟩⟩))
      have hb : ∀ y ∈ (("program " ++ n) :: ks.map fun k => Txt.join " " k.words), y.length ≤ 100000 := fun y hy => by
        rcases List.mem_cons.mp hy with rfl | hy
        · rw [len_app, l8]; omega
        · obtain ⟨k, hk', rfl⟩ := List.mem_map.mp hy
          obtain ⟨k1, k2, k3⟩ := hs k hk'
          have h0 := join_len " " k.words
          have h1 := words_many k1 k2
          have h2 := sum_le h1.1
          have h3 : k.words.length * 1000 ≤ 12 * 1000 := Nat.mul_le_mul_right _ h1.2
          have h4 := h1.2
          show (Txt.join " " k.words).length ≤ _
          rw [show Txt.join " " k.words = Str.join " " k.words from _root_.TL.join_eq _ _]
          rw [l_sp] at h0
          omega
      have h1 := sum_le hb
      have h2 : (("program " ++ n) :: ks.map fun k => Txt.join " " k.words).length ≤ 5 := by rw [List.length_cons, List.length_map]; omega
      have h3 : (("program " ++ n) :: ks.map fun k => Txt.join " " k.words).length * 100000 ≤ 5 * 100000 := Nat.mul_le_mul_right _ h2
      rw [l1]
      omega
end
end U
set_option Elab.async false
set_option linter.all false
set_option maxRecDepth 100000
set_option maxHeartbeats 4000000
set_option pp.deepTerms true
set_option pp.maxSteps 400000
namespace U
open PySem PySem.Spec PyProof.Rows L2 UL UX
local macro_rules | `(tactic| walk_at "rd") => `(tactic| simp only [sMatch, tJs, tFmt, tBC, tMethA, tMakeL, iEnumS, tSeq, tAsg, tOp, tCB, tCons, tNil, tVar, tC, tB, tTest, tNot, tIfS, tNext, tYes, tUn, rU, tM0, tGFrom, tGThen, tG0, tYfLst, gcxK, tSubO, tProp, tListG, tMethG, tBMF, tFld, sFld, tMeth, tMake, tSl, tNoPart, tPart, tM1, gTup, gCons, gNil, tDrop, tFor_eq, tLc_eq, tLc2_eq, iRng1_eq, StX.tStar, iList, iTup, iStr, iAny_var, iZipB, tLenSetS, wipe, tVar, tAndV, tOrV, tNotV, tOr, tAnd, tLst, tTup, tBM, tBM0, tChain, tCall, cxK, noxK, addII, addSS, mulII, eqII, neII, neSS, cIntI, cAbsI, rI, rI0, rLt, rLe, rGt_, rGe_, rSub_, rMod, rPow, rDivW, rNeg, gName, tRet, L2.start, List.length_cons, List.length_nil, List.map_cons, List.map_nil, List.replicate, List.cons_append, List.nil_append, List.getElem?_cons_zero, List.getElem?_cons_succ, List.set_cons_zero, List.set_cons_succ, Option.some.injEq, exists_eq_left', exists_eq_left, V.int.injEq, V.bl.injEq, V.str.injEq, V.ref.injEq, V.ty.injEq, List.cons.injEq, and_true, true_and, reduceCtorEq, false_and, exists_false, or_false, false_or, exists_and_left, exists_and_right, List.append_nil, forall_eq, decide_eq_true_eq, Bool.not_eq_true, Nat.reduceAdd, Nat.reduceSub, List.replicate_zero, List.replicate_succ, Nat.zero_le, ite_true, ite_false, if_true, if_false])
section
variable {P : Program} {w : World} {K : PySem.W.Frag} {mg : Str → Option Value} {base : Heap}
open UW
variable {R Wr B Pg : Addr}
theorem sp_free {z : Str} (h : isNm z) : 32 ∉ z.cps.toList ∧ 10 ∉ z.cps.toList := by
  have h : nmB z = true := h
  simp only [nmB, Bool.and_eq_true, List.all_eq_true, decide_eq_true_eq] at h
  have e : ∀ c ∈ abc.cps.toList, 97 ≤ c := by rw [abc_eq]; intro c hc; obtain ⟨n, hn, rfl⟩ := List.mem_map.mp hc; omega
  exact ⟨fun q => by have := e 32 (h.2 32 q); omega, fun q => by have := e 10 (h.2 10 q); omega⟩
/-- the words of a right step: names all of them -/
theorem words_nm {k : Sk} {kn : List Str} (g : Good kn k) (hk : ∀ z ∈ kn, isNm z) : ∀ x ∈ k.words, isNm x := by
  obtain ⟨g1, g2, g3, g4⟩ := g
  have ga : ∀ x ∈ k.args, isNm x := fun x hx => (List.mem_append.mp (g3 x hx)).elim (hk x) fun h => g1 x (by simp [h])
  have wr : ∀ {t f : Str} {xs : List Str}, isNm t → isNm f → (∀ x ∈ xs, isNm x) → ∀ x ∈ wrT t f xs, isNm x := fun {t f xs} ht hf hx x h => by
    unfold wrT at h
    rcases List.mem_cons.mp h with rfl | h
    · exact nm_write
    rcases List.mem_cons.mp h with rfl | h
    · exact ht
    rcases List.mem_cons.mp h with rfl | h
    · exact nm_by
    rcases List.mem_cons.mp h with rfl | h
    · exact hf
    by_cases e : xs = []
    · rw [if_pos e] at h; cases h
    · rw [if_neg e] at h
      rcases List.mem_cons.mp h with rfl | h
      · exact nm_of
      · exact hx x h
  have rd : ∀ {s l : Str}, isNm s → isNm l → ∀ x ∈ [("read" : Str), s, "as", l], isNm x := fun hs hl x hx => by
    simp only [List.mem_cons, List.not_mem_nil, or_false] at hx
    rcases hx with rfl | rfl | rfl | rfl
    · exact nm_read
    · exact hs
    · exact nm_as
    · exact hl
  cases k with
  | rd s l => exact rd (g1 s (by simp [Sk.src])) (g1 l (by simp [Sk.loc]))
  | wr t f xs => exact wr (g1 t (by simp [Sk.tgt])) (g2 f rfl) ga
  | rw s l t f xs => exact fun x hx => (List.mem_append.mp hx).elim (rd (g1 s (by simp [Sk.src])) (g1 l (by simp [Sk.loc])) x) (wr (g1 t (by simp [Sk.tgt])) (g2 f rfl) ga x)
theorem split_words {ws : List Str} (h : ∀ x ∈ ws, isNm x) (hne : ws ≠ []) : Txt.split (Txt.join " " ws) " " = ws :=
  _root_.TL.split_join (y := " ") (s := 32) (S := []) (by decide +kernel) (by decide +kernel) hne fun p hp => (sp_free (h p hp)).1
theorem arg_ok {xs kn : List Str} (hx : ∀ x ∈ xs, x ∈ kn) (h3 : xs.length ≤ 3) : argB (if xs = [] then [] else ("of" : Str) :: xs) kn = true ∧ (if xs = [] then [] else ("of" : Str) :: xs).drop 1 = xs := by
  by_cases e : xs = []
  · subst e; exact ⟨rfl, rfl⟩
  · rw [if_neg e]
    have h1 : 1 ≤ xs.length := List.length_pos_iff.mpr e
    refine ⟨?_, rfl⟩
    simp only [argB, decide_true, decide_eq_true h1, decide_eq_true h3, Bool.true_and, List.all_eq_true, decide_eq_true_eq]
    exact hx
theorem step_words {k : Sk} {kn : List Str} (g : Good kn k) : stepO k.words kn = some k := by
  obtain ⟨g1, g2, g3, g4⟩ := g
  have nb : ∀ {z : Str}, isNm z → nmB z = true := fun h => h
  have ne1 : ("write" : Str) ≠ "read" := by decide +kernel
  cases k with
  | rd s l =>
    have c1 : hR (Sk.words (.rd s l)) := ⟨rfl, rfl, rfl⟩
    rw [stepO, if_pos c1]
    show mkR s l = _
    rw [mkR, if_pos (by rw [nb (g1 s (by simp [Sk.src])), nb (g1 l (by simp [Sk.loc]))]; rfl)]
  | wr t f xs =>
    have c1 : ¬ hR (Sk.words (.wr t f xs)) := fun h => ne1 h.2.1
    have c2 : hW (Sk.words (.wr t f xs)) := ⟨by show 4 ≤ (wrT t f xs).length; unfold wrT; simp, rfl, rfl⟩
    rw [stepO, if_neg c1, if_pos c2]
    obtain ⟨a1, a2⟩ := arg_ok (xs := xs) (kn := kn) (fun x hx => by simpa [Sk.loc] using g3 x hx) g4
    show mkW t f (if xs = [] then [] else ("of" : Str) :: xs) kn = _
    rw [mkW, if_pos (by rw [nb (g1 t (by simp [Sk.tgt])), nb (g2 f rfl), a1]; rfl), a2]
  | rw s l t f xs =>
    have c1 : ¬ hR (Sk.words (.rw s l t f xs)) := fun h => by
      have h1 : ([("read" : Str), s, "as", l] ++ wrT t f xs).length = 4 := h.1
      rw [List.length_append] at h1
      have h2 : 4 ≤ (wrT t f xs).length := by unfold wrT; simp
      simp only [List.length_cons, List.length_nil] at h1
      omega
    have c2 : ¬ hW (Sk.words (.rw s l t f xs)) := fun h => ne1 h.2.1.symm
    have c3 : hB (Sk.words (.rw s l t f xs)) := ⟨by show 8 ≤ ([("read" : Str), s, "as", l] ++ wrT t f xs).length; unfold wrT; simp, rfl, rfl, rfl, rfl⟩
    rw [stepO, if_neg c1, if_neg c2, if_pos c3]
    obtain ⟨a1, a2⟩ := arg_ok (xs := xs) (kn := kn ++ [l]) (fun x hx => by simpa [Sk.loc] using g3 x hx) g4
    show mkB (mkR s l) (mkW t f (if xs = [] then [] else ("of" : Str) :: xs) (kn ++ [l])) = _
    rw [mkR, if_pos (by rw [nb (g1 s (by simp [Sk.src])), nb (g1 l (by simp [Sk.loc]))]; rfl), mkW, if_pos (by rw [nb (g1 t (by simp [Sk.tgt])), nb (g2 f rfl), a1]; rfl), a2]
    rfl
theorem words_ne (k : Sk) : k.words ≠ [] := by
  cases k <;> simp [Sk.words, wrT]
theorem steps_words : ∀ {ks : List Sk} {kn : List Str}, GoodS kn ks → (∀ z ∈ kn, isNm z) → stepsO (ks.map fun k => Txt.join " " k.words) kn = some ks
  | [], _, _, _ => rfl
  | k :: r, kn, ⟨h0, hr⟩, hk => by
    have e1 : stepO (Txt.split (Txt.join " " k.words) " ") kn = some k := by rw [split_words (words_nm h0 hk) (words_ne k)]; exact step_words h0
    have e2 := steps_words hr fun z hz => (List.mem_append.mp hz).elim (hk z) fun h => h0.1 z (by simp [h])
    simp only [List.map_cons, stepsO, e1, e2]
end
end U
set_option Elab.async false
set_option linter.all false
set_option maxRecDepth 100000
set_option maxHeartbeats 4000000
set_option pp.deepTerms true
set_option pp.maxSteps 400000
namespace U
open PySem PySem.Spec PyProof.Rows L2 UL UX
local macro_rules | `(tactic| walk_at "rd") => `(tactic| simp only [sMatch, tJs, tFmt, tBC, tMethA, tMakeL, iEnumS, tSeq, tAsg, tOp, tCB, tCons, tNil, tVar, tC, tB, tTest, tNot, tIfS, tNext, tYes, tUn, rU, tM0, tGFrom, tGThen, tG0, tYfLst, gcxK, tSubO, tProp, tListG, tMethG, tBMF, tFld, sFld, tMeth, tMake, tSl, tNoPart, tPart, tM1, gTup, gCons, gNil, tDrop, tFor_eq, tLc_eq, tLc2_eq, iRng1_eq, StX.tStar, iList, iTup, iStr, iAny_var, iZipB, tLenSetS, wipe, tVar, tAndV, tOrV, tNotV, tOr, tAnd, tLst, tTup, tBM, tBM0, tChain, tCall, cxK, noxK, addII, addSS, mulII, eqII, neII, neSS, cIntI, cAbsI, rI, rI0, rLt, rLe, rGt_, rGe_, rSub_, rMod, rPow, rDivW, rNeg, gName, tRet, L2.start, List.length_cons, List.length_nil, List.map_cons, List.map_nil, List.replicate, List.cons_append, List.nil_append, List.getElem?_cons_zero, List.getElem?_cons_succ, List.set_cons_zero, List.set_cons_succ, Option.some.injEq, exists_eq_left', exists_eq_left, V.int.injEq, V.bl.injEq, V.str.injEq, V.ref.injEq, V.ty.injEq, List.cons.injEq, and_true, true_and, reduceCtorEq, false_and, exists_false, or_false, false_or, exists_and_left, exists_and_right, List.append_nil, forall_eq, decide_eq_true_eq, Bool.not_eq_true, Nat.reduceAdd, Nat.reduceSub, List.replicate_zero, List.replicate_succ, Nat.zero_le, ite_true, ite_false, if_true, if_false])
section
variable {P : Program} {w : World} {K : PySem.W.Frag} {mg : Str → Option Value} {base : Heap}
open UV UW NdefX ClX
variable {R Wr B Pg Sy IC UC IS UP : Addr}
/-- a number of a written list, drawn -/
theorem pickL {p : Addr} {H : Hp} {R : VK} {E : XK} {ls : List Nat} {m : Int} (hp : Pl H p) (hn : ls ≠ []) (hs : ls.length ≤ 16) (hm : m = ls.length) (q : ∀ (c : Nat) H', c ∈ ls → Pl H' p → But p H H' → R (.int c) H') :
    ls.length ≤ sizeLine ∧ ∀ l, H l = none → sp_draw [.ref p, .int m] (upd H l (.lst (ls.map fun n => V.int (n : Nat)))) (fun y H2 => rIx K (.ref l) y H2 R) E := by
  have h1 : 1 ≤ ls.length := List.length_pos_iff.mpr hn
  refine ⟨by rw [sizeLine_eq]; omega, fun l hl => drawI (by omega) (hp.put (hp.ne hl)) fun r H1 r0 r3 hp1 b1 => ?_⟩
  have hl1 := b1 _ _ upd_same (Ne.symm (hp.ne hl))
  obtain ⟨n, rfl⟩ := Int.eq_ofNat_of_zero_le r0
  have hlt : n < ls.length := by omega
  exact ixL (.inl (.inl hl1)) (show atI _ ((n : Nat) : Int) = some (.int (ls[n] : Nat)) from atN (by rw [List.getElem?_map]; simp [hlt])) (q _ _ (List.getElem_mem hlt) hp1 (But.tr (UL.Same.but (UL.Same.new hl)) b1))
/-- xs[draw(len(xs))] -/
theorem drawAt {K : PySem.W.Frag} {p a : Addr} {H : Hp} {R : VK} {E : XK} {xs : List V} (hp : Pl H p) (ha : H a = some (.lst xs)) (nap : a ≠ p) (hn : xs ≠ []) (q : ∀ x H', x ∈ xs → Pl H' p → But p H H' → R x H') : cLen K [.ref a] H fun n H1 => sp_draw [.ref p, n] H1 (fun y H2 => rIx K (.ref a) y H2 R) E := by
  have h1 : 1 ≤ xs.length := List.length_pos_iff.mpr hn
  refine lenL (.inl (.inl ha)) (drawI (by omega) hp fun r H1 r0 r3 hp1 b1 => ?_)
  obtain ⟨n, rfl⟩ := Int.eq_ofNat_of_zero_le r0
  have hlt : n < xs.length := by omega
  exact ixL (.inl (.inl (b1 _ _ ha nap))) (atN (List.getElem?_eq_getElem hlt)) (q _ _ (List.getElem_mem hlt) hp1 b1)
/-- a row of the law: the program's name and its steps -/
structure Rw where
  r : Addr
  sl : Addr
  n : Str
  rs : List Addr
  ks : List Sk
def RwH (H : Hp) (q : Rw) : Prop := H q.r = some (.tup [.str q.n, .ref q.sl]) ∧ H q.sl = some (.lst (q.rs.map V.ref)) ∧ Paired (fun t k => RowA H t k) q.rs q.ks
def RwG (cs fs : List Str) (q : Rw) : Prop := isNm q.n ∧ GoodS [] q.ks ∧ (∀ k ∈ q.ks, InS cs fs k) ∧ q.ks.length ≤ 4
theorem RwH.same {H H' : Hp} {q : Rw} (h : RwH H q) (s : Same H H') : RwH H' q := ⟨s _ _ h.1, s _ _ h.2.1, L2.Paired.mapP h.2.2 fun _ _ g => RowA.same s g⟩
theorem RwH.but {H H' : Hp} {p : Addr} {q : Rw} (h : RwH H q) (hp : Pl H p) (n : q.sl ≠ p) (s : But p H H') : RwH H' q := by
  obtain ⟨a, b, c⟩ := h
  refine ⟨s _ _ a fun e => ?_, s _ _ b n, L2.Paired.mapP c fun _ _ g => RowA.but hp s g⟩
  obtain ⟨ms, hm⟩ := hp
  rw [e, hm] at a; cases a
theorem RwH.put {H : Hp} {l : Addr} {zs : List V} {o : HO} {q : Rw} (h : RwH H q) (hl : H l = some (.lst zs)) (n : q.sl ≠ l) : RwH (upd H l o) q := by
  obtain ⟨a, b, c⟩ := h
  exact ⟨by rw [upd_ne fun e => by rw [e, hl] at a; cases a]; exact a, by rw [upd_ne n]; exact b, L2.Paired.mapP c fun _ _ g => RowA.put hl g⟩
abbrev s__law_programs : Stmt := top 60
abbrev sc__law_programs_N : List Str := ["_law_pool_here", "_law_cells_here", "_law_functions_here", "_law_menu", "_law_words", "_law_names_here", "_law_programs_here", "_law_name", "_law_count"]
theorem sc__law_programs : FnScope sc__law_programs_N ["_law_pool_here", "_law_cells_here", "_law_functions_here", "_law_menu"] (defScope s__law_programs) := ⟨rfl, rfl, rfl, by decide +kernel, rfl, by decide +kernel, by decide +kernel⟩
-- 0 _law_pool_here, 1 _law_cells_here, 2 _law_functions_here, 3 _law_menu, 4 _law_words, 5 _law_names_here, 6 _law_programs_here, 7 _law_name, 8 _law_count
def sp_lprogs : Sp := fun vs H Q _ => ∃ (p a c m : Addr) (cs fs : List Str) (mn : List Nat), vs = [.ref p, .ref a, .ref c, .ref m] ∧ Pl H p ∧ H a = some (.lst (cs.map V.str)) ∧ H c = some (.lst (fs.map V.str)) ∧ H m = some (.lst (mn.map fun (n : Nat) => V.int n)) ∧ p ≠ a ∧ p ≠ c ∧ p ≠ m ∧ mn ≠ [] ∧ (∀ n ∈ mn, n ≤ 4) ∧
  1 ≤ cs.length ∧ cs.length ≤ 3 ∧ 2 ≤ fs.length ∧ fs.length ≤ 5 ∧ (∀ z ∈ cs, isNm z) ∧ (∀ z ∈ fs, isNm z) ∧
  ∀ (r : Addr) (qs : List Rw) H', H r = none → H' r = some (.lst (qs.map fun q => V.ref q.r)) → (∀ q ∈ qs, RwH H' q ∧ RwG cs fs q ∧ q.sl ∉ [p, r]) → qs.length ≤ 4 → (qs.map (·.n)).Nodup → Pl H' p → But p H H' → Q (.ref r) H'
theorem d_lprogs (T : Nm mg) (D : TD K mg "_law_programs" s__law_programs) (d__law_draw : Dn P w K mg base CX0 1 "_law_draw" sp_draw) (d__law_names : Dn P w K mg base CX0 2 "_law_names" sp_names0) (d__law_steps : Dn P w K mg base CX0 3 "_law_steps" (sp_lsteps K)) : Dn P w K mg base CX0 4 "_law_programs" sp_lprogs := by
  refine D.dn sc__law_programs (fun _ _ _ _ _ _ us hl => match us, hl with | [_, _, _, _], _ => rfl) (fun vs H Q E h => ?_) (fun f cdv A outer s H vs Q E hr h => ?_)
  · obtain ⟨p, a, c, m, cs, fs, mn, rfl, _⟩ := h; rfl
  · obtain ⟨p, a, c, m, cs, fs, mn, rfl, hp, ha, hc, hm, na, nc, nm, mn0, mn4, c1, c3, f2, f5, ic, iff, q⟩ := h
    refine ⟨_, (pss_cons (ps_set (i := 4) sc__law_programs.nd rfl (Or.inl rfl) (pe_d d__law_names hr (by decide) pass0 (by rfl) (pa_cons (pv 0) (pa_cons (pe_ix ix_seq (pe_lst (pa_cons pe_int (pa_cons pe_int (pa_cons pe_int pa_nil)))) (pe_d d__law_draw hr (by decide) pass0 (by rfl) (pa_cons (pv 0) (pa_cons pe_int pa_nil))) (fun _ _ => rfl)) pa_nil))))
      (pss_cons (ps_set (i := 5) sc__law_programs.nd rfl (Or.inl rfl) (pe_d d__law_names hr (by decide) pass0 (by rfl) (pa_cons (pv 0) (pa_cons (pe_ix ix_seq (pe_lst (pa_cons pe_int (pa_cons pe_int (pa_cons pe_int (pa_cons pe_int (pa_cons pe_int pa_nil)))))) (pe_d d__law_draw hr (by decide) pass0 (by rfl) (pa_cons (pv 0) (pa_cons pe_int pa_nil))) (fun _ _ => rfl)) pa_nil))))
      (pss_cons (ps_set (i := 6) sc__law_programs.nd rfl (Or.inl rfl) (pe_lst pa_nil))
      (pss_cons (ps_for PassesOwn.never rfl (pi_list (pv 5)) (pg_name (i := 7) sc__law_programs.nd rfl (Or.inl rfl)) (pss_cons (ps_set (i := 8) sc__law_programs.nd rfl (Or.inl rfl) (pe_ix ix_seq (pv 3) (pe_d d__law_draw hr (by decide) pass0 (by rfl) (pa_cons (pv 0) (pa_cons (pe_callB call_lenA (by rfl) T.n_len (by decide +kernel) (pa_cons (pv 3) pa_nil)) pa_nil))) (fun _ _ => rfl)))
      (pss_one (ps_expr (pe_bm PySem.F.plainAttrs_list PySem.F.slot_list_append PySem.F.type_list_append mt_append (pv 6) (pa_cons (pe_tup (pa_cons (pv 7) (pa_cons (pe_d d__law_steps hr (by decide) pass0 (by rfl) (pa_cons (pv 0) (pa_cons (pv 1) (pa_cons (pv 4) (pa_cons (pv 2) (pa_cons (pv 8) pa_nil)))))) pa_nil))) pa_nil))))))
      (pss_one (ps_ret (pv 6))))))), ?_⟩
    walk_at "rd"
    refine pickL (ls := [1, 2, 3]) hp (by decide) (by decide) rfl fun w0 H1 hw0 hp1 b1 => ?_
    have w13 : 1 ≤ w0 ∧ w0 ≤ 3 := by
      simp only [List.mem_cons, List.not_mem_nil, or_false] at hw0
      omega
    refine ⟨p, w0, rfl, hp1, by omega, fun wl H2 ws wsl wsn wsd hwl0 hwl hp2 b2 => ?_⟩
    have b02 := But.tr b1 b2
    refine pickL (ls := [2, 3, 1, 4, 0]) hp2 (by decide) (by decide) rfl fun n0 H3 hn0 hp3 b3 => ?_
    have n04 : n0 ≤ 4 := by
      simp only [List.mem_cons, List.not_mem_nil, or_false] at hn0
      omega
    have b03 := But.tr b02 b3
    refine ⟨p, n0, rfl, hp3, by omega, fun nl H4 xs xsl xsn xsd hnl0 hnl hp4 b4 => fun l hl => ?_⟩
    have b04 := But.tr b03 b4
    have wlp : wl ≠ p := fun e => by obtain ⟨ms, e2⟩ := hp1; rw [e, e2] at hwl0; cases hwl0
    have nlp : nl ≠ p := fun e => by obtain ⟨ms, e2⟩ := hp3; rw [e, e2] at hnl0; cases hnl0
    have lp : l ≠ p := Ne.symm (hp4.ne hl)
    have hw4 : H4 wl = some (.lst (ws.map V.str)) := b4 _ _ (b3 _ _ hwl wlp) wlp
    have s45 : Same H4 (upd H4 l (.lst [])) := UL.Same.new hl
    have nll : nl ≠ l := ne_of_none hnl hl
    have wll : wl ≠ l := ne_of_none hw4 hl
    have lH : H l = none := But.free' b04 hp4 hl
    refine ⟨nl, rfl, ⟨_, .inl (.inl (s45 _ _ hnl))⟩, FJ.list (xs := xs.map V.str) (fun i σ' H' => ∃ (qs : List Rw) (z7 z8 : Option V), σ' = [some (.ref p), some (.ref a), some (.ref c), some (.ref m), some (.ref wl), some (.ref nl), some (.ref l), z7, z8] ∧ H' l = some (.lst (qs.map fun q => V.ref q.r)) ∧ (∀ q ∈ qs, RwH H' q ∧ RwG cs fs q ∧ q.sl ∉ [p, l]) ∧ qs.map (·.n) = xs.take i ∧ Pl H' p ∧ But p H H' ∧ H' nl = some (.lst (xs.map V.str)) ∧ H' wl = some (.lst (ws.map V.str))) ⟨[], _, _, rfl, upd_same, (fun q hq => absurd hq (by simp)), rfl, hp4.put (Ne.symm lp), But.tr b04 (UL.Same.but s45), s45 _ _ hnl, s45 _ _ hw4⟩ (fun i σ' H' _ inv => ?_) (fun i x σ' H' hx inv => ?_) fun σ' H' inv => ?_⟩
    · obtain ⟨qs, z7, z8, rfl, h1, h2, h3, h4, h5, h6, h7⟩ := inv
      exact .inl (.inl h6)
    · obtain ⟨qs, z7, z8, rfl, h1, h2, h3, h4, h5, h6, h7⟩ := inv
      walk_at "rd"
      rw [List.getElem?_map] at hx
      cases hxi : xs[i]? with
      | none => rw [hxi] at hx; cases hx
      | some nm0 =>
        rw [hxi] at hx
        cases hx
        have il : i < xs.length := (List.getElem?_eq_some_iff.mp hxi).1
        have lq : qs.length = i := by
          have := congrArg List.length h3
          rw [List.length_map, List.length_take] at this
          omega
        refine drawAt h4 (h5 _ _ hm (Ne.symm nm)) (Ne.symm nm) (fun e => mn0 (by cases mn with | nil => rfl | cons x r => cases e)) fun x H5 hx hp5 b5 => ?_
        obtain ⟨k, hk, rfl⟩ := List.mem_map.mp hx
        have b05 := But.tr h5 b5
        refine ⟨.inl ⟨rfl, _, .inl (.inl (b5 _ _ h1 lp))⟩, p, a, wl, c, k, cs, ws, fs, rfl, mn4 k hk, hp5, b05 _ _ ha (Ne.symm na), b5 _ _ h7 wlp, b05 _ _ hc (Ne.symm nc), na, Ne.symm wlp, nc, c1, c3, by omega, by omega, f2, f5, ic, wsn, iff, fun sl ks rs H6 hsl0 hsl hrs hg hin hkl hp6 b6 => ⟨by rw [sizeLine_eq]; decide, fun t ht => ?_⟩⟩
        have b06 := But.tr b05 b6
        have s67 : Same H6 (upd H6 t (.tup [.str nm0, .ref sl])) := UL.Same.new ht
        have hl6 := b6 _ _ (b5 _ _ h1 lp) lp
        have hl7 := s67 _ _ hl6
        have slp : sl ≠ p := fun e => by obtain ⟨ms, e2⟩ := hp5; rw [e, e2] at hsl0; cases hsl0
        have sll : sl ≠ l := fun e => by rw [e, b5 _ _ h1 lp] at hsl0; cases hsl0
        have tl : t ≠ l := fun e => by rw [e, hl6] at ht; cases ht
        refine ⟨l, _, _, rfl, rfl, hl7, by rw [List.length_map, sizeLine_eq]; omega, ⟨_, rfl⟩, qs ++ [⟨t, sl, nm0, rs, ks⟩], by rw [upd_same, List.map_append]; rfl, fun q1 hq1 => ?_, ?_, (hp6.same s67).put (Ne.symm lp), ?_, ?_, ?_⟩
        · rcases List.mem_append.mp hq1 with h | h
          · obtain ⟨g1, g2, g3⟩ := h2 q1 h
            have nsp : q1.sl ≠ p := fun e => g3 (by simp [e])
            have nsl : q1.sl ≠ l := fun e => g3 (by simp [e])
            exact ⟨((((g1.but h4 nsp b5).but hp5 nsp b6).same s67).put hl7 nsl), g2, g3⟩
          · rw [List.mem_singleton.mp h]
            have g1 : RwH (upd H6 t (.tup [.str nm0, .ref sl])) ⟨t, sl, nm0, rs, ks⟩ := ⟨upd_same, s67 _ _ hsl, L2.Paired.mapP hrs fun _ _ g => RowA.same s67 g⟩
            exact ⟨g1.put hl7 sll, ⟨xsn nm0 (List.mem_of_getElem? hxi), hg, hin, by have := mn4 k hk; show ks.length ≤ 4; omega⟩, by simp [slp, sll]⟩
        · rw [List.map_append, h3, List.take_add_one, hxi]; rfl
        · intro c0 o e n
          rw [upd_ne (ne_of_none e lH)]
          exact s67 _ _ (b06 _ _ e n)
        · rw [upd_ne nll]; exact s67 _ _ (b6 _ _ (b5 _ _ h6 nlp) nlp)
        · rw [upd_ne wll]; exact s67 _ _ (b6 _ _ (b5 _ _ h7 wlp) wlp)
    · obtain ⟨qs, z7, z8, rfl, h1, h2, h3, h4, h5, h6, h7⟩ := inv
      rw [List.length_map, List.take_length] at h3
      walk_at "rd"
      exact q l qs _ lH h1 h2 (by have := congrArg List.length h3; rw [List.length_map] at this; omega) (by rw [h3]; exact xsd) h4 h5
end
end U
set_option Elab.async false
set_option linter.all false
set_option maxRecDepth 100000
set_option maxHeartbeats 4000000
set_option pp.deepTerms true
set_option pp.maxSteps 400000
namespace U
open PySem PySem.Spec PyProof.Rows L2 UL UX
local macro_rules | `(tactic| walk_at "rd") => `(tactic| simp only [sMatch, tJs, tFmt, tBC, tMethA, tMakeL, iEnumS, tSeq, tAsg, tOp, tCB, tCons, tNil, tVar, tC, tB, tTest, tNot, tIfS, tNext, tYes, tUn, rU, tM0, tGFrom, tGThen, tG0, tYfLst, gcxK, tSubO, tProp, tListG, tMethG, tBMF, tFld, sFld, tMeth, tMake, tSl, tNoPart, tPart, tM1, gTup, gCons, gNil, tDrop, tFor_eq, tLc_eq, tLc2_eq, iRng1_eq, StX.tStar, iList, iTup, iStr, iAny_var, iZipB, tLenSetS, wipe, tVar, tAndV, tOrV, tNotV, tOr, tAnd, tLst, tTup, tBM, tBM0, tChain, tCall, cxK, noxK, addII, addSS, mulII, eqII, neII, neSS, cIntI, cAbsI, rI, rI0, rLt, rLe, rGt_, rGe_, rSub_, rMod, rPow, rDivW, rNeg, gName, tRet, L2.start, List.length_cons, List.length_nil, List.map_cons, List.map_nil, List.replicate, List.cons_append, List.nil_append, List.getElem?_cons_zero, List.getElem?_cons_succ, List.set_cons_zero, List.set_cons_succ, Option.some.injEq, exists_eq_left', exists_eq_left, V.int.injEq, V.bl.injEq, V.str.injEq, V.ref.injEq, V.ty.injEq, List.cons.injEq, and_true, true_and, reduceCtorEq, false_and, exists_false, or_false, false_or, exists_and_left, exists_and_right, List.append_nil, forall_eq, decide_eq_true_eq, Bool.not_eq_true, Nat.reduceAdd, Nat.reduceSub, List.replicate_zero, List.replicate_succ, Nat.zero_le, ite_true, ite_false, if_true, if_false])
section
variable {P : Program} {w : World} {K : PySem.W.Frag} {mg : Str → Option Value} {base : Heap}
open UV UW NdefX ClX
variable {R Wr B Pg Sy IC UC IS UP : Addr}
theorem e_prog : ("program " : Str) = ("program" : Str) ++ (" " : Str) := by decide +kernel
theorem prog_join (n : Str) : ("program " : Str) ++ n = Txt.join " " [("program" : Str), n] := by
  rw [_root_.TL.join_eq, e_prog]; rfl
theorem join_no {c : Nat} (hc : c ≠ 32) : ∀ {ws : List Str}, (∀ x ∈ ws, c ∉ x.cps.toList) → c ∉ (Txt.join " " ws).cps.toList := by
  have hsp : c ∉ (" " : Str).cps.toList := by
    have e : (" " : Str).cps.toList = [32] := by decide +kernel
    rw [e]; simpa using hc
  have ap : ∀ x y : Str, c ∉ x.cps.toList → c ∉ y.cps.toList → c ∉ (x ++ y).cps.toList := fun x y hx hy => by
    show c ∉ (x.cps ++ y.cps).toList
    rw [Array.toList_append, List.mem_append]
    exact fun q => q.elim hx hy
  intro ws h
  rw [_root_.TL.join_eq]
  induction ws with
  | nil => show c ∉ (Str.empty).cps.toList; simp [Str.empty]
  | cons x r ih =>
    cases r with
    | nil => exact h x List.mem_cons_self
    | cons z r => exact ap _ _ (ap _ _ (h x List.mem_cons_self) hsp) (ih fun y hy => h y (List.mem_cons_of_mem _ hy))
theorem GoodS.each : ∀ {ks : List Sk} {kn : List Str}, GoodS kn ks → (∀ z ∈ kn, isNm z) → ∀ k ∈ ks, (∀ x ∈ k.words, isNm x) ∧ k.args.length ≤ 3 ∧ ∀ x ∈ k.args, isNm x
  | k :: r, kn, ⟨h0, hr⟩, hk, k', hm => by
    rcases List.mem_cons.mp hm with rfl | hm
    · exact ⟨words_nm h0 hk, h0.2.2.2, fun x hx => (List.mem_append.mp (h0.2.2.1 x hx)).elim (hk x) fun h => h0.1 x (by simp [h])⟩
    · exact GoodS.each hr (fun z hz => (List.mem_append.mp hz).elim (hk z) fun h => h0.1 z (by simp [h])) k' hm
theorem small_of {k : Sk} (h : ∀ x ∈ k.words, isNm x) (h3 : k.args.length ≤ 3) : k.small := by
  have l8 : ∀ x ∈ k.words, x.length ≤ 1000 := fun x hx => Nat.le_trans (nm_len (h x hx)) (by decide)
  have wr : ∀ {t f : Str} {xs : List Str}, (∀ x ∈ wrT t f xs, x.length ≤ 1000) → xs.length ≤ 3 → t.length ≤ 1000 ∧ f.length ≤ 1000 ∧ (∀ x ∈ xs, x.length ≤ 1000) ∧ xs.length ≤ 100 := fun {t f xs} h h3 => by
    refine ⟨h t (by simp [wrT]), h f (by simp [wrT]), fun x hx => h x ?_, by omega⟩
    unfold wrT
    have e : xs ≠ [] := fun e => by rw [e] at hx; cases hx
    rw [if_neg e]; simp [hx]
  cases k with
  | rd s l => exact ⟨l8 s (by simp [Sk.words]), l8 l (by simp [Sk.words])⟩
  | wr t f xs => exact wr l8 h3
  | rw s l t f xs => exact ⟨⟨l8 s (by simp [Sk.words]), l8 l (by simp [Sk.words])⟩, wr (fun x hx => l8 x (by simp only [Sk.words, List.mem_append]; exact .inr hx)) h3⟩
theorem line_le2 {ws : List Str} (h : ∀ x ∈ ws, isNm x) (hn : ws.length ≤ 12) : (Txt.join " " ws).length ≤ 120 := by
  rw [_root_.TL.join_eq]
  have h0 := join_len " " ws
  have h2 := sum_le (m := 8) fun x hx => nm_len (h x hx)
  rw [l_sp] at h0
  omega
theorem text_le {n : Str} {ks : List Sk} (hn : isNm n) (h : ∀ k ∈ ks, (∀ x ∈ k.words, isNm x) ∧ k.words.length ≤ 12) (hl : ks.length ≤ 4) : (Txt.join "\n" (("program " ++ n) :: ks.map fun k => Txt.join " " k.words)).length ≤ 10000 := by
  rw [_root_.TL.join_eq]
  have l8 : ("program " : Str).length = 8 := by decide +kernel
  have l1 : ("\n" : Str).length = 1 := by decide +kernel
  have h0 := join_len "\n" (("program " ++ n) :: ks.map fun k => Txt.join " " k.words)
  have h2 := sum_le (m := 120) (l := ("program " ++ n) :: ks.map fun k => Txt.join " " k.words) fun x hx => by
    rcases List.mem_cons.mp hx with rfl | hx
    · have := nm_len hn; rw [len_app, l8]; omega
    · obtain ⟨k, hk, rfl⟩ := List.mem_map.mp hx
      exact line_le2 (h k hk).1 (h k hk).2
  rw [l1, List.length_cons, List.length_map] at h0
  rw [List.length_cons, List.length_map] at h2
  omega
theorem nm_program : isNm "program" := by show nmB _ = true; decide +kernel
/-- the comprehension over one item, None left out -/
def sp_funsN : Sp := fun vs H Q _ => ∃ p : Addr, vs = [.ref p] ∧ Pl H p ∧ ∀ q H' (xs : List Str), 2 ≤ xs.length → xs.length ≤ 5 → (∀ z ∈ xs, isNm z) → xs.Nodup → H q = none → H' q = some (.lst (xs.map V.str)) → Pl H' p → But p H H' → Q (.ref q) H'
theorem d_funsN (T : Nm mg) (D : TD K mg "_law_functions" s__law_functions) (d__law_draw : Dn P w K mg base CX0 1 "_law_draw" sp_draw) (d__law_names : Dn P w K mg base CX0 2 "_law_names" sp_namesN) : Dn P w K mg base CX0 3 "_law_functions" sp_funsN := by
  refine D.dn sc__law_functions (fun _ _ _ _ _ _ us hl => match us, hl with | [_], _ => rfl) (fun vs H Q E h => ?_) (fun f cdv A outer s H vs Q E hr h => ?_)
  · obtain ⟨p, rfl, _⟩ := h; rfl
  · obtain ⟨p, rfl, hp, q⟩ := h
    refine ⟨_, (pss_one (ps_ret (pe_d d__law_names hr (by decide) pass0 (by rfl) (pa_cons (pv 0) (pa_cons (pe_ix ix_seq (pe_lst (pa_cons pe_int (pa_cons pe_int (pa_cons pe_int (pa_cons pe_int pa_nil))))) (pe_d d__law_draw hr (by decide) pass0 (by rfl) (pa_cons (pv 0) (pa_cons pe_int pa_nil))) (fun _ _ => rfl)) pa_nil))))), ?_⟩
    walk_at "rd"
    refine ⟨by rw [sizeLine_eq]; decide, fun l hl => drawI (by decide) (hp.put (hp.ne hl)) fun r H1 r0 r3 hp1 b1 => ?_⟩
    have hl1 : H1 l = some (.lst [V.int 4, V.int 2, V.int 3, V.int 5]) := b1 _ _ upd_same (Ne.symm (hp.ne hl))
    have b01 : But p H H1 := But.tr (UL.Same.but (UL.Same.new hl)) b1
    have hr3 : r = 0 ∨ r = 1 ∨ r = 2 ∨ r = 3 := by omega
    rcases hr3 with rfl | rfl | rfl | rfl
    · exact ixL (.inl (.inl hl1)) (show atI _ ((0 : Nat) : Int) = some (.int (4 : Nat)) from atN rfl) ⟨p, 4, rfl, hp1, by omega, by omega, fun q0 H2 xs hxl hnm hnd hq h2 hp2 b2 => q q0 H2 xs (by omega) (by omega) hnm hnd (But.free' b01 hp1 hq) h2 hp2 (But.tr b01 b2)⟩
    · exact ixL (.inl (.inl hl1)) (show atI _ ((1 : Nat) : Int) = some (.int (2 : Nat)) from atN rfl) ⟨p, 2, rfl, hp1, by omega, by omega, fun q0 H2 xs hxl hnm hnd hq h2 hp2 b2 => q q0 H2 xs (by omega) (by omega) hnm hnd (But.free' b01 hp1 hq) h2 hp2 (But.tr b01 b2)⟩
    · exact ixL (.inl (.inl hl1)) (show atI _ ((2 : Nat) : Int) = some (.int (3 : Nat)) from atN rfl) ⟨p, 3, rfl, hp1, by omega, by omega, fun q0 H2 xs hxl hnm hnd hq h2 hp2 b2 => q q0 H2 xs (by omega) (by omega) hnm hnd (But.free' b01 hp1 hq) h2 hp2 (But.tr b01 b2)⟩
    · exact ixL (.inl (.inl hl1)) (show atI _ ((3 : Nat) : Int) = some (.int (5 : Nat)) from atN rfl) ⟨p, 5, rfl, hp1, by omega, by omega, fun q0 H2 xs hxl hnm hnd hq h2 hp2 b2 => q q0 H2 xs (by omega) (by omega) hnm hnd (But.free' b01 hp1 hq) h2 hp2 (But.tr b01 b2)⟩
def sp_cellsN : Sp := fun vs H Q _ => ∃ p : Addr, vs = [.ref p] ∧ Pl H p ∧ ∀ q H' (xs : List Str), 1 ≤ xs.length → xs.length ≤ 3 → (∀ z ∈ xs, isNm z) → xs.Nodup → H q = none → H' q = some (.lst (xs.map V.str)) → Pl H' p → But p H H' → Q (.ref q) H'
theorem d_cellsN (T : Nm mg) (D : TD K mg "_law_cells" s__law_cells) (d__law_draw : Dn P w K mg base CX0 1 "_law_draw" sp_draw) (d__law_names : Dn P w K mg base CX0 2 "_law_names" sp_namesN) : Dn P w K mg base CX0 3 "_law_cells" sp_cellsN := by
  refine D.dn sc__law_cells (fun _ _ _ _ _ _ us hl => match us, hl with | [_], _ => rfl) (fun vs H Q E h => ?_) (fun f cdv A outer s H vs Q E hr h => ?_)
  · obtain ⟨p, rfl, _⟩ := h; rfl
  · obtain ⟨p, rfl, hp, q⟩ := h
    refine ⟨_, (pss_one (ps_ret (pe_d d__law_names hr (by decide) pass0 (by rfl) (pa_cons (pv 0) (pa_cons (pe_ix ix_seq (pe_lst (pa_cons pe_int (pa_cons pe_int (pa_cons pe_int pa_nil)))) (pe_d d__law_draw hr (by decide) pass0 (by rfl) (pa_cons (pv 0) (pa_cons pe_int pa_nil))) (fun _ _ => rfl)) pa_nil))))), ?_⟩
    walk_at "rd"
    refine ⟨by rw [sizeLine_eq]; decide, fun l hl => drawI (by decide) (hp.put (hp.ne hl)) fun r H1 r0 r3 hp1 b1 => ?_⟩
    have hl1 : H1 l = some (.lst [V.int 2, V.int 3, V.int 1]) := b1 _ _ upd_same (Ne.symm (hp.ne hl))
    have b01 : But p H H1 := But.tr (UL.Same.but (UL.Same.new hl)) b1
    have hr3 : r = 0 ∨ r = 1 ∨ r = 2 := by omega
    rcases hr3 with rfl | rfl | rfl
    · exact ixL (.inl (.inl hl1)) (show atI _ ((0 : Nat) : Int) = some (.int (2 : Nat)) from atN rfl) ⟨p, 2, rfl, hp1, by omega, by omega, fun q0 H2 xs hxl hnm hnd hq h2 hp2 b2 => q q0 H2 xs (by omega) (by omega) hnm hnd (But.free' b01 hp1 hq) h2 hp2 (But.tr b01 b2)⟩
    · exact ixL (.inl (.inl hl1)) (show atI _ ((1 : Nat) : Int) = some (.int (3 : Nat)) from atN rfl) ⟨p, 3, rfl, hp1, by omega, by omega, fun q0 H2 xs hxl hnm hnd hq h2 hp2 b2 => q q0 H2 xs (by omega) (by omega) hnm hnd (But.free' b01 hp1 hq) h2 hp2 (But.tr b01 b2)⟩
    · exact ixL (.inl (.inl hl1)) (show atI _ ((2 : Nat) : Int) = some (.int (1 : Nat)) from atN rfl) ⟨p, 1, rfl, hp1, by omega, by omega, fun q0 H2 xs hxl hnm hnd hq h2 hp2 b2 => q q0 H2 xs (by omega) (by omega) hnm hnd (But.free' b01 hp1 hq) h2 hp2 (But.tr b01 b2)⟩
/-- a later heap where only lists (and fresh objects without fields) changed -/
theorem StA.keep3 {H H' : Hp} {a : Addr} {k : Sk} (h : StA H R Wr B a k) (off : ∀ c o, H c = some o → (∀ xs, o ≠ .lst xs) → H' c = some o) : StA H' R Wr B a k := by
  cases k with
  | rd s l => obtain ⟨dx, e⟩ := h; exact ⟨dx, off _ _ e (fun _ z => nomatch z)⟩
  | wr t f xs => obtain ⟨dx, p, e, o, e2, d⟩ := h; exact ⟨dx, p, off _ _ e (fun _ z => nomatch z), o, off _ _ e2 (fun _ z => nomatch z), d⟩
  | rw s l t f xs => obtain ⟨dx, p, e, o, e2, d⟩ := h; exact ⟨dx, p, off _ _ e (fun _ z => nomatch z), o, off _ _ e2 (fun _ z => nomatch z), d⟩
theorem PgA.keep3 {H H' : Hp} {a : Addr} {n : Str} {ks : List Sk} (h : PgA H R Wr B Pg a n ks) (off : ∀ c o, H c = some o → (∀ xs, o ≠ .lst xs) → H' c = some o) : PgA H' R Wr B Pg a n ks := by
  obtain ⟨dx, p, ts, e, ⟨o, e2, d⟩, pr⟩ := h
  exact ⟨dx, p, ts, off _ _ e (fun _ z => nomatch z), ⟨o, off _ _ e2 (fun _ z => nomatch z), d⟩, L2.Paired.mapP pr fun _ _ g => StA.keep3 g off⟩
theorem PgA.same {H H' : Hp} {a : Addr} {n : Str} {ks : List Sk} (h : PgA H R Wr B Pg a n ks) (s : Same H H') : PgA H' R Wr B Pg a n ks := h.keep3 fun c o e _ => s c o e
theorem met_nd : ∀ {xs : List Str}, 1 ≤ xs.length → xs.length ≤ 3 → xs.Nodup → (met xs).length = xs.length
  | [a], _, _, _ => by simp [met]
  | [a, b], _, _, h => by
    have h1 : a ≠ b := by simpa using h
    simp [met, Ne.symm h1]
    try (simp [h1])
  | [a, b, c], _, _, h => by
    simp only [List.nodup_cons, List.mem_cons, List.not_mem_nil, or_false, not_or, List.nodup_nil, and_true, not_false_eq_true] at h
    obtain ⟨⟨h1, h2⟩, h3⟩ := h
    simp [met, Ne.symm h1, Ne.symm h2, Ne.symm h3]
    try (simp [h1, h2, h3])
  | _ :: _ :: _ :: _ :: _, _, h, _ => absurd h (by simp only [List.length_cons]; omega)
theorem nms_right {xs : List Str} (h1 : 1 ≤ xs.length) (h3 : xs.length ≤ 3) (hn : ∀ z ∈ xs, isNm z) (nd : xs.Nodup) : nmsB xs = true := by
  unfold nmsB
  rw [decide_eq_true h1, decide_eq_true h3, decide_eq_true (met_nd h1 h3 nd)]
  simp only [Bool.true_and, Bool.and_true, List.all_eq_true]
  exact fun z hz => hn z hz
/-- the text of a row -/
def txR (q : Rw) : Str := Txt.join "\n" (("program " ++ q.n) :: q.ks.map fun k => Txt.join " " k.words)
/-- what a row's text and its reading ask -/
def RwG0 (q : Rw) : Prop := isNm q.n ∧ GoodS [] q.ks ∧ q.ks.length ≤ 4
theorem RwG.g0 {cs fs : List Str} {q : Rw} (g : RwG cs fs q) : RwG0 q := ⟨g.1, g.2.1, g.2.2.2⟩
theorem RwG0.each {q : Rw} (g : RwG0 q) : ∀ k ∈ q.ks, k.small ∧ k.args.length ≤ 3 ∧ ∀ x ∈ k.args, PyData.strOk x = true := fun k hk => by
  have e := GoodS.each g.2.1 (fun z hz => by cases hz) k hk
  exact ⟨small_of e.1 e.2.1, e.2.1, fun x hx => nm_ok (e.2.2 x hx)⟩
/-- _law_text of a row -/
theorem row_text0 {q : Rw} {H : Hp} {Q : VK} {E : XK} (g : RwG0 q) (h : RwH H q) (k : ∀ H', Same H H' → Q (.str (txR q)) H') : sp_ltext [.str q.n, .ref q.sl] H Q E :=
  ⟨q.n, q.sl, q.rs, q.ks, rfl, nm_len g.1, h.2.1, h.2.2, g.2.2, g.each, k⟩
/-- Program.read of a row's text -/
theorem row_read0 {q : Rw} {H : Hp} {Q : VK} {E : XK} (g : RwG0 q) (k : ∀ a H', PgA H' R Wr B Pg a q.n q.ks → Same H H' → Q (.ref a) H') : sp_pread K R Wr B Pg [.ref Pg, .str (txR q)] H Q E := by
  have each := GoodS.each g.2.1 (fun z hz => by cases hz)
  have kl4 := g.2.2
  have each3 : ∀ k ∈ q.ks, (∀ x ∈ k.words, isNm x) ∧ k.words.length ≤ 12 := fun k hk => ⟨(each k hk).1, (words_many (g.each k hk).1 (g.each k hk).2.1).2⟩
  have n8 := nm_len g.1
  have sp1 : Txt.split (Txt.join "\n" (("program " ++ q.n) :: q.ks.map fun k => Txt.join " " k.words)) "\n" = ("program " ++ q.n) :: q.ks.map fun k => Txt.join " " k.words := by
    refine _root_.TL.split_join (y := "\n") (s := 10) (S := []) (by decide +kernel) (by decide +kernel) (by simp) fun z hz => ?_
    rcases List.mem_cons.mp hz with rfl | hz
    · rw [prog_join]
      refine join_no (by decide) fun x hx => ?_
      simp only [List.mem_cons, List.not_mem_nil, or_false] at hx
      rcases hx with rfl | rfl
      · exact (sp_free nm_program).2
      · exact (sp_free g.1).2
    · obtain ⟨k, hk', rfl⟩ := List.mem_map.mp hz
      exact join_no (by decide) fun x hx => (sp_free ((each k hk').1 x hx)).2
  have sp2 : Txt.split ("program " ++ q.n) " " = [("program" : Str), q.n] := by
    rw [prog_join]
    refine split_words (fun x hx => ?_) (by simp)
    simp only [List.mem_cons, List.not_mem_nil, or_false] at hx
    rcases hx with rfl | rfl
    · exact nm_program
    · exact g.1
  have hln : ∀ z ∈ q.ks.map (fun k => Txt.join " " k.words), LnOk z := fun z hz => by
    obtain ⟨k, hk', rfl⟩ := List.mem_map.mp hz
    obtain ⟨e1, e2⟩ := each3 k hk'
    have e3 := line_le2 e1 e2
    refine ⟨by omega, ?_⟩
    rw [split_words e1 (words_ne k)]
    exact ⟨fun x hx => Nat.le_trans (nm_len (e1 x hx)) (by decide), by omega⟩
  have l8 : ("program " : Str).length = 8 := by decide +kernel
  exact ⟨txR q, "program " ++ q.n, q.n, _, q.ks, rfl, text_le g.1 each3 kl4, sp1, sp2, g.1, by rw [len_app, l8]; omega, by omega, by rw [List.length_map]; exact kl4, hln, steps_words g.2.1 (fun z hz => by cases hz), fun a dx p ts H' ha hp hst s => k a H' ⟨dx, p, ts, ha, hp, hst⟩ s⟩
theorem RwG.each {cs fs : List Str} {q : Rw} (g : RwG cs fs q) : ∀ k ∈ q.ks, k.small ∧ k.args.length ≤ 3 ∧ ∀ x ∈ k.args, PyData.strOk x = true := g.g0.each
theorem row_text {cs fs : List Str} {q : Rw} {H : Hp} {Q : VK} {E : XK} (g : RwG cs fs q) (h : RwH H q) (k : ∀ H', Same H H' → Q (.str (txR q)) H') : sp_ltext [.str q.n, .ref q.sl] H Q E := row_text0 g.g0 h k
theorem row_read {cs fs : List Str} {q : Rw} {H : Hp} {Q : VK} {E : XK} (g : RwG cs fs q) (k : ∀ a H', PgA H' R Wr B Pg a q.n q.ks → Same H H' → Q (.ref a) H') : sp_pread K R Wr B Pg [.ref Pg, .str (txR q)] H Q E := row_read0 g.g0 k
end
end U
set_option Elab.async false
set_option linter.all false
set_option maxRecDepth 100000
set_option maxHeartbeats 4000000
/-! own __contains__, __len__, a comparison's own method; d[tuple]; a dict comprehension whose keys are tuples -/
namespace UX
open PySem PySem.Spec PyProof.Rows L2 UL UV UW ClX
end UX
set_option Elab.async false
set_option linter.all false
set_option maxRecDepth 100000
set_option maxHeartbeats 4000000
/-! a dict comprehension whose keys are tuples -/
namespace UX
open PySem PySem.Spec PyProof.Rows L2 UL UV UW ClX
section
variable {X : Cx} {pins : List (Addr × Obj)} {σ : L2.St} {s : Shared}
/-- what the comprehension wants of its dict at D -/
def DT (J : It) (g : TG) (tt : TT) (tk tv : TE) (vs : List Nat) (σ : L2.St) (D : Addr) (Qd : Hp → Prop) (H1 : Hp) : Prop := ∃ W : Nat → Nat → Hp → Prop, (∃ m, W 0 m (upd H1 D (.dT []))) ∧ ∀ i m H, W i m H →
  (J.stop i H ∧ Qd H) ∨ (J.go i H ∧ ∃ Nx : Hp → Prop, (∀ H', Nx H' → ∃ m', m' < m ∧ W (i + 1) m' H') ∧ ∀ x H', J.yld i H x H' → g x (wipe σ vs) H' fun σ2 H2 => wipe σ2 vs = wipe σ vs ∧ tt σ2 H2 fun b H3 =>
    if b = true then tk σ2 H3 fun y H4 => tv σ2 H4 fun z H5 => ∃ H6, DPut H5 D y z H6 ∧ Nx H6 else Nx H3)
end
end UX
set_option Elab.async false
set_option linter.all false
set_option maxRecDepth 100000
set_option maxHeartbeats 4000000
/-! plain data at a later heap; data compared -/
namespace UX
open PySem PySem.Spec PyProof.Rows L2 UL UV UW ClX
variable {K : PySem.W.Frag} {H H' : Hp}
theorem dpa_strs : ∀ {xs : List Str}, DpAll K H (xs.map V.str) (xs.map PyData.str)
  | [] => .nil
  | x :: r => .cons (.str x) dpa_strs
theorem dpa_ints : ∀ {xs : List Int}, DpAll K H (xs.map V.int) (xs.map PyData.int)
  | [] => .nil
  | x :: r => .cons (.int x) dpa_ints
/-- may stand in a comparison, at most n deep -/
def Sh (n : Nat) (d : PyData) : Prop := PyData.canLay0 d = true ∧ PyData.depth d ≤ n
theorem Sh.shaped {n : Nat} {d : PyData} (h : Sh n d) (hn : n ≤ 64) : SeqAt.shaped d = true := by
  show (_ && _) = true
  rw [h.1, decide_eq_true (Nat.le_trans h.2 hn)]; rfl
theorem Sh.int (i : Int) : Sh 0 (.int i) := ⟨by simp [PyData.canLay0], by simp [PyData.depth]⟩
theorem Sh.non : Sh 0 .none := ⟨by simp [PyData.canLay0], by simp [PyData.depth]⟩
theorem Sh.bl (b : Bool) : Sh 0 (.bool b) := ⟨by simp [PyData.canLay0], by simp [PyData.depth]⟩
theorem Sh.str {x : Str} (h : PyData.strOk x = true) : Sh 0 (.str x) := ⟨by simpa [PyData.canLay0] using h, by simp [PyData.depth]⟩
theorem Sh.all {n : Nat} : ∀ {ds : List PyData}, (∀ d ∈ ds, Sh n d) → PyData.canLayAll0 ds = true ∧ PyData.depthAll ds ≤ n
  | [], _ => by simp [PyData.canLayAll0, PyData.depthAll]
  | d :: r, h => by
    have h1 := h d List.mem_cons_self
    have h2 := Sh.all (n := n) (ds := r) fun x hx => h x (List.mem_cons_of_mem _ hx)
    simp only [PyData.canLayAll0, PyData.depthAll, h1.1, h2.1, Bool.and_self, true_and]
    have := h1.2
    have := h2.2
    omega
theorem Sh.tup {n : Nat} {ds : List PyData} (h : ∀ d ∈ ds, Sh n d) : Sh (n + 1) (.tuple ds) := by
  have h := Sh.all h
  refine ⟨by rw [PyData.canLay0]; exact h.1, by rw [PyData.depth]; have := h.2; omega⟩
theorem Sh.lst {n : Nat} {ds : List PyData} (h : ∀ d ∈ ds, Sh n d) : Sh (n + 1) (.list ds) := by
  have h := Sh.all h
  refine ⟨by rw [PyData.canLay0]; exact h.1, by rw [PyData.depth]; have := h.2; omega⟩
theorem Sh.mono {n m : Nat} {d : PyData} (h : Sh n d) (l : n ≤ m) : Sh m d := ⟨h.1, Nat.le_trans h.2 l⟩
theorem sh_ints {xs : List Int} : ∀ d ∈ xs.map PyData.int, Sh 0 d := fun d hd => by
  obtain ⟨x, _, rfl⟩ := List.mem_map.mp hd
  exact Sh.int x
theorem cut_from (xs : List V) (n : Nat) : cutV xs (some (n : Int)) none = xs.drop n := by
  unfold cutV
  rw [HT.sIx_nat, HT.sIx_none]
  by_cases h : n ≤ xs.length
  · rw [Nat.min_eq_left h]; exact List.take_of_length_le (by rw [List.length_drop]; omega)
  · rw [Nat.min_eq_right (by omega), List.drop_eq_nil_of_le (Nat.le_refl _), List.drop_eq_nil_of_le (by omega)]; simp
theorem cut_to (xs : List V) (n : Nat) : cutV xs none (some (n : Int)) = xs.take n := by
  unfold cutV
  rw [HT.sIx_nat, HT.sIx_none, List.drop_zero, Nat.sub_zero]
  by_cases h : n ≤ xs.length
  · rw [Nat.min_eq_left h]
  · rw [Nat.min_eq_right (by omega), List.take_of_length_le (Nat.le_refl _), List.take_of_length_le (by omega)]
/-! a block in two parts, by what holds between them -/
section
variable {t1 t2 t3 t4 t5 tb : TS} {D : Ends} {σ : L2.St} {H : Hp}
theorem seq_cut (M : L2.St → Hp → Prop) (h1 : ∀ tl : L2.St → Hp → Prop, (∀ σ H, M σ H → tl σ H) → t1 { D with nx := tl } σ H) (h2 : ∀ σ H, M σ H → tb D σ H) : tSeq t1 tb D σ H := h1 (tb D) h2
theorem seq_cut2 (M : L2.St → Hp → Prop) (h1 : ∀ tl : L2.St → Hp → Prop, (∀ σ H, M σ H → tl σ H) → tSeq t1 t2 { D with nx := tl } σ H) (h2 : ∀ σ H, M σ H → tb D σ H) : tSeq t1 (tSeq t2 tb) D σ H := h1 (tb D) h2
theorem seq_cut3 (M : L2.St → Hp → Prop) (h1 : ∀ tl : L2.St → Hp → Prop, (∀ σ H, M σ H → tl σ H) → tSeq t1 (tSeq t2 t3) { D with nx := tl } σ H) (h2 : ∀ σ H, M σ H → tb D σ H) : tSeq t1 (tSeq t2 (tSeq t3 tb)) D σ H := h1 (tb D) h2
theorem seq_cut4 (M : L2.St → Hp → Prop) (h1 : ∀ tl : L2.St → Hp → Prop, (∀ σ H, M σ H → tl σ H) → tSeq t1 (tSeq t2 (tSeq t3 t4)) { D with nx := tl } σ H) (h2 : ∀ σ H, M σ H → tb D σ H) : tSeq t1 (tSeq t2 (tSeq t3 (tSeq t4 tb))) D σ H := h1 (tb D) h2
end
end UX
set_option Elab.async false
set_option linter.all false
set_option maxRecDepth 100000
set_option maxHeartbeats 4000000
/-! iter(a list); list(o), where o's own __iter__ hands back an iterator over a list and o has its own __len__ -/
namespace UX
open PySem PySem.Spec PyProof.Rows L2 UL UV UW ClX
end UX
set_option Elab.async false
set_option linter.all false
set_option maxRecDepth 100000
set_option maxHeartbeats 4000000
/-! rules with the constants named; own + & and its like; lists of ints in order -/
namespace UX
open PySem PySem.Spec PyProof.Rows L2 UL UV UW ClX
section
variable {X : Cx} {CX : CXT} {k j : Nat} {C : Addr} {sp spI spL : Sp} {E : XK} {fi fl : Addr}
theorem rm65 {j : Nat} {A : Around} (hr : Room j A) : A.units + 65 < cLine := by have := hr.un; omega
theorem op_inDK (K : PySem.W.Frag) (h : X.K = K) (hu : X.A.units + 65 < cLine) : OpR X (compareOp .In) (rInD K) := h ▸ op_inD hu
theorem op_ninDK (K : PySem.W.Frag) (h : X.K = K) (hu : X.A.units + 65 < cLine) : OpR X (compareOp .NotIn) (rNotInD K) := h ▸ op_notInD hu
theorem pe_fldK (K : PySem.W.Frag) (h : X.K = K) {e : Expr} {f : Str} {pos : Pos} {ta : TE} (he : PE X e ta) (hab : attributeBase e f X.env (eval e X.env) = eval e X.env) : PE X (.Attribute e f pos) (tFld K ta f) := h ▸ pe_fld he hab
end
theorem eqv_all : ∀ a b : List Int, PyData.eqvAll (a.map PyData.int) (b.map PyData.int) = decide (a = b)
  | [], [] => rfl
  | [], _ :: _ => rfl
  | _ :: _, [] => rfl
  | x :: r, y :: t => by
    have e : PyData.eqv (.int x) (.int y) = decide (x = y) := by simp [PyData.eqv]; rfl
    rw [List.map_cons, List.map_cons, PyData.eqvAll, e, eqv_all r t]
    rw [Bool.eq_iff_iff]; simp
theorem eqv_ints (a b : List Int) : PyData.eqv (.tuple (a.map PyData.int)) (.tuple (b.map PyData.int)) = decide (a = b) := by rw [PyData.eqv]; exact eqv_all a b
/-! ### lists of ints, compared from the left -/
theorem lt_trans : ∀ a b c : List Int, HT.lexLt a b = true → HT.lexLt b c = true → HT.lexLt a c = true
  | [], [], _, h, _ => by cases h
  | [], _ :: _, [], _, h => by cases h
  | [], _ :: _, _ :: _, _, _ => rfl
  | _ :: _, [], _, h, _ => by cases h
  | _ :: _, _ :: _, [], _, h => by cases h
  | x :: r, y :: t, z :: u, h, h' => by
    rw [HT.lexLt_cons] at h h' ⊢
    by_cases e : x = y
    · rw [if_pos e] at h
      by_cases e2 : y = z
      · rw [if_pos e2] at h'; rw [if_pos (e.trans e2)]; exact lt_trans r t u h h'
      · rw [if_neg e2] at h'; rw [if_neg (e ▸ e2), e]; exact h'
    · rw [if_neg e] at h
      have := of_decide_eq_true h
      by_cases e2 : y = z
      · rw [if_neg (e2 ▸ e), ← e2]; exact h
      · rw [if_neg e2] at h'
        have := of_decide_eq_true h'
        rw [if_neg (by omega)]
        exact decide_eq_true (by omega)
end UX
set_option Elab.async false
set_option linter.all false
set_option maxRecDepth 100000
set_option maxHeartbeats 4000000
/-! o(e, ..) by an own __call__; dicts whose keys are nested tuples -/
namespace UX
open PySem PySem.Spec PyProof.Rows L2 UL UV UW ClX
section
variable {X : Cx} {CX : CXT} {k j i : Nat} {C : Addr} {sp : Sp} {E : L2.St → XK} {x : Str} {p pos : Pos} {e : Expr} {es : List Expr} {t : TA} {ta : TE}
structure Con (P : Program) (w : World) (K : PySem.W.Frag) (mg : Str → Option Value) (base : Heap) (CX : CXT) (k : Nat) (C : Addr) (sp : Sp) : Prop where
  ex : ∃ (f : Addr) (fd : FuncData) (ps : List Str), FnOk P w K mg base CX k f fd ps sp ∧ PySem.W.findIn K (.ref C) "__call__" = some (some (.ref f)) ∧ PySem.W.isFn K (.ref f) = true ∧ PySem.W.fnIn K f = true ∧ Binds K fd ps []
theorem Mn.con {P : Program} {w : World} {K : PySem.W.Frag} {mg : Str → Option Value} {base : Heap} (d : Mn P w K mg base CX k C "__call__" sp) (h : ∃ f, PySem.W.findIn K (.ref C) "__call__" = some (some (.ref f)) ∧ PySem.W.fnIn K f = true) : Con P w K mg base CX k C sp := by
  obtain ⟨f, fd, ps, F, M, B⟩ := d.ex
  obtain ⟨g, h1, h2⟩ := h
  obtain rfl : f = g := by
    have h3 := M.at_
    rw [h1] at h3
    injection h3 with h3; injection h3 with h3; injection h3 with h3; exact h3.symm
  exact ⟨f, fd, ps, F, M.at_, M.fn, h2, B⟩
theorem callWith_inst0 {M : Model} {A : Around} {Eb : Value → Shared → Prop} {s : Shared} {a C : Addr} {Q : Value → Shared → Prop} {args : List (Bool × Sem Value)} (hp : (args.any (·.1) || ([] : List (Option Str × Sem Value)).any (·.1.isNone)) = false)
    (h : wpAny M A (evalArgs (.ref a) true args []) (fun g s₁ => (∃ dx od, PySem.W.InstAt s₁.heap a (PySem.W.instObj C dx) C od) ∧ wpAny M A (call (.ref a) ([] ++ g.pos) g.kw) Q Eb s₁) Eb s) : wpAny M A (callWith pos (.ref a) [] args []) Q Eb s := by
  unfold callWith
  refine wpAny_bind (wpAny_holding (wpAny_mono h (fun g s₁ h₁ => wpAny_bind (wpAny_standAt ?_)) fun _ _ y => y))
  obtain ⟨⟨dx, od, I⟩, h₂⟩ := h₁
  have L := PySem.W.kco_keeper (M := M) I rfl
  simp only [hp]
  refine wpAny_bind (L.here ?_)
  have tail : ∀ {t : Sem Value}, wpAny M A t Q Eb s₁ → wpAny M A (t >>= fun r => holding [r] point >>= fun _ => pure r) Q Eb s₁ :=
    fun ht => wpAny_bind (wpAny_mono ht (fun r s₂ hr => wpAny_bind (wpAny_holding (wpAny_point (wpAny_pure hr)))) fun _ _ y => y)
  exact tail (wpAny_operateT h₂)
theorem callWith_inst {M : Model} {A : Around} {Eb : Value → Shared → Prop} {s : Shared} {env : Env} {a C : Addr} {Q : Value → Shared → Prop}
    (h : wpAny M A (spliced (backTo pos (starEach (e :: es) env))) (fun vs s₁ => (∃ dx od, PySem.W.InstAt s₁.heap a (PySem.W.instObj C dx) C od) ∧ wpAny M A (call (.ref a) ([] ++ vs)) Q Eb s₁) Eb s)
    (he : starEach (e :: es) env = (false, eval e env) :: starEach es env := by rfl) (hplain : (backTo pos (starEach es env)).any (·.1) = false := by rfl) :
    wpAny M A (callWith pos (.ref a) [] (backTo pos (starEach (e :: es) env)) []) Q Eb s := by
  rw [he] at h ⊢
  exact callWith_inst0 (by show ((false || (backTo pos (starEach es env)).any (·.1)) || false) = false; rw [hplain]; rfl) (PySem.Calls.evalArgs_plain h)
/-- o(e, ..), o a local name -/
def tCallO (i : Nat) (C : Addr) (sp : Sp) (E : L2.St → XK) (t : TA) : TE := fun σ H Q => ∃ a, σ[i]? = some (some (.ref a)) ∧ t σ H fun vs H2 => ∃ dx fs, H2 a = some (.ins C dx fs) ∧ sp (.ref a :: vs) H2 Q (E σ)
theorem pe_callO (d : Con X.prog X.w X.K X.mg X.base CX k C sp) (hr : Room j X.A) (hk : k ≤ j) (hN : X.N[i]? = some x) (hv : Vis X.env.scope x) (hx : ∀ σ, PassesAt CX X σ (E σ)) (ha : PA X (e :: es) t)
    (hdb : (x == ("__debug__" : Str)) = false := by decide) (hcd : (x == ("__classdict__" : Str)) = false := by decide)
    (he : starEach (e :: es) X.env = (false, eval e X.env) :: starEach es X.env := by rfl) (hpl : (backTo pos (starEach es X.env)).any (·.1) = false := by rfl) : PE X (.Call (.Name x p) (e :: es) [] pos) (tCallO i C sp E t) := by
  obtain ⟨f, fd, ps, F, at_, fn, fi, B⟩ := d.ex
  refine ⟨fun pins s σ H Q I h => ?_⟩
  obtain ⟨a, hs, ht⟩ := h
  refine wpAny_Call_Name_kw (thn ((pe_var (pos := p) hN hv hdb hcd).run pins s σ H (fun v H1 => v = .ref a ∧ H1 = H) I ⟨.ref a, hs, rfl, rfl⟩) fun u s1 ⟨v, H1, I1, r1, q1⟩ => ?_)
  obtain ⟨rfl, rfl⟩ := q1
  cases r1
  refine callWith_inst (C := C) (thn (ha.run pos pins s1 σ _ _ I1 ht) fun us s2 ⟨vs, H2, I2, r, dx, fs, e2, q⟩ => ?_) he hpl
  obtain ⟨od, J⟩ := inst_of I2 e2
  refine ⟨⟨_, _, J⟩, wpAny_call (PySem.W.kco_code I2.kIn J rfl at_ fn fi ?_)⟩
  have hl : (Value.ref a :: us).length = ps.length := by rw [List.length_cons, ← r.length, ← List.length_cons]; exact F.len _ _ _ _ q
  have b := B s2 (.ref a :: us) I2.kIn (by rw [List.append_nil]; exact hl)
  rw [List.append_nil] at b
  refine codeAny_mono (F.run X.A X.stack s2 H2 ⟨.ref a :: us, []⟩ (.ref a :: us) (.ref a :: vs) Q (E σ) (hr.mono hk) I2.env0 b (.cons rfl r) q) fun r s' hq => ?_
  cases r with
  | error e => exact hx σ pins H2 s2 e s' I2 hq
  | ok fl =>
    cases fl with
    | ret u => exact I2.after hq
    | next => exact False.elim hq
    | brk => exact False.elim hq
    | cont => exact False.elim hq
end
/-! ### dicts whose keys are nested tuples -/
mutual
inductive NK (H : Hp) : NestedKey → V → Prop
  | num (i : Int) : NK H (.num i) (.int i)
  | text (x : Str) : NK H (.text x) (.str x)
  | tup {ks : List NestedKey} {a : Addr} {xs : List V} : H a = some (.tup xs) → NKs H ks xs → NK H (.tup ks) (.ref a)
inductive NKs (H : Hp) : List NestedKey → List V → Prop
  | nil : NKs H [] []
  | cons {k : NestedKey} {v : V} {ks : List NestedKey} {vs : List V} : NK H k v → NKs H ks vs → NKs H (k :: ks) (v :: vs)
end
/-- tuples stay -/
def TupsStay (H H' : Hp) : Prop := ∀ a xs, H a = some (.tup xs) → H' a = some (.tup xs)
theorem TupsStay.same {H H' : Hp} (h : ∀ a o, H a = some o → H' a = some o) : TupsStay H H' := fun a xs r => h a _ r
theorem TupsStay.put {H : Hp} {a : Addr} {o o' : HO} (h : H a = some o) (n : ∀ xs, o ≠ .tup xs) : TupsStay H (upd H a o') := fun b xs r =>
  (upd_ne fun z => by subst z; rw [h] at r; exact n _ (Option.some.inj r)).trans r
mutual
theorem NK.stay {H H' : Hp} (s : TupsStay H H') : ∀ (k : NestedKey) (v : V), NK H k v → NK H' k v
  | .none, _, h => by cases h
  | .num _, _, h => by cases h; exact .num _
  | .text _, _, h => by cases h; exact .text _
  | .tup ks, _, h => by
    cases h with
    | tup h1 h2 => exact .tup (s _ _ h1) (NKs.stay s ks _ h2)
theorem NKs.stay {H H' : Hp} (s : TupsStay H H') : ∀ (ks : List NestedKey) (vs : List V), NKs H ks vs → NKs H' ks vs
  | [], _, h => by cases h; exact .nil
  | k :: ks, _, h => by
    cases h with
    | cons h1 h2 => exact .cons (NK.stay s k _ h1) (NKs.stay s ks _ h2)
end
section
variable {X : Cx} {pins : List (Addr × Obj)} {σ : L2.St} {H : Hp} {s : Shared} {d a : Addr}
mutual
theorem NK.is (I : Inv X pins σ H s) : ∀ (k : NestedKey) (v : V) (u : Value), NK H k v → RelV v u → NestedIs s.heap k u
  | .none, _, _, h, _ => by cases h
  | .num i, _, _, h, r => by cases h; obtain ⟨t, rfl⟩ := r; exact .int _ _
  | .text x, _, _, h, r => by cases h; obtain ⟨t, rfl⟩ := r; exact .text _ _
  | .tup ks, _, _, h, r => by
    cases h with
    | tup h1 h2 =>
      cases r
      obtain ⟨its, rv, ⟨o, ho, hc, n, hd⟩, _⟩ := I.tuple (.inl (.inl h1))
      exact .tup ho hc hd (NKs.is I ks _ _ h2 (by simpa using rv))
theorem NKs.is (I : Inv X pins σ H s) : ∀ (ks : List NestedKey) (vs : List V) (us : List Value), NKs H ks vs → Vals vs us → NestedAll s.heap ks us
  | [], _, _, h, r => by cases h; cases r; exact .nil
  | k :: ks, _, _, h, r => by
    cases h with
    | cons h1 h2 =>
      cases r with
      | cons r1 r2 => exact .cons (NK.is I k _ _ h1 r1) (NKs.is I ks _ _ h2 r2)
end
/-- the dict object -/
def NDe (P : Program) (w : World) (d : Addr) (xs : List (NestedKey × Addr × Value)) : HO :=
  .ext fun h => (d == sysModules) = false ∧ xs.length ≤ sizeLine ∧ (xs.map (·.1)).Nodup ∧ ∃ o es ep, h.get? d = some o ∧ o.ExactDict ∧ o.data = .dict es ep ∧ es.toList = xs.map (entryOfKey (nestedKind P w))
abbrev NX := List (NestedKey × Addr × V)
def ND (P : Program) (w : World) (H : Hp) (d : Addr) (kvs : NX) : Prop :=
  ∃ xs : List (NestedKey × Addr × Value), Paired (fun p q => p.1 = q.1 ∧ p.2.1 = q.2.1 ∧ RelV p.2.2 q.2.2) kvs xs ∧ H d = some (NDe P w d xs) ∧ ∀ p ∈ kvs, NK H p.1 (.ref p.2.1) ∧ p.1.depth ≤ 8
theorem NDe.ok {P : Program} {w : World} {h : Heap} {xs : List (NestedKey × Addr × Value)} (h1 : (d == sysModules) = false) (h2 : xs.length ≤ sizeLine) (h3 : h.DictOfH (nestedKind P w) d xs) : ObjOk P w H h d (NDe P w d xs) := by
  obtain ⟨o, es, ep, e1, e2, e3, e4, _, e6⟩ := h3
  exact ⟨⟨h1, h2, e6, o, es, ep, e1, e2, e3, e4⟩, ⟨o, e1⟩, fun g1 g2 ⟨q1, q2, q3, o, es, ep, z1, z2⟩ k => ⟨q1, q2, q3, o, es, ep, k _ z1, z2⟩⟩
theorem ND.stay {P : Program} {w : World} {H' : Hp} {kvs : NX} (h : ND P w H d kvs) (s : TupsStay H H') (e : H' d = H d) : ND P w H' d kvs := by
  obtain ⟨xs, r, e1, k⟩ := h
  exact ⟨xs, r, e.trans e1, fun p hp => ⟨NK.stay s _ _ (k p hp).1, (k p hp).2⟩⟩
theorem ND.same {P : Program} {w : World} {H' : Hp} {kvs : NX} (h : ND P w H d kvs) (s : ∀ a o, H a = some o → H' a = some o) : ND P w H' d kvs := by
  have h' := h
  obtain ⟨xs, _, e1, _⟩ := h'
  exact h.stay (TupsStay.same s) ((s _ _ e1).trans e1.symm)
theorem ND.at {P : Program} {w : World} {kvs : NX} (h : ND P w H d kvs) : ∃ xs, H d = some (NDe P w d xs) := let ⟨xs, _, e, _⟩ := h; ⟨xs, e⟩
theorem nd_paired {kvs : NX} {xs : List (NestedKey × Addr × Value)} (r : Paired (fun (p : NestedKey × Addr × V) (q : NestedKey × Addr × Value) => p.1 = q.1 ∧ p.2.1 = q.2.1 ∧ RelV p.2.2 q.2.2) kvs xs) : kvs.length = xs.length ∧ kvs.map (·.1) = xs.map (·.1) ∧ (∀ q ∈ xs, ∃ p ∈ kvs, p.1 = q.1 ∧ p.2.1 = q.2.1 ∧ RelV p.2.2 q.2.2) := by
  induction r with
  | nil => exact ⟨rfl, rfl, fun q h => by cases h⟩
  | cons h _ ih =>
    obtain ⟨i1, i2, i3⟩ := ih
    refine ⟨by rw [List.length_cons, List.length_cons, i1], by rw [List.map_cons, List.map_cons, h.1, i2], fun q hq => ?_⟩
    rcases List.mem_cons.mp hq with rfl | hq
    · exact ⟨_, List.mem_cons_self, h.1, h.2.1, h.2.2⟩
    · obtain ⟨p, hp, e⟩ := i3 q hq
      exact ⟨p, List.mem_cons_of_mem _ hp, e⟩
theorem ND.dict (I : Inv X pins σ H s) {kvs : NX} (h : ND X.prog X.w H d kvs) : ∃ xs, Paired (fun p q => p.1 = q.1 ∧ p.2.1 = q.2.1 ∧ RelV p.2.2 q.2.2) kvs xs ∧ H d = some (NDe X.prog X.w d xs) ∧ (d == sysModules) = false ∧ xs.length ≤ sizeLine ∧ s.heap.DictOfH (nestedKind X.prog X.w) d xs := by
  obtain ⟨xs, r, e, k⟩ := h
  obtain ⟨⟨q1, q2, q3, o, es, ep, z1, z2, z3, z4⟩, _⟩ := I.hok d _ e
  refine ⟨xs, r, e, q1, q2, o, es, ep, z1, z2, z3, z4, fun x hx => ?_, q3⟩
  obtain ⟨p, hp, e1, e2, _⟩ := (nd_paired r).2.2 x hx
  have := k p hp
  rw [e1, e2] at this
  exact ⟨NK.is I _ _ _ this.1 rfl, this.2⟩
theorem ND.len (I : Inv X pins σ H s) {kvs : NX} (h : ND X.prog X.w H d kvs) : kvs.length ≤ sizeLine ∧ (kvs.map (·.1)).Nodup := by
  obtain ⟨xs, r, _, _, h2, _, _, _, _, _, _, _, _, nd⟩ := h.dict I
  obtain ⟨e1, e2, _⟩ := nd_paired r
  exact ⟨e1 ▸ h2, e2 ▸ nd⟩
end
end UX
set_option Elab.async false
set_option linter.all false
set_option maxRecDepth 100000
set_option maxHeartbeats 4000000
/-! d.m(e, ..), d a dict with nested tuple keys -/
namespace UX
open PySem PySem.Spec PyProof.Rows L2 UL UV UW ClX
end UX
set_option Elab.async false
set_option linter.all false
set_option maxRecDepth 100000
set_option maxHeartbeats 4000000
/-! for n, x in enumerate(tuple) -/
namespace UX
open PySem PySem.Spec PyProof.Rows L2 UL UV UW ClX
end UX
set_option Elab.async false
set_option linter.all false
set_option maxRecDepth 100000
set_option maxHeartbeats 4000000
/-! sum of a tuple of ints -/
namespace UX
open PySem PySem.Spec PyProof.Rows L2 UL UV UW ClX
end UX
set_option Elab.async false
set_option linter.all false
set_option maxRecDepth 100000
set_option maxHeartbeats 4000000
/-! tuples that are kept exact (no dict, no slots): displays, tuple.count -/
namespace UX
open PySem PySem.Spec PyProof.Rows L2 UL UV UW ClX
end UX
set_option Elab.async false
set_option linter.all false
set_option maxRecDepth 100000
set_option maxHeartbeats 4000000
/-! items() of a locked dict whose keys are tuples; a known tuple taken as any tuple -/
namespace UX
open PySem PySem.Spec PyProof.Rows L2 UL UV UW ClX
section
variable {X : Cx} {e : Expr} {te : TE} {pins : List (Addr × Obj)} {σ : L2.St} {H H0 H' : Hp} {s : Shared}
/-- some new known tuples are taken as any tuples -/
def Fgt (H0 H H' : Hp) : Prop := ∀ a, H' a = H a ∨ H0 a = none ∧ ∃ o xs, H a = some (.frz o (.tup xs)) ∧ H' a = some (.tup xs)
theorem Fgt.none {a : Addr} (h : Fgt H0 H H') (e : H a = .none) : H' a = .none := by
  rcases h a with z | ⟨_, o, xs, z, _⟩
  · exact z.trans e
  · rw [e] at z; cases z
theorem Fgt.but {a : Addr} {o : HO} (h : Fgt H0 H H') (e : H a = some o) (n : ∀ ob xs, o ≠ .frz ob (.tup xs)) : H' a = some o := by
  rcases h a with z | ⟨_, ob, xs, z, _⟩
  · exact z.trans e
  · rw [e] at z; exact absurd (Option.some.inj z) (n ob xs)
end
end UX
set_option Elab.async false
set_option linter.all false
set_option maxRecDepth 100000
set_option maxHeartbeats 4000000
/-! if d: the truth of a dict whose keys are tuples -/
namespace UX
open PySem PySem.Spec PyProof.Rows L2 UL UV UW ClX
end UX
set_option Elab.async false
set_option linter.all false
set_option maxRecDepth 100000
set_option maxHeartbeats 4000000
/-! a dict of tuple keys that is locked from here on -/
namespace UX
open PySem PySem.Spec PyProof.Rows L2 UL UV UW ClX
end UX
set_option Elab.async false
set_option linter.all false
set_option maxRecDepth 100000
set_option maxHeartbeats 4000000
/-! methods and defs whose last parameters have defaults -/
namespace UX
open PySem PySem.Spec PyProof.Rows L2 UL UV UW ClX
structure MDd (K : PySem.W.Frag) (C : Addr) (m qual : Str) (st : Stmt) (dvs : List V) : Prop where
  ex : ∃ f fd, FunD K m qual (defArgs st) (defBody st) (defScope st) dvs [] f fd ∧ Meth K C m f
structure Mnd (P : Program) (w : World) (K : PySem.W.Frag) (mg : Str → Option Value) (base : Heap) (CX : CXT) (k : Nat) (C : Addr) (m : Str) (dvs : List V) (sp : Sp) : Prop where
  ex : ∃ (f : Addr) (fd : FuncData) (ps : List Str) (ds : List Value), FnOk P w K mg base CX k f fd ps sp ∧ Meth K C m f ∧ Binds K fd ps [] ∧ Vals dvs ds ∧ Binds K fd ps ds
abbrev BindD (x qual : Str) (st : Stmt) (dvs : List V) (n j : Nat) (ps : List Str) : Prop := ∀ (T : Addr) (kV doc pm : Value) (an : Option Addr) (cdv ct : Value) (us its : List Value), us.length = n → its.length = dvs.length →
      ∃ k, bindArgs (PySem.W.fnOf x qual (defArgs st) (defBody st) (defScope st) (.ref T) kV doc pm an cdv ct) ⟨us, []⟩ = seqItems? (.ref T) >>= k ∧ k (some its.toArray) = pure (ps.zip (us ++ its.drop j))
section
variable {P : Program} {w : World} {K : PySem.W.Frag} {mg : Str → Option Value} {base : Heap} {C : Addr} {m qual : Str} {st : Stmt} {N ps : List Str} {k n : Nat} {sp : Sp} {spg : SpG} {dvs : List V}
theorem fund_b {f : Addr} {fd : FuncData} (F : FunD K m qual (defArgs st) (defBody st) (defScope st) dvs [] f fd) (hd : dvs ≠ []) (hn : n + dvs.length = ps.length) (b0 : BindD m qual st dvs ps.length dvs.length ps) (b1 : BindD m qual st dvs n 0 ps) : Binds K fd ps [] ∧ ∃ ds, Vals dvs ds ∧ Binds K fd ps ds := by
  obtain ⟨d0, v0, q0⟩ := F.binds1 ps.length dvs.length hd (by omega) b0
  obtain ⟨d1, v1, q1⟩ := F.binds1 n 0 hd (by omega) b1
  rw [List.drop_length] at v0
  cases v0
  exact ⟨q0, d1, v1, q1⟩
theorem MDd.mn (D : MDd K C m qual st dvs) (S : FnScope N ps (defScope st)) (hd : dvs ≠ []) (hn : n + dvs.length = ps.length) (b0 : BindD m qual st dvs ps.length dvs.length ps) (b1 : BindD m qual st dvs n 0 ps) (len : ∀ vs H Q E, sp vs H Q E → vs.length = ps.length) (body : Body0 P w K mg base qual st N k sp) : Mnd P w K mg base CX0 (k + 1) C m dvs sp := by
  obtain ⟨f, fd, F, M⟩ := D.ex
  obtain ⟨q0, ds, v, q1⟩ := fund_b F hd hn b0 b1
  refine ⟨f, fd, ps, ds, F.ok S len fun cdv A outer s H vs Q E hr h => ?_, M, q0, v, q1⟩
  obtain ⟨t, ht, hq⟩ := body f cdv A outer s H vs Q E hr h
  exact ⟨t, ht.nox, hq⟩
theorem MDd.mx (D : MDd K C m qual st dvs) (S : FnScope N ps (defScope st)) (hd : dvs ≠ []) (hn : n + dvs.length = ps.length) (b0 : BindD m qual st dvs ps.length dvs.length ps) (b1 : BindD m qual st dvs n 0 ps) (len : ∀ vs H Q E, sp vs H Q E → vs.length = ps.length) (body : BodyX P w K mg base qual st N k sp) : Mnd P w K mg base (L2.CX P w) (k + 1) C m dvs sp := by
  obtain ⟨f, fd, F, M⟩ := D.ex
  obtain ⟨q0, ds, v, q1⟩ := fund_b F hd hn b0 b1
  exact ⟨f, fd, ps, ds, F.ok S len fun cdv A outer s H vs Q E hr h => body f cdv A outer s H vs Q E hr h, M, q0, v, q1⟩
end
end UX
set_option Elab.async false
set_option linter.all false
set_option maxRecDepth 100000
set_option maxHeartbeats 4000000
/-! lambdas that capture cells, handed to defs; what is called through a name -/
namespace UX
open PySem PySem.Spec PyProof.Rows L2 UL UV UW ClX LamX NdefX
/-- the object at f is the lambda F whose body is e -/
def LamO (f : Addr) (F : NF) (e : Expr) : HO := .ext fun h => ∃ (od : Option Addr) (sl : Array (Option Value)) (pm ctv : Value), h.get? f = some (⟨.type "function", od, .func (PySem.W.kla_fn F.name F.qual F.params e F.scope F.cl pm (.ref F.c) ctv), sl⟩ : Obj)
theorem lamO_at {P : Program} {w : World} {H : Hp} {h : Heap} {f : Addr} {F : NF} {e : Expr} (hok : HOk P w H h) (q : H f = some (LamO f F e)) : ∃ (od : Option Addr) (sl : Array (Option Value)) (pm ctv : Value), h.get? f = some (⟨.type "function", od, .func (PySem.W.kla_fn F.name F.qual F.params e F.scope F.cl pm (.ref F.c) ctv), sl⟩ : Obj) := by
  obtain ⟨z, _, _⟩ := hok f _ q
  exact z
/-- a cell that holds v -/
def CelO (c : Addr) (v : V) : HO := .ext fun h => ∃ u, L2.RelV v u ∧ h.IsCell c (some u)
theorem celO_frz {P : Program} {w : World} {H : Hp} {h : Heap} {c : Addr} {v : V} {u : Value} {o : Obj} (e : h.get? c = some o) (d : o.data = .cell (some u)) (r : L2.RelV v u) : ObjOk P w H h c (.frz o (CelO c v)) :=
  ⟨e, ⟨⟨u, r, o, e, d⟩, ⟨o, e⟩, fun h1 h2 ⟨u, r, o, e, d⟩ k => ⟨u, r, o, k _ e, d⟩⟩⟩
/-- some are not tracked -/
def unt (S : List Addr) (H : Hp) : Hp := fun b => if b ∈ S then none else H b
theorem unt_in {S : List Addr} {H : Hp} {b : Addr} (h : b ∈ S) : unt S H b = none := if_pos h
theorem unt_out {S : List Addr} {H : Hp} {b : Addr} (h : b ∉ S) : unt S H b = H b := if_neg h
/-- S as in H, the rest as in H' -/
def ret (S : List Addr) (H H' : Hp) : Hp := fun b => if b ∈ S then H b else H' b
theorem ret_in {S : List Addr} {H H' : Hp} {b : Addr} (h : b ∈ S) : ret S H H' b = H b := if_pos h
theorem ret_out {S : List Addr} {H H' : Hp} {b : Addr} (h : b ∉ S) : ret S H H' b = H' b := if_neg h
section
variable {P : Program} {w : World} {K : PySem.W.Frag} {mg : Str → Option Value} {base : Heap} {A : Around} {outer : List Env} {s s' : Shared} {H H1 H2 : Hp} {S : List Addr} {Q : VK} {u : Value}
abbrev Cels (S : List Addr) (H : Hp) : Prop := ∀ b ∈ S, ∃ o v, H b = some (.frz o (CelO b v))
theorem env0_unt (e0 : Env0 P w K mg base A outer s H) (hS : Cels S H) : Env0 P w K mg base A outer s (unt S H) := by
  have nn : ∀ {b}, H b = none → unt S H b = none := fun {b} e => by unfold unt; split; rfl; exact e
  refine ⟨e0.frames, e0.mod, fun b o e => ⟨(e0.bs b o e).1, nn (e0.bs b o e).2⟩, e0.bsz, e0.funs, fun b hb => nn (e0.frf b hb), fun b o e => ?_, e0.bare⟩
  have hb : b ∉ S := fun z => by rw [unt_in z] at e; cases e
  rw [unt_out hb] at e
  have off : ∀ {c : Addr} {o : HO}, H c = some o → (∀ x y, o ≠ .frz x y) → unt S H c = some o := fun {c o} q n => by
    rw [unt_out]; exact q
    intro z
    obtain ⟨o', v, h⟩ := hS c z
    rw [q] at h
    exact n _ _ (Option.some.inj h)
  exact (e0.hok b o e).stay (fun c v _ q => q) (fun c q => off q fun _ _ z => nomatch z) fun c xs q => off q fun _ _ z => nomatch z
theorem ce_ret (e0 : Env0 P w K mg base A outer s H) (hS : Cels S H) (h : CE outer P w (unt S H) s (fun v H' => Q v (ret S H H')) u s') : CE outer P w H s Q u s' := by
  obtain ⟨v, H', os, bare, un, hok, r, q⟩ := h
  have nf : ∀ b ∈ S, b ∉ frs outer := fun b hb z => by
    obtain ⟨o, v, e⟩ := hS b hb
    rw [e0.frf b z] at e; cases e
  have nn : ∀ {b}, H b = none → b ∉ S := fun {b} e z => by
    obtain ⟨o, v, h⟩ := hS b z
    rw [e] at h; cases h
  have nS : ∀ {b : Addr} {o : HO}, H b = some o → (∀ x y, o ≠ .frz x y) → b ∉ S := fun {b o} q n z => by
    obtain ⟨o', v, h⟩ := hS b z
    rw [q] at h
    exact n _ _ (Option.some.inj h)
  have kc : ∀ b ∈ S, ∀ o, s.heap.get? b = some o → s'.heap.get? b = some o := fun b hb o e => un.keep b o e (unt_in hb) (nf b hb) (by simp)
  have n' : ∀ b ∈ S, H' b = none := fun b hb => by
    obtain ⟨o, v, e⟩ := hS b hb
    obtain ⟨e1, _⟩ := e0.hok b _ e
    exact un.free b o e1 (unt_in hb) (by simp)
  refine ⟨v, ret S H H', os, bare, ⟨fun b o e n hf hx => un.keep b o e ((unt_out (nn n)).trans n) hf hx, fun b o e n hf hx => un.slot b o e ((unt_out (nn n)).trans n) hf hx, fun b o e n hx => (ret_out (nn n)).trans (un.free b o e ((unt_out (nn n)).trans n) hx), un.there, fun b xs e => ?_, fun b o y e => ?_, fun b ps e => ?_⟩, fun b o e => ?_, r, q⟩
  · have hb := nS e fun _ _ z => nomatch z
    rw [ret_out hb]
    exact un.tups b xs ((unt_out hb).trans e)
  · by_cases hb : b ∈ S
    · rw [ret_in hb]; exact e
    · rw [ret_out hb]; exact un.frzs b o y ((unt_out hb).trans e)
  · have hb := nS e fun _ _ z => nomatch z
    rw [ret_out hb]
    exact un.tbls b ps ((unt_out hb).trans e)
  · by_cases hb : b ∈ S
    · rw [ret_in hb] at e
      obtain ⟨o0, v0, e2⟩ := hS b hb
      rw [e2] at e
      cases e
      obtain ⟨e3, ⟨u0, r0, o1, e4, d4⟩, _⟩ := e0.hok b _ e2
      rw [e3] at e4
      cases e4
      exact celO_frz (kc b hb _ e3) d4 r0
    · rw [ret_out hb] at e
      have off : ∀ {c : Addr} {o : HO}, H' c = some o → ret S H H' c = some o := fun {c o} q => by
        rw [ret_out]; exact q
        intro z
        rw [n' c z] at q; cases q
      exact (hok b o e).stay (fun c v _ q => q) (fun c q => off q) fun c xs q => off q
/-- the cells that the names hold -/
def cellsOf (cells : List (Str × Addr)) (fr : List Str) : List Addr := fr.filterMap fun y => cells.lookup y
theorem cellsOf_mem {cells : List (Str × Addr)} {fr : List Str} {b : Addr} : b ∈ cellsOf cells fr ↔ ∃ y ∈ fr, cells.lookup y = some b := by
  unfold cellsOf; rw [List.mem_filterMap]
/-- the lambda F at f, whose captured cells hold ws -/
structure LamG (f : Addr) (F : NF) (e : Expr) (fr : List Str) (ws : List V) (H : Hp) : Prop where
  fn : H f = some (LamO f F e)
  code : H F.c = some (CodeO F.c F.qual)
  len : ws.length = fr.length
  inj : ∀ x y c, F.cl.lookup x = some c → F.cl.lookup y = some c → x = y
  sub : ∀ y c, F.cl.lookup y = some c → y ∈ fr
  has : ∀ (i : Nat) (y : Str) (v : V), fr[i]? = some y → ws[i]? = some v → ∃ c o, F.cl.lookup y = some c ∧ H c = some (.frz o (CelO c v))
theorem LamG.same {f : Addr} {F : NF} {e : Expr} {fr : List Str} {ws : List V} (h : LamG f F e fr ws H) (s : ∀ b o, H b = some o → (∀ ps, o ≠ .tbl ps) → H1 b = some o) : LamG f F e fr ws H1 :=
  ⟨s _ _ h.fn (fun _ z => nomatch z), s _ _ h.code (fun _ z => nomatch z), h.len, h.inj, h.sub, fun i y v e1 e2 => let ⟨c, o, a, b⟩ := h.has i y v e1 e2; ⟨c, o, a, s _ _ b (fun _ z => nomatch z)⟩⟩
theorem LamG.cels {f : Addr} {F : NF} {e : Expr} {fr : List Str} {ws : List V} (h : LamG f F e fr ws H) : Cels (cellsOf F.cl fr) H := fun b hb => by
  obtain ⟨y, hy, e1⟩ := cellsOf_mem.mp hb
  obtain ⟨i, hi⟩ := List.mem_iff_getElem?.mp hy
  have hl : i < ws.length := by rw [h.len]; exact (List.getElem?_eq_some_iff.mp hi).1
  obtain ⟨c, o, e2, e3⟩ := h.has i y _ hi (List.getElem?_eq_getElem hl)
  rw [e1] at e2
  cases e2
  exact ⟨o, _, e3⟩
/-- what is called: a function or an object -/
structure Cal (P : Program) (w : World) (K : PySem.W.Frag) (mg : Str → Option Value) (base : Heap) (k : Nat) (a : Addr) (G : Hp → Prop) (sp : Sp) : Prop where
  kind : (∀ H, G H → ∃ F e, H a = some (LamO a F e)) ∨ ∃ C, ∀ H, G H → ∃ dx fs, H a = some (.ins C dx fs)
  run : ∀ (A : Around) (outer : List Env) (s : Shared) (H : Hp) (us : List Value) (vs : List V) (Q : VK) (E : XK), Room k A → Env0 P w K mg base A outer s H → G H → Vals vs us → sp vs H Q E → codeAny (model P w) A (.call (.ref a) ⟨us, []⟩) (CR CX0 outer P w H s Q E) s
/-- a lambda by its body -/
theorem cal_lam {f : Addr} {F : NF} {e : Expr} {N ps fr : List Str} {ws : List V} {k : Nat} {sp : Sp} (S : NScope N ps fr F.scope) (hb : ∀ (pm ctv : Value) (us : List Value), us.length = ps.length → bindArgs (PySem.W.kla_fn F.name F.qual F.params e F.scope F.cl pm (.ref F.c) ctv) ⟨us, []⟩ = pure (ps.zip us))
    (len : ∀ vs H Q E, sp vs H Q E → vs.length = ps.length) (G : Hp → Prop)
    (hbody : ∀ (A : Around) (outer : List Env) (s : Shared) (H : Hp) (vs : List V) (Q : VK) (E : XK), Room k (A.deeper (envF F f s.heap.objs.size)) → LamG f F e fr ws H → G H → sp vs H Q E →
      ∃ t, PE (ncx CX0 P w K mg base N F f A outer s (unt (cellsOf F.cl fr) H) E) e t ∧ t (startF N vs (ws.map some)) (unt (cellsOf F.cl fr) H) (fun v H' => Q v (ret (cellsOf F.cl fr) H H'))) :
    Cal P w K mg base (k + 1) f (fun H => LamG f F e fr ws H ∧ G H) sp := by
  refine ⟨.inl fun H g => ⟨F, e, g.1.fn⟩, fun A outer s H us vs Q E hr e0 g r hsp => ?_⟩
  obtain ⟨g, gG⟩ := g
  have hS := g.cels
  have e1 := env0_unt e0 hS
  obtain ⟨od, sl, pm, ctv, ho⟩ := lamO_at e0.hok g.fn
  have hl := len _ _ _ _ hsp
  have lim : s.heap.NoLimit := e0.mod.nolimit.keeps fun b o e => (e0.bs b o e).1
  have C : CellsAt F.cl fr (ws.map some) s.heap (unt (cellsOf F.cl fr) H) := by
    refine ⟨by rw [List.length_map]; exact g.len, fun y c hc => ?_, g.inj, fun i y hy => ?_⟩
    · have hm : c ∈ cellsOf F.cl fr := cellsOf_mem.mpr ⟨y, g.sub y c hc, hc⟩
      obtain ⟨o, v, h1⟩ := hS c hm
      obtain ⟨_, ⟨u, _, z⟩, _⟩ := e0.hok c _ h1
      exact ⟨unt_in hm, _, z⟩
    · have hlt : i < ws.length := by rw [g.len]; exact (List.getElem?_eq_some_iff.mp hy).1
      obtain ⟨c, o, h1, h2⟩ := g.has i y _ hy (List.getElem?_eq_getElem hlt)
      refine ⟨c, h1, fun v hv => ?_⟩
      rw [List.getElem?_map, List.getElem?_eq_getElem hlt] at hv
      cases hv
      obtain ⟨_, ⟨u, ru, z⟩, _⟩ := e0.hok c _ h2
      exact ⟨u, ru, z⟩
  have main : codeAny (model P w) A (.call (.ref f) ⟨us, []⟩) (CR CX0 outer P w (unt (cellsOf F.cl fr) H) s (fun v H' => Q v (ret (cellsOf F.cl fr) H H')) E) s := by
    refine PySem.W.kla_callFunE hr.depth ho rfl S.co S.gen rfl (codeO_at e0.hok g.code) ?_
    rw [hb pm ctv us (by rw [← r.length]; exact hl)]
    refine wpAny_pure (wpAny_newFunctionEnv S.nocell (fun ⟨n, _⟩ hy => S.par n (List.of_mem_zip hy).1) (fun h₁ hns hsb => ⟨lim.fresh _ hsb, ?_⟩) S.kind)
    show codeAny _ _ (.expr e (envF F f s.heap.objs.size)) _ _
    have kp : ∀ b o, s.heap.get? b = some o → h₁.get? b = some o := fun b o e => hsb.extBut b o (Nat.ne_of_lt (Heap.lt_size e)) (Heap.get?_push_of_some _ e)
    obtain ⟨t, ht, hq⟩ := hbody A outer s H vs Q E (hr.deeper _) g gG hsp
    have I : Inv (ncx CX0 P w K mg base N F f A outer s (unt (cellsOf F.cl fr) H) E) [] (startF N vs (ws.map some)) (unt (cellsOf F.cl fr) H) { s with heap := h₁, toks := s.toks + (ps.zip us).length } := inv_startN S hr.hd e1 hl r C hns kp
    refine PySem.W.kla_codeExpr (wpAny_mono (ht.run [] _ _ _ _ I hq) (fun v s' hq => ?_) fun e s' hs => hs)
    obtain ⟨w', H', J, rv, q⟩ := hq
    exact ⟨w', H', J.os, J.bare, J.base, J.hok, rv, q⟩
  refine codeAny_mono main fun r s' hq => ?_
  cases r with
  | error e => exact hq
  | ok fl =>
    cases fl with
    | ret u => exact ce_ret e0 hS hq
    | next => exact hq
    | brk => exact hq
    | cont => exact hq
end
section
variable {X : Cx} {pins : List (Addr × Obj)} {σ : L2.St} {H : Hp} {s : Shared}
theorem inv_lam {F : NF} {e : Expr} {o : Obj} {t' : Nat} {pm ctv : Value} (I : Inv X pins σ H s) (ho : o = { cls := .type "function", data := .func (PySem.W.kla_fn F.name F.qual F.params e F.scope F.cl pm (.ref F.c) ctv) }) :
    Inv X pins σ (upd H s.heap.objs.size (LamO s.heap.objs.size F e)) { s with heap := s.heap.push o, toks := t' } := by
  subst ho
  refine I.laid (a := s.heap.objs.size) (fun b u e => Heap.get?_push_of_some _ e) (Nat.le_refl _) ?_
  have e1 : (s.heap.push ({ cls := .type "function", data := .func (PySem.W.kla_fn F.name F.qual F.params e F.scope F.cl pm (.ref F.c) ctv) } : Obj)).get? s.heap.objs.size = some ({ cls := .type "function", data := .func (PySem.W.kla_fn F.name F.qual F.params e F.scope F.cl pm (.ref F.c) ctv) } : Obj) := Heap.get?_push_size _ rfl
  exact ⟨⟨_, _, pm, ctv, e1⟩, ⟨_, e1⟩, fun h1 h2 ⟨od, sl, p, t, z⟩ st => ⟨od, sl, p, t, st _ z⟩⟩
theorem lam_make {T : List NTab} {nm : Nat → Nat → Str} {c P : Addr} {params : Arguments} {body : Expr} {scope : Scope} {pos : Pos} {E : Value → Shared → Prop} {Q : Value → Shared → Prop} (I : Inv X pins σ H s) (TB : TabB X.base X.mg c P) (hcode : X.env.code = .ref c)
    (hm : (P, nm) ∈ T) (hn : nm pos.line pos.col = X.env.qual ++ "<lambda>") (hu : ∀ p ∈ T, p.1 = P → p.2 = nm) (hT : TabsN T H) (hdef : defaultsOf params X.env = ([], [])) (hfree : ∀ y ∈ scope.names, y.2 = .free → ∃ c, X.env.cells.lookup y.1 = some c)
    (h : ∀ (f c' : Addr) (H1 : Hp) (s' : Shared), Inv X pins σ H1 s' → ExtN H H1 → (∀ b, H1 b = Option.none → H b = Option.none) → TabsN T H1 → H f = none → H1 f = some (LamO f ⟨"<lambda>", X.env.qual ++ "<lambda>", params, [], scope, cloFrom X.env.cells scope.names [], c'⟩ body) → H1 c' = some (CodeO c' (X.env.qual ++ "<lambda>")) → Q (.ref f) s') :
    wpAny (model X.prog X.w) X.A (eval (.Lambda params body scope pos) X.env) Q E s := by
  refine PySem.W.kla_eval hdef ?_
  obtain ⟨ps, hP, ht, ha⟩ := (show TabN H P nm from hT _ hm)
  have bP : s.heap.BuiltinsAt X.mg P := TB.bm.keeps I.bk
  have hP' : s.heap.get? P = some { cls := .none, data := .fields ps } := I.hok P _ hP
  cases hc : codeAmong pos ps.toList with
  | none =>
    refine PySem.W.kla_makeFunction (mg := X.mg) (c := c) (P := P) (ps := ps) (closure_ok hfree) I.ok.glob (I.mod.glob.keeps I.bk) hcode (TB.code.keeps I.bk) hP' ht hc TB.gP bP fun c' ctv h' tk hx hge hlt hrec htb => ?_
    obtain ⟨c2, oc, vs, t, e2, hoc, hd, hv⟩ := hrec
    cases e2
    have nC : H c' = none := I.hok.fresh hge
    have I1 := inv_table (t' := tk) (more := #[rawInt pos.line, rawInt pos.col, .ref c']) (h' := h') I hP (fun b o hb e => hx b o hb e) htb hge ⟨oc, vs, t, hoc, hd, hv⟩
    have hE : ExtN H (upd (upd H P (.tbl (ps ++ #[rawInt pos.line, rawInt pos.col, .ref c']))) c' (CodeO c' (X.env.qual ++ "<lambda>"))) := fun b o e n => by
      rw [upd_ne (ne_of_none e nC), upd_ne (fun z => n ps (Option.some.inj (e.symm.trans (by rw [z]; exact hP))))]
      exact e
    have eL : (ps ++ #[rawInt pos.line, rawInt pos.col, .ref c']).toList = ps.toList ++ [rawInt pos.line, rawInt pos.col, .ref c'] := by simp
    have T1 : TabsN T (upd (upd H P (.tbl (ps ++ #[rawInt pos.line, rawInt pos.col, .ref c']))) c' (CodeO c' (X.env.qual ++ "<lambda>"))) := fun p hp => by
      by_cases hb : p.1 = P
      · rw [hu p hp hb, hb]
        refine ⟨_, by rw [upd_ne (ne_of_none hP nC), upd_same], by rw [eL]; exact PySem.TriplesOk_snoc _ _ _ _ ht, fun p' cv hcv => ?_⟩
        rw [eL] at hcv
        rcases among_app2 _ ht hcv with z | ⟨z, z1, z2⟩
        · obtain ⟨c0, e1, e2⟩ := ha p' cv z
          exact ⟨c0, e1, hE _ _ e2 codeO_ne⟩
        · refine ⟨c', z, ?_⟩
          rw [← z1, ← z2, hn]
          exact upd_same
      · obtain ⟨ps', a1, a2, a3⟩ := hT p hp
        refine ⟨ps', by rw [upd_ne (ne_of_none a1 nC), upd_ne hb]; exact a1, a2, fun p' cv hcv => ?_⟩
        obtain ⟨c0, e1, e2⟩ := a3 p' cv hcv
        exact ⟨c0, e1, hE _ _ e2 codeO_ne⟩
    have nF := I1.hok.fresh (Nat.le_refl _)
    have I2 := inv_lam (F := ⟨"<lambda>", X.env.qual ++ "<lambda>", params, [], scope, cloFrom X.env.cells scope.names [], c'⟩) (e := body) (t' := tk) (pm := (X.mg "__name__").getD .none) (ctv := ctv) I1 rfl
    refine h h'.objs.size c' _ _ I2 (fun b o e n => ?_) (fun b e => upd_none (upd_none (upd_none e))) (T1.ext fun b o e => ?_) (I.hok.fresh (Nat.le_trans hge (Nat.le_of_lt hlt))) upd_same ?_
    · have e1 := hE b o e n
      exact (upd_ne (ne_of_none e1 nF)).trans e1
    · exact (upd_ne (ne_of_none e nF)).trans e
    · exact (upd_ne (Nat.ne_of_lt hlt)).trans upd_same
  | some cv =>
    obtain ⟨c', e, hco⟩ := ha pos cv hc
    subst e
    rw [hn] at hco
    refine PySem.W.kla_makeFunctionHit (mg := X.mg) (c := c) (P := P) (ps := ps) (closure_ok hfree) I.ok.glob (I.mod.glob.keeps I.bk) hcode (TB.code.keeps I.bk) hP' ht hc bP fun ctv h' tk hx hsz => ?_
    have I1 : Inv X pins σ H { s with heap := h', toks := tk } := I.kept hx
    have nF : H h'.objs.size = none := I1.hok.fresh (Nat.le_refl _)
    have I2 := inv_lam (F := ⟨"<lambda>", X.env.qual ++ "<lambda>", params, [], scope, cloFrom X.env.cells scope.names [], c'⟩) (e := body) (t' := tk) (pm := (X.mg "__name__").getD .none) (ctv := ctv) I1 rfl
    refine h h'.objs.size c' _ _ I2 (fun b o e n => ?_) (fun b e => upd_none e) (hT.ext fun b o e => ?_) nF upd_same ?_
    · exact (upd_ne (ne_of_none e nF)).trans e
    · exact (upd_ne (ne_of_none e nF)).trans e
    · exact (upd_ne (ne_of_none hco nF)).trans hco
end
/-- lambda ..: e -/
def tLamM (T : List NTab) (mk : Addr → NF) (e : Expr) : TE := fun _ H Q => TabsN T H ∧ ∀ (f c' : Addr) (H1 : Hp), ExtN H H1 → (∀ b, H1 b = Option.none → H b = Option.none) → TabsN T H1 → H f = none → H1 f = some (LamO f (mk c') e) → H1 c' = some (CodeO c' (mk c').qual) → Q (.ref f) H1
theorem pe_lam {X : Cx} {T : List NTab} {nm : Nat → Nat → Str} {c P : Addr} {params : Arguments} {body : Expr} {scope : Scope} {pos : Pos} (TB : TabB X.base X.mg c P) (hcode : X.env.code = .ref c)
    (hm : (P, nm) ∈ T) (hn : nm pos.line pos.col = X.env.qual ++ "<lambda>") (hu : ∀ p ∈ T, p.1 = P → p.2 = nm) (hdef : defaultsOf params X.env = ([], []) := by rfl) (hfree : ∀ y ∈ scope.names, y.2 = .free → X.env.scope.names.lookup y.1 = some .cell ∨ X.env.scope.names.lookup y.1 = some .free) :
    PE X (.Lambda params body scope pos) (tLamM T (fun c' => ⟨"<lambda>", X.env.qual ++ "<lambda>", params, [], scope, cloFrom X.env.cells scope.names [], c'⟩) body) := by
  refine ⟨fun pins s σ H Q I h => ?_⟩
  obtain ⟨hT, h⟩ := h
  have hfr : ∀ y ∈ scope.names, y.2 = .free → ∃ c, X.env.cells.lookup y.1 = some c := fun y hy e => (hfree y hy e).elim (fun z => I.ok.has _ (.inl z)) fun z => I.ok.has _ (.inr z)
  exact lam_make I TB hcode hm hn hu hT hdef hfr fun f c' H1 s' I1 eN nn T1 f0 f1 c1 => ⟨.ref f, H1, I1, rfl, h f c' H1 eN nn T1 f0 f1 c1⟩
/-- the cells of fr are known, locked, from here on -/
structure Capd (cells : List (Str × Addr)) (fr : List Str) (ws : List V) (H1 H2 : Hp) : Prop where
  off : ∀ b, b ∉ cellsOf cells fr → H2 b = H1 b
  new : ∀ b ∈ cellsOf cells fr, H1 b = none
  inj : ∀ x y c, cells.lookup x = some c → cells.lookup y = some c → x = y
  has : ∀ (i : Nat) (y : Str) (v : V), fr[i]? = some y → ws[i]? = some v → ∃ c o, cells.lookup y = some c ∧ H2 c = some (.frz o (CelO c v))
theorem Capd.same {cells : List (Str × Addr)} {fr : List Str} {ws : List V} {H1 H2 : Hp} (h : Capd cells fr ws H1 H2) : ∀ b o, H1 b = some o → H2 b = some o := fun b o e => by
  rw [h.off b fun z => by rw [h.new b z] at e; cases e]; exact e
/-- f(e, ..): the captured cells are known to the callee -/
def tCallC (cells : List (Str × Addr)) (fr : List Str) (js : List Nat) (sp : Sp) (t : TA) : TE := fun σ H Q => t σ H fun vs H1 => ∃ ws : List V, ws.length = fr.length ∧ js.map (slotAt σ) = ws.map some ∧
  ∀ H2, Capd cells fr ws H1 H2 → sp vs H2 (fun v H3 => Q v (unt (cellsOf cells fr) H3)) E0
section
variable {X : Cx} {k j : Nat} {sp : Sp} {x : Str} {p pos : Pos} {e : Expr} {es : List Expr} {t : TA} {fr : List Str} {js : List Nat}
theorem cap_inv {pins : List (Addr × Obj)} {σ : L2.St} {H1 : Hp} {s : Shared} {ws : List V} (I : Inv X pins σ H1 s) (nd : fr.Nodup) (hfr : ∀ y ∈ fr, X.env.scope.names.lookup y = some .cell) (hfn : ∀ y ∈ fr, X.fn y = true) (hjs : js.map (fun j => X.N[j]?) = fr.map some) (hl : ws.length = fr.length) (hw : js.map (slotAt σ) = ws.map some) :
    ∃ H2, Capd X.env.cells fr ws H1 H2 ∧ Env0 X.prog X.w X.K X.mg X.base X.A X.stack s H2 ∧ ∀ {Q : VK} {u : Value} {s' : Shared}, CE X.stack X.prog X.w H2 s (fun v H3 => Q v (unt (cellsOf X.env.cells fr) H3)) u s' → CE X.stack X.prog X.w H1 s Q u s' := by
  have cell : ∀ b ∈ cellsOf X.env.cells fr, ∃ i y v u, fr[i]? = some y ∧ ws[i]? = some v ∧ X.env.cells.lookup y = some b ∧ RelV v u ∧ s.heap.IsCell b (some u) ∧ H1 b = none ∧ X.s_0.heap.objs.size ≤ b := fun b hb => by
    obtain ⟨y, hy, hc⟩ := cellsOf_mem.mp hb
    obtain ⟨i, hi⟩ := List.mem_iff_getElem?.mp hy
    have hlt : i < ws.length := by rw [hl]; exact (List.getElem?_eq_some_iff.mp hi).1
    have e2 : (js.map fun j => X.N[j]?)[i]? = some (some y) := by rw [hjs, List.getElem?_map, hi]; rfl
    have e3 : (js.map (slotAt σ))[i]? = some (some ws[i]) := by rw [hw, List.getElem?_map, List.getElem?_eq_getElem hlt]; rfl
    rw [List.getElem?_map] at e2 e3
    cases ej : js[i]? with
    | none => rw [ej] at e2; cases e2
    | some j0 =>
      rw [ej] at e2 e3
      have hj : X.N[j0]? = some y := Option.some.inj (show some (X.N[j0]?) = some (some y) from e2)
      have hs : σ[j0]? = some (some ws[i]) := slotAt_some (Option.some.inj (show some (slotAt σ j0) = some (some ws[i]) from e3))
      obtain ⟨m, hn, hlk⟩ := I.loc
      obtain ⟨u, r, l⟩ := hlk j0 y _ hj hs (.inr (.inl (hfr y hy)))
      rcases l with ⟨z, _⟩ | ⟨_, a', ha', hcell⟩
      · have z' : X.env.scope.names.lookup y = some .local := z
        rw [hfr y hy] at z'; cases z'
      · rw [hc] at ha'
        cases ha'
        exact ⟨i, y, ws[i], u, hi, List.getElem?_eq_getElem hlt, hc, r, hcell, I.freeC y b hc, I.ok.cab y b (hfn y hy) hc⟩
  have val : ∀ b, ∃ p : Obj × V, b ∈ cellsOf X.env.cells fr → s.heap.get? b = some p.1 ∧ (∀ H, ObjOk X.prog X.w H s.heap b (.frz p.1 (CelO b p.2))) ∧ ∀ i y v, fr[i]? = some y → ws[i]? = some v → X.env.cells.lookup y = some b → v = p.2 := fun b => by
    by_cases hb : b ∈ cellsOf X.env.cells fr
    · obtain ⟨i, y, v, u, h1, h2, h3, h4, ⟨o, h5, h6⟩, _, _⟩ := cell b hb
      refine ⟨(o, v), fun _ => ⟨h5, fun H => celO_frz h5 h6 h4, fun i' y' v' g1 g3 g2 => ?_⟩⟩
      have ey := I.ok.inj _ _ _ g2 h3
      subst ey
      have ei : i' = i := nodup_ix nd g1 h1
      subst ei
      rw [h2] at g3
      exact (Option.some.inj g3).symm
    · exact ⟨(default, .non), fun h => absurd h hb⟩
  obtain ⟨g, hg⟩ := Classical.axiomOfChoice val
  have off : ∀ {b : Addr} {o : HO}, H1 b = some o → b ∉ cellsOf X.env.cells fr := fun {b o} e z => by
    obtain ⟨_, _, _, _, _, _, _, _, _, n, _⟩ := cell b z
    rw [n] at e; cases e
  have hS : Cels (cellsOf X.env.cells fr) (fun b => if b ∈ cellsOf X.env.cells fr then some (.frz (g b).1 (CelO b (g b).2)) else H1 b) := fun b hb => ⟨_, _, if_pos hb⟩
  have C : Capd X.env.cells fr ws H1 (fun b => if b ∈ cellsOf X.env.cells fr then some (.frz (g b).1 (CelO b (g b).2)) else H1 b) := by
    refine ⟨fun b hb => if_neg hb, fun b hb => ?_, I.ok.inj, fun i y v e1 e2 => ?_⟩
    · obtain ⟨_, _, _, _, _, _, _, _, _, n, _⟩ := cell b hb
      exact n
    · obtain ⟨c, hc⟩ := I.ok.has y (.inl (hfr y (List.mem_of_getElem? e1)))
      have hm : c ∈ cellsOf X.env.cells fr := cellsOf_mem.mpr ⟨y, List.mem_of_getElem? e1, hc⟩
      refine ⟨c, (g c).1, hc, ?_⟩
      rw [(hg c hm).2.2 i y v e1 e2 hc]
      exact if_pos hm
  have small : ∀ b, b ∈ cellsOf X.env.cells fr → X.s_0.heap.objs.size ≤ b := fun b hb => let ⟨_, _, _, _, _, _, _, _, _, _, z⟩ := cell b hb; z
  have nfr : ∀ b, b ∈ cellsOf X.env.cells fr → b ∉ frs X.stack := fun b hb z => by
    rcases List.mem_cons.mp (I.stkSub _ z) with e | e
    · obtain ⟨_, _, _, _, _, _, _, _, ⟨o, h5, h6⟩, _, _⟩ := cell b hb
      obtain ⟨m, ⟨o2, es, ep, h7, h8, _⟩, _⟩ := I.loc
      rw [e, h7] at h5
      cases h5
      rw [h8] at h6
      cases h6
    · obtain ⟨_, o, ho, _⟩ := I.ok.funs.mem e
      exact absurd (Nat.lt_of_lt_of_le (Heap.lt_size ho) (small b hb)) (Nat.lt_irrefl _)
  have e0 := I.env0
  have E2 : Env0 X.prog X.w X.K X.mg X.base X.A X.stack s (fun b => if b ∈ cellsOf X.env.cells fr then some (.frz (g b).1 (CelO b (g b).2)) else H1 b) := by
    refine ⟨e0.frames, e0.mod, fun b o e => ⟨(e0.bs b o e).1, ?_⟩, e0.bsz, e0.funs, fun b hb => ?_, fun b o e => ?_, e0.bare⟩
    · rw [if_neg]
      · exact (e0.bs b o e).2
      · intro z
        exact absurd (Nat.lt_of_lt_of_le (Heap.lt_size e) (Nat.le_trans I.ok.bsz (small b z))) (Nat.lt_irrefl _)
    · rw [if_neg fun z => nfr b z hb]; exact e0.frf b hb
    · by_cases hb : b ∈ cellsOf X.env.cells fr
      · rw [if_pos hb] at e
        cases e
        exact (hg b hb).2.1 _
      · rw [if_neg hb] at e
        exact (e0.hok b o e).stay (fun c v _ q => q) (fun c q => (if_neg (off q)).trans q) fun c xs q => (if_neg (off q)).trans q
  refine ⟨_, C, E2, fun {Q u s'} h => ?_⟩
  obtain ⟨v, H', os, bare, un, hok, r, q⟩ := h
  have at' : ∀ b ∈ cellsOf X.env.cells fr, ∃ o, s.heap.get? b = some o ∧ s'.heap.get? b = some o := fun b hb => by
    have e := un.frzs b _ _ (if_pos hb)
    obtain ⟨e2, _⟩ := hok b _ e
    exact ⟨_, (hg b hb).1, e2⟩
  have nS : ∀ {b : Addr}, b ∉ cellsOf X.env.cells fr → (if b ∈ cellsOf X.env.cells fr then some (.frz (g b).1 (CelO b (g b).2)) else H1 b) = H1 b := fun h => if_neg h
  refine ⟨v, unt (cellsOf X.env.cells fr) H', os, bare, ⟨fun b o e n hf hx => ?_, fun b o e n hf hx => ?_, fun b o e n hx => ?_, un.there, fun b xs e => ?_, fun b o y e => ?_, fun b ps e => ?_⟩, fun b o e => ?_, r, q⟩
  · by_cases hb : b ∈ cellsOf X.env.cells fr
    · obtain ⟨o', e1, e2⟩ := at' b hb
      rw [e] at e1; cases e1; exact e2
    · exact un.keep b o e ((nS hb).trans n) hf hx
  · by_cases hb : b ∈ cellsOf X.env.cells fr
    · exact absurd hf (nfr b hb)
    · exact un.slot b o e ((nS hb).trans n) hf hx
  · by_cases hb : b ∈ cellsOf X.env.cells fr
    · exact unt_in hb
    · exact (unt_out hb).trans (un.free b o e ((nS hb).trans n) hx)
  · have hb := off e
    exact (unt_out hb).trans (un.tups b xs ((nS hb).trans e))
  · have hb := off e
    exact (unt_out hb).trans (un.frzs b o y ((nS hb).trans e))
  · have hb := off e
    obtain ⟨more, z⟩ := un.tbls b ps ((nS hb).trans e)
    exact ⟨more, (unt_out hb).trans z⟩
  · have hb : b ∉ cellsOf X.env.cells fr := fun z => by rw [unt_in z] at e; cases e
    rw [unt_out hb] at e
    have off' : ∀ {c : Addr} {o : HO}, H' c = some o → (∀ x y, o ≠ .frz x y) → unt (cellsOf X.env.cells fr) H' c = some o := fun {c o} q n => by
      rw [unt_out]; exact q
      intro z
      rw [un.frzs c _ _ (if_pos z)] at q
      exact n _ _ (Option.some.inj q).symm
    exact (hok b o e).stay (fun c v _ q => q) (fun c q => off' q fun _ _ z => nomatch z) fun c xs q => off' q fun _ _ z => nomatch z
theorem pe_dC (d : Dn X.prog X.w X.K X.mg X.base CX0 k x sp) (hr : Room j X.A) (hk : k ≤ j) (hg : Gl X x) (nd : fr.Nodup) (hfr : ∀ y ∈ fr, X.env.scope.names.lookup y = some .cell) (hfn : ∀ y ∈ fr, X.fn y = true) (hjs : js.map (fun j => X.N[j]?) = fr.map some) (ha : PA X (e :: es) t) (hdb : (x == ("__debug__" : Str)) = false := by decide)
    (he : starEach (e :: es) X.env = (false, eval e X.env) :: starEach es X.env := by rfl) (hpl : (backTo pos (starEach es X.env)).any (·.1) = false := by rfl) : PE X (.Call (.Name x p) (e :: es) [] pos) (tCallC X.env.cells fr js sp t) := by
  obtain ⟨f, fd, ps, F, hm, hkp, hb⟩ := d.ex
  refine ⟨fun pins s σ H Q I h => ?_⟩
  refine wpAny_Call_Name_kw (ld_glob I hg hm ?_ hdb)
  refine PySem.W.callWith_K (h₀ := X.base) I.ok.mod.kin hkp (thn (ha.run pos pins s σ H _ I h) fun us s1 ⟨vs, H1, I1, r, ws, hl, hw, q⟩ => ⟨I1.kIn, ?_⟩) he hpl
  obtain ⟨H2, C, E2, fin⟩ := cap_inv I1 nd hfr hfn hjs hl hw
  have q := q H2 C
  have hlen : (us ++ ([] : List Value)).length = ps.length := by rw [List.append_nil, ← r.length]; exact F.len _ _ _ _ q
  have b := hb s1 us I1.kIn hlen
  rw [List.append_nil] at b
  refine wpAny_call (codeAny_mono (F.run X.A X.stack s1 H2 ⟨us, []⟩ us vs _ E0 (hr.mono hk) E2 b r q) fun r s' hq => ?_)
  cases r with
  | error e => exact (show False from hq).elim
  | ok fl =>
    cases fl with
    | ret u => exact I1.after (fin hq)
    | next => exact False.elim hq
    | brk => exact False.elim hq
    | cont => exact False.elim hq
/-- x(e, ..), x a local name of what can be called -/
def tCallV (i : Nat) (a : Addr) (G : Hp → Prop) (sp : Sp) (t : TA) : TE := fun σ H Q => σ[i]? = some (some (.ref a)) ∧ G H ∧ t σ H fun vs H2 => G H2 ∧ sp vs H2 Q E0
theorem lamAt_of {pins : List (Addr × Obj)} {σ : L2.St} {H : Hp} {s : Shared} {f : Addr} {F : NF} {e : Expr} (I : Inv X pins σ H s) (h : H f = some (LamO f F e)) : PySem.W.FnAt f s.heap := by
  obtain ⟨od, sl, pm, ctv, ho⟩ := lamO_at I.hok h
  exact ⟨_, od, _, sl, ho⟩
theorem pe_callV {i : Nat} {a : Addr} {G : Hp → Prop} (d : Cal X.prog X.w X.K X.mg X.base k a G sp) (hr : Room j X.A) (hk : k ≤ j) (hN : X.N[i]? = some x) (hv : Vis X.env.scope x) (ha : PA X (e :: es) t)
    (hdb : (x == ("__debug__" : Str)) = false := by decide) (hcd : (x == ("__classdict__" : Str)) = false := by decide)
    (he : starEach (e :: es) X.env = (false, eval e X.env) :: starEach es X.env := by rfl) (hpl : (backTo pos (starEach es X.env)).any (·.1) = false := by rfl) : PE X (.Call (.Name x p) (e :: es) [] pos) (tCallV i a G sp t) := by
  refine ⟨fun pins s σ H Q I h => ?_⟩
  obtain ⟨hs, hG, ht⟩ := h
  refine wpAny_Call_Name_kw (thn ((pe_var (pos := p) hN hv hdb hcd).run pins s σ H (fun v H1 => v = .ref a ∧ H1 = H) I ⟨.ref a, hs, rfl, rfl⟩) fun u s1 ⟨v, H1, I1, r1, q1⟩ => ?_)
  obtain ⟨rfl, rfl⟩ := q1
  cases r1
  have fin : ∀ {us : List Value} {vs : List V} {H2 : Hp} {s2 : Shared}, Inv X pins σ H2 s2 → Vals vs us → G H2 → sp vs H2 Q E0 → wpAny (model X.prog X.w) X.A (call (.ref a) us) (EP X pins σ Q) X.xe s2 := fun {us vs H2 s2} I2 r g q => by
    refine wpAny_call (codeAny_mono (d.run X.A X.stack s2 H2 us vs Q E0 (hr.mono hk) I2.env0 g r q) fun r s' hq => ?_)
    cases r with
    | error e => exact (show False from hq).elim
    | ok fl =>
      cases fl with
      | ret u => exact I2.after hq
      | next => exact False.elim hq
      | brk => exact False.elim hq
      | cont => exact False.elim hq
  rcases d.kind with kd | kd
  · obtain ⟨F, e1, hf⟩ := kd _ hG
    refine PySem.W.callWith_F (first := []) (lamAt_of I1 hf) (thn (ha.run pos pins s1 σ _ _ I1 ht) fun us s2 ⟨vs, H2, I2, r, g, q⟩ => ?_) he hpl
    obtain ⟨F2, e2, hf2⟩ := kd _ g
    exact ⟨lamAt_of I2 hf2, fin I2 r g q⟩
  · obtain ⟨C, kd⟩ := kd
    refine callWith_inst (C := C) (thn (ha.run pos pins s1 σ _ _ I1 ht) fun us s2 ⟨vs, H2, I2, r, g, q⟩ => ?_) he hpl
    obtain ⟨dx, fs, hf⟩ := kd _ g
    obtain ⟨od, J⟩ := inst_of I2 hf
    exact ⟨⟨_, _, J⟩, fin I2 r g q⟩
end
end UX
set_option Elab.async false
set_option linter.all false
set_option maxRecDepth 100000
set_option maxHeartbeats 4000000
set_option pp.deepTerms true
set_option pp.maxSteps 400000
namespace U
open PySem PySem.Spec PyProof.Rows L2 UL UX
local macro_rules | `(tactic| walk_at "rd") => `(tactic| simp only [sMatch, tJs, tFmt, tBC, tMethA, tMakeL, iEnumS, tSeq, tAsg, tOp, tCB, tCons, tNil, tVar, tC, tB, tTest, tNot, tIfS, tNext, tYes, tUn, rU, tM0, tGFrom, tGThen, tG0, tYfLst, gcxK, tSubO, tProp, tListG, tMethG, tBMF, tFld, sFld, tMeth, tMake, tSl, tNoPart, tPart, tM1, gTup, gCons, gNil, tDrop, tFor_eq, tLc_eq, tLc2_eq, iRng1_eq, StX.tStar, iList, iTup, iStr, iAny_var, iZipB, tLenSetS, wipe, tVar, tAndV, tOrV, tNotV, tOr, tAnd, tLst, tTup, tBM, tBM0, tChain, tCall, cxK, noxK, addII, addSS, mulII, eqII, neII, neSS, cIntI, cAbsI, rI, rI0, rLt, rLe, rGt_, rGe_, rSub_, rMod, rPow, rDivW, rNeg, gName, tRet, L2.start, List.length_cons, List.length_nil, List.map_cons, List.map_nil, List.replicate, List.cons_append, List.nil_append, List.getElem?_cons_zero, List.getElem?_cons_succ, List.set_cons_zero, List.set_cons_succ, Option.some.injEq, exists_eq_left', exists_eq_left, V.int.injEq, V.bl.injEq, V.str.injEq, V.ref.injEq, V.ty.injEq, List.cons.injEq, and_true, true_and, reduceCtorEq, false_and, exists_false, or_false, false_or, exists_and_left, exists_and_right, List.append_nil, forall_eq, decide_eq_true_eq, Bool.not_eq_true, Nat.reduceAdd, Nat.reduceSub, List.replicate_zero, List.replicate_succ, Nat.zero_le, ite_true, ite_false, if_true, if_false])
section
variable {P : Program} {w : World} {K : PySem.W.Frag} {mg : Str → Option Value} {base : Heap}
open UV UW NdefX ClX LamX
variable {R Wr B Pg Sy : Addr}
/-- the variables of a program, in a dict -/
def VrH (H : Hp) (vd : Addr) (n : Nat) (vr : Str → Option Int) : Prop := ∃ kvs : List (Key × V), H vd = some (.dK kvs) ∧ kvs.length ≤ n ∧ ∀ f, valV kvs (Sum.inr f : Key) = (vr f).map V.int
def updV (vr : Str → Option Int) (l : Str) (v : Int) : Str → Option Int := fun f => if f = l then some v else vr f
theorem VrH.new {H : Hp} {vd : Addr} (h : H vd = some (.dK [])) : VrH H vd 0 fun _ => none := ⟨[], h, Nat.le_refl _, fun _ => rfl⟩
theorem putK_len1 {kvs : List (Key × V)} {k : Key} {v : V} : (putK kvs k v).length ≤ kvs.length + 1 := by
  unfold putK
  split
  · rw [List.length_map]; omega
  · rw [List.length_append]; exact Nat.le_refl _
theorem VrH.put {H : Hp} {vd : Addr} {n : Nat} {vr : Str → Option Int} {kvs : List (Key × V)} (h2 : kvs.length ≤ n) (h3 : ∀ f, valV kvs (Sum.inr f : Key) = (vr f).map V.int) (l : Str) (v : Int) : VrH (upd H vd (.dK (putK kvs (Sum.inr l) (.int v)))) vd (n + 1) (updV vr l v) := by
  refine ⟨_, upd_same, Nat.le_trans putK_len1 (by omega), fun f => ?_⟩
  rw [valV_put]
  unfold updV
  by_cases c : f = l
  · rw [if_pos (by rw [c]), if_pos c]; rfl
  · rw [if_neg (fun z => c (Sum.inr.inj z)), if_neg c]; exact h3 f
/-- what functions are applied: the state of the one who applies them, its parts, where they stand -/
structure Ap0 (S : Type) where
  app : S → Str → List Int → Int × S
  dom : S → Str → List Int → Prop
  iv : S → Hp → Prop
  fp : Addr → Prop
  w : List Addr
def CalSp {S : Type} (A : Ap0 S) : Sp := fun vs H Q _ => ∃ (φ : S) (f : Str) (l : Addr) (xs : List Int), vs = [.str f, .ref l] ∧ A.iv φ H ∧ H l = some (.lst (xs.map V.int)) ∧ xs.length ≤ 3 ∧ A.dom φ f xs ∧
  ∀ H', A.iv (A.app φ f xs).2 H' → UX.SmS A.w H H' → Q (.int (A.app φ f xs).1) H'
structure Cle (P : Program) (w : World) (K : PySem.W.Frag) (mg : Str → Option Value) (base : Heap) (k : Nat) (a : Addr) {S : Type} (A : Ap0 S) : Prop where
  cal : UX.Cal P w K mg base k a (fun H => ∃ φ, A.iv φ H) (CalSp A)
  st : ∀ φ H H', A.iv φ H → (∀ b o, A.fp b → H b = some o → H' b = some o) → A.iv φ H'
  at_ : ∀ φ H b, A.iv φ H → A.fp b → ∃ o, H b = some o
  wf : ∀ b ∈ A.w, A.fp b
  ext : ∀ φ H b, A.iv φ H → b ∈ A.w → ∃ φ0, H b = some (.ext φ0)
section
variable {S : Type} {A : Ap0 S} {k : Nat} {a : Addr}
theorem Cle.same (C : Cle P w K mg base k a A) {φ : S} {H H' : Hp} (h : A.iv φ H) (s : Same H H') : A.iv φ H' := C.st φ H H' h fun b o _ e => s b o e
theorem Cle.put (C : Cle P w K mg base k a A) {φ : S} {H : Hp} {b : Addr} {o : HO} (h : A.iv φ H) (n : ¬ A.fp b) : A.iv φ (upd H b o) := C.st φ H _ h fun c u f e => (upd_ne fun z => n (by rw [← z]; exact f)).trans e
theorem Cle.off (C : Cle P w K mg base k a A) {φ : S} {H : Hp} (h : A.iv φ H) {b : Addr} {o : HO} (e : H b = some o) (n : ∀ φ0, o ≠ .ext φ0) : b ∉ A.w := fun z => by
  obtain ⟨φ0, e2⟩ := C.ext φ H b h z
  rw [e] at e2
  exact n φ0 (Option.some.inj e2)
theorem Cle.new (C : Cle P w K mg base k a A) {φ : S} {H : Hp} (h : A.iv φ H) {b : Addr} (e : H b = none) : ¬ A.fp b := fun z => by
  obtain ⟨o, e2⟩ := C.at_ φ H b h z
  rw [e] at e2; cases e2
end
/-- one step -/
def stepS {S : Type} (A : Ap0 S) (cs : List Str) : Sk → List Int → (Str → Option Int) → S → List Int × (Str → Option Int) × S
  | .rd s l, st, vr, φ => (st, updV vr l (st[cs.idxOf s]?.getD 0), φ)
  | .wr t f xs, st, vr, φ => (st.set (cs.idxOf t) (A.app φ f (xs.map fun x => (vr x).getD 0)).1, vr, (A.app φ f (xs.map fun x => (vr x).getD 0)).2)
  | .rw s l t f xs, st, vr, φ => (st.set (cs.idxOf t) (A.app φ f (xs.map fun x => (updV vr l (st[cs.idxOf s]?.getD 0) x).getD 0)).1, updV vr l (st[cs.idxOf s]?.getD 0), (A.app φ f (xs.map fun x => (updV vr l (st[cs.idxOf s]?.getD 0) x).getD 0)).2)
/-- the step can be done -/
def stepOk {S : Type} (A : Ap0 S) (cs : List Str) : Sk → List Int → (Str → Option Int) → S → Prop
  | .rd s _, _, _, _ => s ∈ cs
  | .wr t f xs, _, vr, φ => t ∈ cs ∧ (∀ x ∈ xs, (vr x).isSome = true) ∧ xs.length ≤ 3 ∧ A.dom φ f (xs.map fun x => (vr x).getD 0)
  | .rw s l t f xs, st, vr, φ => s ∈ cs ∧ t ∈ cs ∧ (∀ x ∈ xs, (updV vr l (st[cs.idxOf s]?.getD 0) x).isSome = true) ∧ xs.length ≤ 3 ∧ A.dom φ f (xs.map fun x => (updV vr l (st[cs.idxOf s]?.getD 0) x).getD 0)
theorem stepS_len {S : Type} {A : Ap0 S} {cs : List Str} {k : Sk} {st : List Int} {vr : Str → Option Int} {φ : S} : (stepS A cs k st vr φ).1.length = st.length := by
  cases k <;> simp [stepS]
theorem plenQ {α β : Type} {F : α → β → Prop} : ∀ {l : List α} {m : List β}, Paired F l m → l.length = m.length
  | [], [], _ => rfl
  | _ :: _, _ :: _, .cons _ r => congrArg (· + 1) (plenQ r)
theorem patQ {α β : Type} {F : α → β → Prop} : ∀ {l : List α} {m : List β}, Paired F l m → ∀ {i : Nat} {a : α}, l[i]? = some a → ∃ b, m[i]? = some b ∧ F a b
  | _, _, .nil, i, a, e => by simp at e
  | _, _, .cons r _, 0, a, e => by simp at e; subst e; exact ⟨_, rfl, r⟩
  | _, _, .cons _ t, i + 1, a, e => by
    obtain ⟨b, h1, h2⟩ := patQ t (i := i) (a := a) (by simpa using e)
    exact ⟨b, by simpa using h1, h2⟩
theorem pappQ {α β : Type} {F : α → β → Prop} : ∀ {l l' : List α} {m m' : List β}, Paired F l m → Paired F l' m' → Paired F (l ++ l') (m ++ m')
  | _, _, _, _, .nil, h => h
  | _, _, _, _, .cons r t, h => .cons r (pappQ t h)
theorem ratQ {ts : List Addr} {i : Nat} {x : V} (h : (ts.map V.ref)[i]? = some x) : ∃ t, ts[i]? = some t ∧ x = V.ref t := by
  rw [List.getElem?_map] at h
  cases e : ts[i]? with
  | none => rw [e] at h; cases h
  | some t => rw [e] at h; exact ⟨t, rfl, (Option.some.inj h).symm⟩
theorem idx_ok {cs : List Str} {z : Str} (h : z ∈ cs) : cs[cs.idxOf z]? = some z ∧ (∀ m, m < cs.idxOf z → cs[m]? ≠ some z) ∧ cs.idxOf z < cs.length := by
  induction cs with
  | nil => cases h
  | cons x r ih =>
    by_cases c : x = z
    · subst c
      refine ⟨by simp, fun m hm => ?_, by simp⟩
      simp at hm
    · have hz : z ∈ r := (List.mem_cons.mp h).resolve_left (fun e => c e.symm)
      obtain ⟨h1, h2, h3⟩ := ih hz
      have e : (x :: r).idxOf z = r.idxOf z + 1 := by rw [List.idxOf_cons, beq_false_of_ne c]; rfl
      rw [e]
      refine ⟨by simpa using h1, fun m hm => ?_, by simp; omega⟩
      cases m with
      | zero => simpa using c
      | succ m => simpa using h2 m (by omega)
/-- the variables behind the read -/
def vrS (cs : List Str) (st : List Int) (vr : Str → Option Int) : Sk → Str → Option Int
  | .rd s l | .rw s l _ _ _ => updV vr l (st[cs.idxOf s]?.getD 0)
  | .wr .. => vr
theorem cut_set {xs : List V} {n : Nat} (v : V) (h : n < xs.length) : xs.take n ++ v :: xs.drop (n + 1) = xs.set n v := by
  induction xs generalizing n with
  | nil => simp at h
  | cons x r ih =>
    cases n with
    | zero => simp
    | succ n =>
      have h : n < r.length := by simpa using h
      have := ih h
      simpa using this
abbrev s_do_step : Stmt := top 42
abbrev sc_do_step_N : List Str := ["step", "cells", "state", "variables", "apply", "args", "at", ".0", "local"]
theorem sc_do_step : FnScope sc_do_step_N ["step", "cells", "state", "variables", "apply"] (defScope s_do_step) := ⟨rfl, rfl, rfl, by decide +kernel, rfl, by decide +kernel, by decide +kernel⟩
-- 0 step, 1 cells, 2 state, 3 variables, 4 apply, 5 args, 6 at, 7 .0, 8 local
def sp_dostep (P : Program) (w : World) (K : PySem.W.Frag) (mg : Str → Option Value) (base : Heap) (R Wr B : Addr) : Sp := fun vs H Q _ => ∃ (S : Type) (A : Ap0 S) (stp cl stt vd ap : Addr) (k : Sk) (cs : List Str) (st : List Int) (vr : Str → Option Int) (n : Nat) (φ : S),
  vs = [.ref stp, .ref cl, .ref stt, .ref vd, .ref ap] ∧ Cle P w K mg base 4 ap A ∧ A.iv φ H ∧ ¬ A.fp vd ∧ StA H R Wr B stp k ∧ FT H cl (cs.map V.str) ∧ H stt = some (.tup (st.map V.int)) ∧ VrH H vd n vr ∧ n ≤ 1000 ∧ cs.length ≤ 1000 ∧ st.length = cs.length ∧ stepOk A cs k st vr φ ∧
  ∀ t H', H' t = some (.tup ((stepS A cs k st vr φ).1.map V.int)) → VrH H' vd (n + 1) (stepS A cs k st vr φ).2.1 → A.iv (stepS A cs k st vr φ).2.2 H' → UX.SmS (vd :: A.w) H H' → Q (.ref t) H'
theorem StA.smS {S : List Addr} {H H' : Hp} {a : Addr} {k : Sk} (h : StA H R Wr B a k) (s : UX.SmS S H H') (n : ∀ b o, H b = some o → ((∃ C dx fs, o = .ins C dx fs) ∨ ∃ ob xs, o = .frz ob (.tup xs)) → b ∉ S) : StA H' R Wr B a k := by
  have ft : ∀ {p xs}, FT H p xs → FT H' p xs := fun ⟨o, e, d⟩ => ⟨o, s _ _ e (n _ _ e (.inr ⟨_, _, rfl⟩)), d⟩
  cases k with
  | rd => obtain ⟨dx, e⟩ := h; exact ⟨dx, s _ _ e (n _ _ e (.inl ⟨_, _, _, rfl⟩))⟩
  | wr => obtain ⟨dx, p, e, q⟩ := h; exact ⟨dx, p, s _ _ e (n _ _ e (.inl ⟨_, _, _, rfl⟩)), ft q⟩
  | rw => obtain ⟨dx, p, e, q⟩ := h; exact ⟨dx, p, s _ _ e (n _ _ e (.inl ⟨_, _, _, rfl⟩)), ft q⟩
theorem d_dostep (T : PT K mg R Wr B Pg) (D : TD K mg "do_step" s_do_step) : Dn P w K mg base CX0 6 "do_step" (sp_dostep P w K mg base R Wr B) := by
  refine D.dn sc_do_step (fun _ _ _ _ _ _ us hl => match us, hl with | [_, _, _, _, _], _ => rfl) (fun vs H Q E h => ?_) (fun f cdv Ar outer s H vs Q E hr h => ?_)
  · obtain ⟨S, A, stp, cl, stt, vd, ap, k, cs, st, vr, n, φ, rfl, _⟩ := h; rfl
  · obtain ⟨S, A, stp, cl, stt, vd, ap, k, cs, st, vr, n, φ, rfl, hc, hφ, hvd, hk, hcl, hst, hvr, hn, hcs, hl, hok, q⟩ := h
    refine ⟨_, (pss_cons (ps_if (pt_val (pe_callB call_isi (by rfl) T.n_isinstance (by decide +kernel) (pa_cons (pv 0) (pa_cons (C8.pe_gc (by rfl) T.c_Read) pa_nil)))) (pss_one (ps_dput (un1 hr.units) (pv 3) (pe_fld (pv 0) (by rfl)) (pe_ix ix_seq (pv 2) (pe_bmF PySem.F.slot_tuple_index PySem.F.type_tuple_index mt_tup_index (pv 1) (pa_cons (pe_fld (pv 0) (by rfl)) pa_nil)) (fun _ _ => rfl)) rfl)) pss_nil)
      (pss_cons (ps_if (pt_val (pe_callB call_isi (by rfl) T.n_isinstance (by decide +kernel) (pa_cons (pv 0) (pa_cons (C8.pe_gc (by rfl) T.c_Write) pa_nil)))) (pss_cons (ps_setLc (i := 5) (own := [(".0", 7), ("local", 8)]) (g := (gName 8)) (tt := tYes) rfl sc_do_step.nd rfl rfl (sw_true rfl rfl rfl (by decide +kernel)) (pi_tup (pe_fldK K rfl (pv 0) (by rfl))) (blkOk_by (N := sc_do_step_N) (sc := defScope s_do_step) (by decide +kernel)) (fun _ _ _ _ _ => pg_name (i := 8) sc_do_step.nd rfl (Or.inl rfl)) (fun _ _ _ _ _ => pts_nil) (fun _ _ _ _ _ => (pe_dget (un1 hr.units) (pv 3) (pv 8) (fun _ _ => rfl))))
      (pss_cons (ps_set (i := 6) sc_do_step.nd rfl (Or.inl rfl) (pe_bmF PySem.F.slot_tuple_index PySem.F.type_tuple_index mt_tup_index (pv 1) (pa_cons (pe_fld (pv 0) (by rfl)) pa_nil)))
      (pss_one (ps_ret (pe_tup (pa_starK K rfl (pe_slice sl_tup (pv 2) po_none (po_some (pv 6))) (pa_cons (pe_callV hc.cal hr (by decide) (i := 4) rfl (Or.inl rfl) (pa_cons (pe_fld (pv 0) (by rfl)) (pa_cons (pv 5) pa_nil))) (pa_starK K rfl (pe_slice sl_tup (pv 2) (po_some (pe_op op_addA (pv 6) pe_int)) po_none) pa_nil)))))))) pss_nil)
      (pss_one (ps_ret (pv 2))))), ?_⟩
    obtain ⟨kvs, hv1, hv2, hv3⟩ := hvr
    have nvd : ∀ (b : Addr) (o : HO), H b = some o → ((∃ C dx fs, o = .ins C dx fs) ∨ ∃ ob xs, o = .frz ob (.tup xs)) → b ∉ [vd] := fun b o e h z => by
      rw [List.mem_singleton.mp z, hv1] at e
      cases e
      rcases h with ⟨_, _, _, z⟩ | ⟨_, _, z⟩ <;> cases z
    have nvt : ∀ {b : Addr} {xs : List V}, H b = some (.tup xs) → b ∉ [vd] := fun e z => by
      rw [List.mem_singleton.mp z, hv1] at e; cases e
    refine seq_cut (fun σ1 H1 => σ1 = [some (.ref stp), some (.ref cl), some (.ref stt), some (.ref vd), some (.ref ap), none, none, none, none] ∧ VrH H1 vd (n + 1) (vrS cs st vr k) ∧ A.iv φ H1 ∧ UX.SmS [vd] H H1) (fun tl htl => ?_) fun σ1 H1 hm => ?_
    · walk_at "rd"
      simp only [sDPut]
      walk_at "rd"
      have ivp : ∀ {o : HO}, A.iv φ (upd H vd o) := hc.put hφ hvd
      have smp : ∀ {o : HO}, UX.SmS [vd] H (upd H vd o) := SmS.at_ List.mem_cons_self
      cases k with
      | rd s0 l =>
        obtain ⟨dx, e⟩ := id hk
        obtain ⟨i1, i2, i3⟩ := idx_ok (show s0 ∈ cs from hok)
        refine ⟨_, _, _, _, _, rfl, .own R, T.iR.ty T.cR e, T.kRR, ⟨true, rfl, ?_⟩⟩
        rw [if_pos rfl]
        have hs0 : cs.idxOf s0 < st.length := by omega
        have e0 : (st.map V.int)[cs.idxOf s0]? = some (.int (st[cs.idxOf s0]?.getD 0)) := by rw [List.getElem?_map, List.getElem?_eq_getElem hs0]; rfl
        obtain ⟨oc, ec, dc, lc⟩ := id hcl
        refine ⟨⟨oc, ⟨_, ec⟩, dc⟩, R, dx, _, e, T.cR, T.aR_source, .str s0, rfl, cs, s0, rfl, FT.sq hcl, _, i1, i2, ixT (.inl (.inl hst)) (atN e0) ⟨R, dx, _, e, T.cR, T.aR_local, .str l, rfl, _, DPut.k (k := Sum.inr l) hv1 (by rw [sizeLine_eq]; omega), htl _ _ ⟨rfl, VrH.put hv2 hv3 l _, ivp, smp⟩⟩⟩
      | wr t f0 xs =>
        obtain ⟨dx, p, e, ft⟩ := id hk
        refine ⟨_, _, _, _, _, rfl, .own R, T.iW.ty T.cW e, T.kWR, ⟨false, rfl, ?_⟩⟩
        rw [if_neg (by decide)]
        exact htl _ _ ⟨rfl, ⟨kvs, hv1, by omega, hv3⟩, hφ, SmS.refl⟩
      | rw s0 l t f0 xs =>
        obtain ⟨dx, p, e, ft⟩ := id hk
        obtain ⟨i1, i2, i3⟩ := idx_ok (show s0 ∈ cs from hok.1)
        refine ⟨_, _, _, _, _, rfl, .own R, T.iB.ty T.cB e, T.kBR, ⟨true, rfl, ?_⟩⟩
        rw [if_pos rfl]
        have hs0 : cs.idxOf s0 < st.length := by omega
        have e0 : (st.map V.int)[cs.idxOf s0]? = some (.int (st[cs.idxOf s0]?.getD 0)) := by rw [List.getElem?_map, List.getElem?_eq_getElem hs0]; rfl
        obtain ⟨oc, ec, dc, lc⟩ := id hcl
        refine ⟨⟨oc, ⟨_, ec⟩, dc⟩, B, dx, _, e, T.cB, T.aB_source, .str s0, rfl, cs, s0, rfl, FT.sq hcl, _, i1, i2, ixT (.inl (.inl hst)) (atN e0) ⟨B, dx, _, e, T.cB, T.aB_local, .str l, rfl, _, DPut.k (k := Sum.inr l) hv1 (by rw [sizeLine_eq]; omega), htl _ _ ⟨rfl, VrH.put hv2 hv3 l _, ivp, smp⟩⟩⟩
    · obtain ⟨rfl, hvr1, hφ1, sm1⟩ := hm
      have hk1 := StA.smS hk sm1 nvd
      have hst1 := sm1 _ _ hst (nvt hst)
      have hcl1 : FT H1 cl (cs.map V.str) := let ⟨o, e, d⟩ := hcl; ⟨o, sm1 _ _ e (nvd _ _ e (.inr ⟨_, _, rfl⟩)), d⟩
      have wr : ∀ (C dx pa : Addr) (fs : List (Str × V)) (t f0 : Str) (xs : List Str) (vr1 : Str → Option Int), H1 stp = some (.ins C dx fs) → Cls K C → NoAttr K C "target" → NoAttr K C "function" → fs.lookup ("target" : Str) = some (.str t) → fs.lookup ("function" : Str) = some (.str f0) → FT H1 pa (xs.map V.str) → t ∈ cs → (∀ x ∈ xs, (vr1 x).isSome = true) → xs.length ≤ 3 → A.dom φ f0 (xs.map fun x => (vr1 x).getD 0) → VrH H1 vd (n + 1) vr1 →
          (∀ t' H', H' t' = some (.tup ((st.set (cs.idxOf t) (A.app φ f0 (xs.map fun x => (vr1 x).getD 0)).1).map V.int)) → VrH H' vd (n + 1) vr1 → A.iv (A.app φ f0 (xs.map fun x => (vr1 x).getD 0)).2 H' → UX.SmS (vd :: A.w) H H' → Q (.ref t') H') →
          ∃ a, V.ref pa = V.ref a ∧ (∃ xs, SqT K H1 a xs) ∧ ∀ (D : Addr), H1 D = none → LJ (Itt K a) (gName 8) tYes (tDGet (tVar 3) (tVar 8)) [7, 8] [some (V.ref stp), some (V.ref cl), some (V.ref stt), some (V.ref vd), some (V.ref ap), none, none, none, none] D (fun H2 => (∃ x, (∃ x_1, H2 cl = some (HO.frz x (HO.tup x_1))) ∧ x.dict = none) ∧ ∃ x x_1 x_2, H2 stp = some (HO.ins x x_1 x_2) ∧ Cls K x ∧ NoAttr K x (Str.ofString "target") ∧ ∃ x, List.lookup (Str.ofString "target") x_2 = some x ∧ ∃ x_3 x_4, x = V.str x_4 ∧ SqT K H2 cl (List.map V.str x_3) ∧ ∃ x, x_3[x]? = some x_4 ∧ (∀ (m : Nat), m < x → x_3[m]? ≠ some x_4) ∧ rSlT K (V.ref stt) none (some ↑x) H2 fun x_5 H1 => ∃ p, x_5 = V.ref p ∧ ∃ x_6, (SqT K H1 p x_6 ∨ SqL K H1 p x_6) ∧ tCallV 4 ap (fun H => ∃ φ, A.iv φ H) (CalSp A) (tCons (tFld K (tVar 0) (Str.ofString "function")) (tCons (tVar 5) tNil)) [some (V.ref stp), some (V.ref cl), some (V.ref stt), some (V.ref vd), some (V.ref ap), some (V.ref D), some (V.int ↑x), none, none] H1 fun x_7 H1 => rSlT K (V.ref stt) (some (↑x + 1)) none H1 fun x H1 => ∃ p, x = V.ref p ∧ ∃ x, (SqT K H1 p x ∨ SqL K H1 p x) ∧ (x_6 ++ x_7 :: x).length ≤ sizeLine ∧ ∀ (p : Addr), H1 p = none → Q (V.ref p) (upd H1 p (HO.tup (x_6 ++ x_7 :: x)))) H1 := by
        intro C dx pa fs t f0 xs vr1 e hC nT nF lT lF hpa ht hxs h3 hdom hv1' hq
        obtain ⟨kv1, k1, k2, k3⟩ := hv1'
        refine ⟨pa, rfl, ⟨_, FT.sq hpa⟩, fun D hD => LJ.it (walk_tup (xs := xs.map V.str)) (fun i H2 => H2 D = some (.lst (((xs.take i).map fun x => (vr1 x).getD 0).map V.int)) ∧ Same H1 H2) ⟨upd_same, UL.Same.new hD⟩ (fun i H2 _ inv => FT.sq (FT.same inv.2 hpa)) (fun i y H2 H3 hi inv yy => ?_) fun H2 inv => ?_⟩
        · obtain ⟨eD, s2⟩ := inv
          obtain ⟨rfl, hy⟩ := yy
          rw [List.getElem?_map] at hy
          obtain ⟨x, hx, rfl⟩ := Option.map_eq_some_iff.mp hy
          refine ⟨rfl, ?_⟩
          simp only [tDGet]
          walk_at "rd"
          obtain ⟨v, hv⟩ := Option.isSome_iff_exists.mp (hxs x (List.mem_of_getElem? hx))
          have dg : DGet H3 vd (.str x) (some (.int v)) := by
            have z := DGet.k (k := Sum.inr x) (s2 _ _ k1)
            rw [k3 x, hv] at z
            exact z
          refine ⟨.int v, dg, _, eD, by rw [List.length_map, List.length_map, List.length_take, sizeLine_eq]; omega, ?_, UL.Same.put s2 hD⟩
          rw [upd_same, List.take_add_one, hx, List.map_append, List.map_append]
          show some (HO.lst (_ ++ [V.int v])) = some (HO.lst (_ ++ [V.int ((vr1 x).getD 0)]))
          rw [hv]; rfl
        · obtain ⟨eD, s2⟩ := inv
          rw [List.length_map, List.take_length] at eD
          obtain ⟨i1, i2, i3⟩ := idx_ok ht
          have hst2 := s2 _ _ hst1
          have hcl2 := FT.same s2 hcl1
          obtain ⟨oc, ec, dc, lc⟩ := id hcl2
          have ht0 : cs.idxOf t < st.length := by omega
          refine ⟨⟨oc, ⟨_, ec⟩, dc⟩, C, dx, fs, s2 _ _ e, hC, nT, .str t, lT, cs, t, rfl, FT.sq hcl2, _, i1, i2, stt, st.map V.int, rfl, .inl (.inl hst2), fun wz => ?_, fun p hp => ?_⟩
          · have w2 := wz.2
            rw [HT.sIx_nat, List.length_map] at w2
            omega
          · rw [cut_to]
            have s3 : Same H2 (upd H2 p (.tup ((st.map V.int).take (cs.idxOf t)))) := UL.Same.new hp
            have ep : upd H2 p (.tup ((st.map V.int).take (cs.idxOf t))) p = _ := upd_same
            generalize upd H2 p (.tup ((st.map V.int).take (cs.idxOf t))) = H3 at s3 ep ⊢
            have s23 := Same.tr s2 s3
            refine ⟨p, rfl, _, .inl (.inl (.inl ep)), ?_⟩
            simp only [tCallV]
            walk_at "rd"
            have φ3 : A.iv φ H3 := hc.same (hc.same hφ1 s2) s3
            have hst3 := s3 _ _ hst2
            refine ⟨⟨φ, φ3⟩, C, dx, fs, s23 _ _ e, hC, nF, .str f0, lF, ⟨φ, φ3⟩, φ, f0, D, _, rfl, φ3, s3 _ _ eD, by rw [List.length_map]; exact h3, hdom, fun H4 φ4 s4 => ?_⟩
            have hst4 := s4 _ _ hst3 (hc.off φ3 hst3 fun _ z => nomatch z)
            refine ⟨stt, st.map V.int, rfl, .inl (.inl hst4), fun wz => ?_, fun p2 hp2 => ⟨p2, rfl, _, .inl (.inl (.inl upd_same)), ?_, fun p3 hp3 => ?_⟩⟩
            · have w1 := wz.1
              have e1 : ((cs.idxOf t : Nat) : Int) + 1 = ((cs.idxOf t + 1 : Nat) : Int) := rfl
              rw [e1, HT.sIx_nat, List.length_map] at w1
              omega
            · have e1 : ((cs.idxOf t : Nat) : Int) + 1 = ((cs.idxOf t + 1 : Nat) : Int) := rfl
              rw [e1, cut_from, List.length_append, List.length_take, List.length_cons, List.length_drop, List.length_map, sizeLine_eq]
              omega
            · have e1 : ((cs.idxOf t : Nat) : Int) + 1 = ((cs.idxOf t + 1 : Nat) : Int) := rfl
              rw [e1, cut_from] at hp3 ⊢
              have s5 : Same H4 (upd H4 p2 (.tup ((st.map V.int).drop (cs.idxOf t + 1)))) := UL.Same.new hp2
              generalize upd H4 p2 (.tup ((st.map V.int).drop (cs.idxOf t + 1))) = H5 at s5 hp3 ⊢
              rw [cut_set _ (by rw [List.length_map]; exact ht0), ← List.map_set]
              have s6 := UL.Same.new (o := .tup ((st.set (cs.idxOf t) (A.app φ f0 (xs.map fun x => (vr1 x).getD 0)).1).map V.int)) hp3
              have s46 := Same.tr s5 s6
              have k1' := s3 _ _ (s2 _ _ k1)
              refine hq p3 _ upd_same ⟨kv1, s46 _ _ (s4 _ _ k1' (hc.off φ3 k1' fun _ z => nomatch z)), k2, k3⟩ (hc.same φ4 s46) fun c o e0 nc => ?_
              have n1 : c ∉ [vd] := fun z => nc (by rw [List.mem_singleton.mp z]; exact List.mem_cons_self)
              exact s46 _ _ (s4 _ _ (s3 _ _ (s2 _ _ (sm1 _ _ e0 n1))) fun z => nc (List.mem_cons_of_mem _ z))
      walk_at "rd"
      cases k with
      | rd s0 l =>
        obtain ⟨dx, e⟩ := hk1
        refine ⟨_, _, _, _, _, rfl, .own Wr, T.iR.ty T.cR e, T.kRW, ⟨false, rfl, ?_⟩⟩
        rw [if_neg (by decide)]
        exact q stt H1 hst1 hvr1 hφ1 fun c o e n => sm1 c o e fun z => n (by rw [List.mem_singleton.mp z]; exact List.mem_cons_self)
      | wr t f0 xs =>
        obtain ⟨dx, p, e, ft⟩ := hk1
        refine ⟨_, _, _, _, _, rfl, .own Wr, T.iW.ty T.cW e, T.kWW, ⟨true, rfl, ?_⟩⟩
        rw [if_pos rfl]
        exact ⟨Wr, dx, _, e, T.cW, T.aW_arguments, .ref p, rfl, wr Wr dx p _ t f0 xs vr e T.cW T.aW_target T.aW_function rfl rfl ft hok.1 hok.2.1 hok.2.2.1 hok.2.2.2 hvr1 q⟩
      | rw s0 l t f0 xs =>
        obtain ⟨dx, p, e, ft⟩ := hk1
        refine ⟨_, _, _, _, _, rfl, .own Wr, T.iB.ty T.cB e, T.kBW, ⟨true, rfl, ?_⟩⟩
        rw [if_pos rfl]
        exact ⟨B, dx, _, e, T.cB, T.aB_arguments, .ref p, rfl, wr B dx p _ t f0 xs _ e T.cB T.aB_target T.aB_function rfl rfl ft hok.2.1 hok.2.2.1 hok.2.2.2.1 hok.2.2.2.2 hvr1 q⟩
/-- the steps of a program -/
def runS {S : Type} (A : Ap0 S) (cs : List Str) : List Sk → List Int → (Str → Option Int) → S → List Int × (Str → Option Int) × S
  | [], st, vr, φ => (st, vr, φ)
  | k :: r, st, vr, φ => runS A cs r (stepS A cs k st vr φ).1 (stepS A cs k st vr φ).2.1 (stepS A cs k st vr φ).2.2
def runOk {S : Type} (A : Ap0 S) (cs : List Str) : List Sk → List Int → (Str → Option Int) → S → Prop
  | [], _, _, _ => True
  | k :: r, st, vr, φ => stepOk A cs k st vr φ ∧ runOk A cs r (stepS A cs k st vr φ).1 (stepS A cs k st vr φ).2.1 (stepS A cs k st vr φ).2.2
theorem runS_app {S : Type} {A : Ap0 S} {cs : List Str} {l : List Sk} {k : Sk} : ∀ {st vr φ}, runS A cs (l ++ [k]) st vr φ = stepS A cs k (runS A cs l st vr φ).1 (runS A cs l st vr φ).2.1 (runS A cs l st vr φ).2.2 := by
  induction l with
  | nil => intro st vr φ; rfl
  | cons x r ih => intro st vr φ; exact ih
theorem runOk_at {S : Type} {A : Ap0 S} {cs : List Str} : ∀ {l : List Sk} {st vr φ}, runOk A cs l st vr φ → ∀ {i : Nat} {k : Sk}, l[i]? = some k → stepOk A cs k (runS A cs (l.take i) st vr φ).1 (runS A cs (l.take i) st vr φ).2.1 (runS A cs (l.take i) st vr φ).2.2
  | [], _, _, _, _, i, k, e => by simp at e
  | x :: r, st, vr, φ, h, 0, k, e => by
    have e : x = k := by simpa using e
    subst e
    exact h.1
  | x :: r, st, vr, φ, h, i + 1, k, e => runOk_at (l := r) h.2 (i := i) (by simpa using e)
theorem runS_len {S : Type} {A : Ap0 S} {cs : List Str} : ∀ {l : List Sk} {st vr φ}, (runS A cs l st vr φ).1.length = st.length
  | [], _, _, _ => rfl
  | k :: r, st, vr, φ => (runS_len (l := r)).trans stepS_len
abbrev s_do_program : Stmt := top 43
abbrev sc_do_program_N : List Str := ["program", "cells", "start", "apply", "variables", "state", "step"]
theorem sc_do_program : FnScope sc_do_program_N ["program", "cells", "start", "apply"] (defScope s_do_program) := ⟨rfl, rfl, rfl, by decide +kernel, rfl, by decide +kernel, by decide +kernel⟩
-- 0 program, 1 cells, 2 start, 3 apply, 4 variables, 5 state, 6 step
def sp_doprog (P : Program) (w : World) (K : PySem.W.Frag) (mg : Str → Option Value) (base : Heap) (R Wr B Pg : Addr) : Sp := fun vs H Q _ => ∃ (S : Type) (A : Ap0 S) (pa cl stt ap : Addr) (n : Str) (ks : List Sk) (cs : List Str) (st : List Int) (φ : S),
  vs = [.ref pa, .ref cl, .ref stt, .ref ap] ∧ Cle P w K mg base 4 ap A ∧ A.iv φ H ∧ PgA H R Wr B Pg pa n ks ∧ FT H cl (cs.map V.str) ∧ H stt = some (.tup (st.map V.int)) ∧ ks.length ≤ 100 ∧ cs.length ≤ 1000 ∧ st.length = cs.length ∧ runOk A cs ks st (fun _ => none) φ ∧
  ∀ t H', H' t = some (.tup ((runS A cs ks st (fun _ => none) φ).1.map V.int)) → A.iv (runS A cs ks st (fun _ => none) φ).2.2 H' → UX.SmS A.w H H' → Q (.ref t) H'
theorem d_doprog (T : PT K mg R Wr B Pg) (D : TD K mg "do_program" s_do_program) (d_do_step : Dn P w K mg base CX0 6 "do_step" (sp_dostep P w K mg base R Wr B)) : Dn P w K mg base CX0 7 "do_program" (sp_doprog P w K mg base R Wr B Pg) := by
  refine D.dn sc_do_program (fun _ _ _ _ _ _ us hl => match us, hl with | [_, _, _, _], _ => rfl) (fun vs H Q E h => ?_) (fun f cdv Ar outer s H vs Q E hr h => ?_)
  · obtain ⟨S, A, pa, cl, stt, ap, n, ks, cs, st, φ, rfl, _⟩ := h; rfl
  · obtain ⟨S, A, pa, cl, stt, ap, n, ks, cs, st, φ, rfl, hc, hφ, hpg, hcl, hst, hks, hcs, hl, hok, q⟩ := h
    refine ⟨_, (pss_cons (ps_set (i := 4) sc_do_program.nd rfl (Or.inl rfl) pe_dnewK)
      (pss_cons (ps_set (i := 5) sc_do_program.nd rfl (Or.inl rfl) (pv 2))
      (pss_cons (ps_for PassesOwn.never rfl (pi_tup (pe_fld (pv 0) (by rfl))) (pg_name (i := 6) sc_do_program.nd rfl (Or.inl rfl)) (pss_one (ps_set (i := 5) sc_do_program.nd rfl (Or.inl rfl) (pe_d d_do_step hr (by decide) pass0 (by rfl) (pa_cons (pv 6) (pa_cons (pv 1) (pa_cons (pv 5) (pa_cons (pv 4) (pa_cons (pv 3) pa_nil)))))))))
      (pss_one (ps_ret (pv 5)))))), ?_⟩
    obtain ⟨dx, p, ts, hp1, hp2, hp3⟩ := hpg
    walk_at "rd"
    intro vd hvd
    have s1 : Same H (upd H vd (.dK [])) := UL.Same.new hvd
    have ev : upd H vd (.dK []) vd = some (.dK []) := upd_same
    have nfp := hc.new hφ hvd
    generalize upd H vd (.dK []) = H1 at s1 ev ⊢
    have lts := plenQ hp3
    refine ⟨Pg, dx, _, s1 _ _ hp1, T.cP, T.aP_steps, .ref p, rfl, p, rfl, ⟨_, FT.sq (FT.same s1 hp2)⟩, FJ.tup (xs := ts.map V.ref) (fun i σ' H' => ∃ (t : Addr) (z : Option V), σ' = [some (.ref pa), some (.ref cl), some (.ref stt), some (.ref ap), some (.ref vd), some (.ref t), z] ∧ H' t = some (.tup ((runS A cs (ks.take i) st (fun _ => none) φ).1.map V.int)) ∧ VrH H' vd i (runS A cs (ks.take i) st (fun _ => none) φ).2.1 ∧ A.iv (runS A cs (ks.take i) st (fun _ => none) φ).2.2 H' ∧ UX.SmS A.w H H') ⟨stt, _, rfl, s1 _ _ hst, VrH.new ev, hc.same hφ s1, SmS.same s1⟩ (fun i σ' H' _ inv => ?_) (fun i x σ' H' hx inv => ?_) fun σ' H' inv => ?_⟩
    · obtain ⟨t, z, _, _, _, _, sm⟩ := inv
      obtain ⟨o, e, d⟩ := hp2
      exact FT.sq ⟨o, sm _ _ e (hc.off hφ e fun _ z => nomatch z), d⟩
    · obtain ⟨t, z, rfl, ht, hvr, hφi, sm⟩ := inv
      obtain ⟨stp, hsi, rfl⟩ := ratQ hx
      obtain ⟨k, hk, hkA⟩ := patQ hp3 hsi
      have il : i < ks.length := (List.getElem?_eq_some_iff.mp hk).1
      walk_at "rd"
      have noff : ∀ (b : Addr) (o : HO), H b = some o → ((∃ C dx fs, o = .ins C dx fs) ∨ ∃ ob xs, o = .frz ob (.tup xs)) → b ∉ A.w := fun b o e h => hc.off hφ e (by rcases h with ⟨_, _, _, rfl⟩ | ⟨_, _, rfl⟩ <;> exact fun _ z => nomatch z)
      have et : ks.take (i + 1) = ks.take i ++ [k] := by rw [List.take_add_one, hk]; rfl
      refine ⟨S, A, stp, cl, t, vd, ap, k, cs, _, _, i, _, rfl, hc, hφi, nfp, StA.smS hkA sm noff, ?_, ht, hvr, by omega, hcs, runS_len.trans hl, runOk_at hok hk, fun t' H2 ht' hvr' hφ' sm' => ?_⟩
      · obtain ⟨o, e, d⟩ := hcl
        exact ⟨o, sm _ _ e (noff _ _ e (.inr ⟨_, _, rfl⟩)), d⟩
      · refine ⟨t', ⟨rfl, _, rfl⟩, ?_, ?_, ?_, fun c o e nc => ?_⟩
        · rw [et, runS_app]; exact ht'
        · rw [et, runS_app]; exact hvr'
        · rw [et, runS_app]; exact hφ'
        · have cv : c ≠ vd := ne_of_none e hvd
          exact sm' _ _ (sm _ _ e nc) fun z => (List.mem_cons.mp z).elim cv nc
    · obtain ⟨t, z, rfl, ht, hvr, hφi, sm⟩ := inv
      rw [List.length_map, lts, List.take_length] at ht hφi
      walk_at "rd"
      exact q t H' ht hφi sm
end
end U
set_option Elab.async false
set_option linter.all false
set_option maxRecDepth 100000
set_option maxHeartbeats 4000000
/-! defs whose code object is known (they make lambdas) -/
namespace UX
open PySem PySem.Spec PyProof.Rows L2 UL UV UW ClX LamX NdefX
structure MDc (K : PySem.W.Frag) (C : Addr) (m qual : Str) (st : Stmt) (c : Addr) : Prop where
  ex : ∃ (f : Addr) (oc kV doc pm ct : Value) (od an : Option Addr) (osl : Array (Option Value)), K.lookup f = some ⟨oc, od, .func (PySem.W.fnOf m qual (defArgs st) (defBody st) (defScope st) .none kV doc pm an (.ref c) ct), osl⟩ ∧ PySem.W.codeIn K (.ref c) qual = true ∧ Meth K C m f
structure TDc (K : PySem.W.Frag) (mg : Str → Option Value) (x : Str) (st : Stmt) (c : Addr) : Prop where
  ex : ∃ (f : Addr) (oc kV doc pm ct : Value) (od an : Option Addr) (osl : Array (Option Value)), K.lookup f = some ⟨oc, od, .func (PySem.W.fnOf x x (defArgs st) (defBody st) (defScope st) .none kV doc pm an (.ref c) ct), osl⟩ ∧ PySem.W.codeIn K (.ref c) x = true ∧ mg x = some (.ref f) ∧ PySem.W.keepIn K (.ref f) = true
section
variable {P : Program} {w : World} {K : PySem.W.Frag} {mg : Str → Option Value} {base : Heap} {C c : Addr} {x m qual : Str} {st : Stmt} {N ps : List Str} {k : Nat} {sp : Sp}
theorem MDc.mn (D : MDc K C m qual st c) (S : FnScope N ps (defScope st)) (b : BindOk m qual st ps) (len : ∀ vs H Q E, sp vs H Q E → vs.length = ps.length)
    (body : ∀ (f : Addr) (A : Around) (outer : List Env) (s : Shared) (H : Hp) (vs : List V) (Q : VK) (E : XK), Room k (A.deeper (envOfC qual (defScope st) s.heap.objs.size f (.ref c))) → sp vs H Q E →
      ∃ t, PSs (cxOf CX0 P w K mg base N qual (defScope st) f (.ref c) A outer s H E).nox (defBody st) t ∧ t { nx := fun _ H' => Q .non H', rt := Q } (L2.start N vs) H) : Mn P w K mg base CX0 (k + 1) C m sp := by
  obtain ⟨f, oc, kV, doc, pm, ct, od, an, osl, lk, hcd, M⟩ := D.ex
  refine ⟨f, _, ps, fn_of lk hcd S len fun A outer s H vs Q E hr h => ?_, M, .all (b kV doc pm an (.ref c) ct)⟩
  obtain ⟨t, ht, hq⟩ := body f A outer s H vs Q E hr h
  exact ⟨t, ht.nox, hq⟩
theorem TDc.dn (D : TDc K mg x st c) (S : FnScope N ps (defScope st)) (b : BindOk x x st ps) (len : ∀ vs H Q E, sp vs H Q E → vs.length = ps.length)
    (body : ∀ (f : Addr) (A : Around) (outer : List Env) (s : Shared) (H : Hp) (vs : List V) (Q : VK) (E : XK), Room k (A.deeper (envOfC x (defScope st) s.heap.objs.size f (.ref c))) → sp vs H Q E →
      ∃ t, PSs (cxOf CX0 P w K mg base N x (defScope st) f (.ref c) A outer s H E).nox (defBody st) t ∧ t { nx := fun _ H' => Q .non H', rt := Q } (L2.start N vs) H) : Dn P w K mg base CX0 (k + 1) x sp := by
  obtain ⟨f, oc, kV, doc, pm, ct, od, an, osl, lk, hcd, hm, kp⟩ := D.ex
  refine ⟨f, _, ps, fn_of lk hcd S len fun A outer s H vs Q E hr h => ?_, hm, kp, .all (b kV doc pm an (.ref c) ct)⟩
  obtain ⟨t, ht, hq⟩ := body f A outer s H vs Q E hr h
  exact ⟨t, ht.nox, hq⟩
end
/-- the table of a def whose lambdas bear the name q -/
structure LamT (T : List NTab) (base : Heap) (mg : Str → Option Value) (c P : Addr) (q : Str) : Prop where
  tb : TabB base mg c P
  mem : (P, fun _ _ => q) ∈ T
  uni : ∀ p ∈ T, p.1 = P → p.2 = fun _ _ => q
theorem Cal.imp {P : Program} {w : World} {K : PySem.W.Frag} {mg : Str → Option Value} {base : Heap} {k : Nat} {a : Addr} {G G' : Hp → Prop} {sp sp' : Sp} (d : Cal P w K mg base k a G sp) (h : ∀ H, G' H → G H) (hs : ∀ vs H Q E, sp' vs H Q E → sp vs H Q E) : Cal P w K mg base k a G' sp' :=
  ⟨d.kind.imp (fun z H g => z H (h H g)) fun ⟨C, z⟩ => ⟨C, fun H g => z H (h H g)⟩, fun A outer s H us vs Q E hr e0 g r q => d.run A outer s H us vs Q E hr e0 (h H g) r (hs _ _ _ _ q)⟩
theorem LamG.made {f c' : Addr} {name qual : Str} {params : Arguments} {scope : Scope} {CL : List (Str × Addr)} {e : Expr} {fr : List Str} {ws : List V} {H3 H4 : Hp} (cap : Capd CL fr ws H3 H4) (hl : ws.length = fr.length) (h1f : ∀ y, (y, NameKind.free) ∈ scope.names → y ∈ fr) (h2f : ∀ y ∈ fr, (y, NameKind.free) ∈ scope.names)
    (h1 : H3 f = some (LamO f ⟨name, qual, params, [], scope, cloFrom CL scope.names [], c'⟩ e)) (h2 : H3 c' = some (CodeO c' qual)) : LamG f ⟨name, qual, params, [], scope, cloFrom CL scope.names [], c'⟩ e fr ws H4 := by
  have at_ : ∀ y ∈ fr, ∃ i v, fr[i]? = some y ∧ ws[i]? = some v := fun y hy => by
    obtain ⟨i, hi⟩ := List.mem_iff_getElem?.mp hy
    have hlt : i < ws.length := by rw [hl]; exact (List.getElem?_eq_some_iff.mp hi).1
    exact ⟨i, _, hi, List.getElem?_eq_getElem hlt⟩
  have hfree : ∀ y ∈ scope.names, y.2 = .free → ∃ c, CL.lookup y.1 = some c := fun ⟨y, k⟩ hy e => by
    have e : k = .free := e
    subst e
    obtain ⟨i, v, a, b⟩ := at_ y (h1f y hy)
    obtain ⟨c, _, h, _⟩ := cap.has i y v a b
    exact ⟨c, h⟩
  refine ⟨cap.same _ _ h1, cap.same _ _ h2, hl, fun x y c a b => cap.inj x y c (clo_cm hfree a) (clo_cm hfree b), fun y c a => ?_, fun i y v a b => ?_⟩
  · rcases cloFrom_mem (PySem.mem_of_lookup a) with hm | ⟨h3, _⟩
    · cases hm
    · exact h1f y h3
  · obtain ⟨c, o, h3, h4⟩ := cap.has i y v a b
    exact ⟨c, o, clo_has hfree (h2f y (List.mem_of_getElem? a)) h3, h4⟩
theorem Capd.fresh {CL : List (Str × Addr)} {fr : List Str} {ws : List V} {H3 H4 H5 : Hp} (cap : Capd CL fr ws H3 H4) (hl : ws.length = fr.length) (s : ∀ b o u, H4 b = some (.frz o u) → H5 b = some (.frz o u)) {b : Addr} {o : HO} (e5 : H5 b = some o) (n : ∀ x y, o ≠ .frz x y) : unt (cellsOf CL fr) H5 b = some o := by
  rw [unt_out]; exact e5
  intro z
  obtain ⟨y, hy, h1⟩ := cellsOf_mem.mp z
  obtain ⟨i, hi⟩ := List.mem_iff_getElem?.mp hy
  have hlt : i < ws.length := by rw [hl]; exact (List.getElem?_eq_some_iff.mp hi).1
  obtain ⟨c, o', h2, h3⟩ := cap.has i y _ hi (List.getElem?_eq_getElem hlt)
  rw [h1] at h2
  cases h2
  rw [s _ _ _ h3] at e5
  exact n _ _ (Option.some.inj e5).symm
end UX
set_option Elab.async false
set_option linter.all false
set_option maxRecDepth 100000
set_option maxHeartbeats 4000000
set_option pp.deepTerms true
set_option pp.maxSteps 400000
namespace U
open PySem PySem.Spec PyProof.Rows L2 UL UX
local macro_rules | `(tactic| walk_at "rd") => `(tactic| simp only [sMatch, tJs, tFmt, tBC, tMethA, tMakeL, iEnumS, tSeq, tAsg, tOp, tCB, tCons, tNil, tVar, tC, tB, tTest, tNot, tIfS, tNext, tYes, tUn, rU, tM0, tGFrom, tGThen, tG0, tYfLst, gcxK, tSubO, tProp, tListG, tMethG, tBMF, tFld, sFld, tMeth, tMake, tSl, tNoPart, tPart, tM1, gTup, gCons, gNil, tDrop, tFor_eq, tLc_eq, tLc2_eq, iRng1_eq, StX.tStar, iList, iTup, iStr, iAny_var, iZipB, tLenSetS, wipe, tVar, tAndV, tOrV, tNotV, tOr, tAnd, tLst, tTup, tBM, tBM0, tChain, tCall, cxK, noxK, addII, addSS, mulII, eqII, neII, neSS, cIntI, cAbsI, rI, rI0, rLt, rLe, rGt_, rGe_, rSub_, rMod, rPow, rDivW, rNeg, gName, tRet, L2.start, List.length_cons, List.length_nil, List.map_cons, List.map_nil, List.replicate, List.cons_append, List.nil_append, List.getElem?_cons_zero, List.getElem?_cons_succ, List.set_cons_zero, List.set_cons_succ, Option.some.injEq, exists_eq_left', exists_eq_left, V.int.injEq, V.bl.injEq, V.str.injEq, V.ref.injEq, V.ty.injEq, List.cons.injEq, and_true, true_and, reduceCtorEq, false_and, exists_false, or_false, false_or, exists_and_left, exists_and_right, List.append_nil, forall_eq, decide_eq_true_eq, Bool.not_eq_true, Nat.reduceAdd, Nat.reduceSub, List.replicate_zero, List.replicate_succ, Nat.zero_le, ite_true, ite_false, if_true, if_false])
section
variable {P : Program} {w : World} {K : PySem.W.Frag} {mg : Str → Option Value} {base : Heap}
open UV UW NdefX ClX
/-! ### the states of n cells of size s -/
def ext (s : Nat) (st : List Int) : List (List Int) := (List.range s).map fun v : Nat => st ++ [(v : Int)]
def sts (s : Nat) : Nat → List (List Int)
  | 0 => [[]]
  | n + 1 => (sts s n).flatMap (ext s)
theorem ext_snoc (s : Nat) (st : List Int) : ext (s + 1) st = ext s st ++ [st ++ [(s : Int)]] := by
  unfold ext; rw [List.range_succ, List.map_append]; rfl
theorem take_flat {α β : Type} {L : List α} {i : Nat} {x : α} (h : L[i]? = some x) (f : α → List β) : (L.take (i + 1)).flatMap f = (L.take i).flatMap f ++ f x := by
  rw [List.take_add_one, h, List.flatMap_append]; simp
theorem sts_len (s : Nat) : ∀ n, (sts s n).length = s ^ n
  | 0 => rfl
  | n + 1 => by
    have e : ∀ L : List (List Int), (L.flatMap (ext s)).length = L.length * s := by
      intro L
      induction L with
      | nil => simp
      | cons x r ih => rw [List.flatMap_cons, List.length_append, ih, List.length_cons]; simp [ext]; rw [Nat.add_mul]; omega
    rw [sts, e, sts_len s n, Nat.pow_succ]
theorem sts_item (s : Nat) : ∀ n st, st ∈ sts s n → st.length = n ∧ ∀ v ∈ st, 0 ≤ v ∧ v < s
  | 0, st, h => by
    have : st = [] := by simpa [sts] using h
    subst this; simp
  | n + 1, st, h => by
    rw [sts, List.mem_flatMap] at h
    obtain ⟨s0, h0, h1⟩ := h
    obtain ⟨v, hv, rfl⟩ := List.mem_map.mp h1
    obtain ⟨l, q⟩ := sts_item s n s0 h0
    refine ⟨by simp [l], fun u hu => ?_⟩
    rcases List.mem_append.mp hu with z | z
    · exact q u z
    · have : u = (v : Int) := by simpa using z
      have := List.mem_range.mp hv
      omega
theorem pow_le {s n : Nat} (hs : s ≤ 3) (hn : n ≤ 3) : s ^ n ≤ 27 := by
  have : s ^ n ≤ 3 ^ n := Nat.pow_le_pow_left hs n
  have : 3 ^ n ≤ 3 ^ 3 := Nat.pow_le_pow_right (by decide) hn
  omega
/-- ts are tuples of these ints -/
def Tus (H : Hp) (ts : List Addr) (xs : List (List Int)) : Prop := Paired (fun t st => H t = some (.tup (st.map V.int))) ts xs
theorem Tus.same {H H' : Hp} {ts : List Addr} {xs : List (List Int)} (x : Tus H ts xs) (s : Same H H') : Tus H' ts xs := L2.Paired.mapP x fun _ _ z => s _ _ z
theorem Tus.put {H : Hp} {ts : List Addr} {xs : List (List Int)} {q : Addr} {zs : List V} {o : HO} (x : Tus H ts xs) (hq : H q = some (.lst zs)) : Tus (upd H q o) ts xs := L2.Paired.mapP x fun t st z => by
  rw [upd_ne (fun e => by rw [e, hq] at z; cases z)]; exact z
theorem Tus.at {H : Hp} {ts : List Addr} {xs : List (List Int)} {i : Nat} {x : V} (h : Tus H ts xs) (e : (ts.map V.ref)[i]? = some x) : ∃ t st, x = .ref t ∧ xs[i]? = some st ∧ H t = some (.tup (st.map V.int)) := by
  rw [List.getElem?_map] at e
  cases ht : ts[i]? with
  | none => rw [ht] at e; cases e
  | some t =>
    rw [ht] at e; cases e
    obtain ⟨st, h1, h2⟩ := pr_at h ht
    exact ⟨t, st, rfl, h1, h2⟩
theorem flat_len (s : Nat) : ∀ L : List (List Int), (L.flatMap (ext s)).length = L.length * s
  | [] => by simp
  | x :: r => by
    rw [List.flatMap_cons, List.length_append, flat_len s r, List.length_cons]
    simp only [ext, List.length_map, List.length_range, Nat.add_mul]
    omega
theorem ext_len (s : Nat) (st : List Int) : (ext s st).length = s := by simp [ext]
def sp_states : Sp := fun vs H Q _ => ∃ n s : Nat, vs = [.int n, .int s] ∧ n ≤ 3 ∧ s ≤ 3 ∧ ∀ q H' ts, H q = none → H' q = some (.lst (ts.map V.ref)) → Tus H' ts (sts s n) → Same H H' → Q (.ref q) H'
abbrev s_list_states : Stmt := top 40
abbrev sc_list_states_N : List Str := ["number", "size", "found", "_", ".0", "state", "value"]
theorem sc_list_states : FnScope sc_list_states_N ["number", "size"] (defScope s_list_states) := ⟨rfl, rfl, rfl, by decide +kernel, rfl, by decide +kernel, by decide +kernel⟩
-- 0 number, 1 size, 2 found, 3 _, 4 .0, 5 state, 6 value
theorem d_list_states (T : Nm mg) (D : TD K mg "list_states" s_list_states) : Dn P w K mg base CX0 1 "list_states" sp_states := by
  refine D.dn sc_list_states (fun _ _ _ _ _ _ us hl => match us, hl with | [_, _], _ => rfl) (fun vs H Q E h => ?_) (fun f cdv A outer s H vs Q E hr h => ?_)
  · obtain ⟨i, ns, rfl, _⟩ := h; rfl
  · obtain ⟨n, sz, rfl, hn, hs, q⟩ := h
    refine ⟨_, (pss_cons (ps_set (i := 2) sc_list_states.nd rfl (Or.inl rfl) (pe_lst (pa_cons (pe_tup pa_nil) pa_nil)))
      (pss_cons (ps_for PassesOwn.never rfl (pi_range1 (by rfl) T.n_range (pa_cons (pv 0) pa_nil)) (pg_name (i := 3) sc_list_states.nd rfl (Or.inl rfl)) (pss_one (ps_setLc2 (i := 2) (own := [(".0", 4), ("state", 5), ("value", 6)]) (vs1 := [6]) (g := (gName 5)) (tt := tYes) (g1 := (gName 6)) (tt1 := tYes) rfl sc_list_states.nd rfl rfl (sw_true rfl rfl rfl (by decide +kernel)) (pi_list (pv 2)) (blkOk_by (N := sc_list_states_N) (sc := defScope s_list_states) (by decide +kernel)) (by decide) (fun _ _ _ _ _ => pg_name (i := 5) sc_list_states.nd rfl (Or.inl rfl)) (fun _ _ _ _ _ => pts_nil) (fun _ _ _ _ _ => (pi_range1 (by rfl) T.n_range (pa_cons (pv 1) pa_nil))) (fun _ _ _ _ _ => pg_name (i := 6) sc_list_states.nd rfl (Or.inl rfl)) (fun _ _ _ _ _ => pts_nil) (fun _ _ _ _ _ => (pe_tup (pa_starK K rfl (pv 5) (pa_cons (pv 6) pa_nil)))))))
      (pss_one (ps_ret (pv 2))))), ?_⟩
    walk_at "rd"
    have pw := fun i (h : i ≤ 3) => pow_le hs h
    refine fun p hp => ⟨by decide, fun p1 hp1 => ⟨by omega, by omega, FJ.rangeI (fun i σ' H' => ∃ q ts x y z w, σ' = [some (.int n), some (.int sz), some (.ref q), x, y, z, w] ∧ H' q = some (.lst (ts.map V.ref)) ∧ H q = none ∧ Tus H' ts (sts sz i) ∧ Same H H') (by omega) ?_ (fun i σ' H' hi inv => ?_) fun σ' H' inv => ?_⟩⟩
    · have s1 := UL.Same.new (o := .tup []) hp
      have n1 : H p1 = none := by
        cases e : H p1 with
        | none => rfl
        | some o => rw [s1 _ _ e] at hp1; cases hp1
      refine ⟨p1, [p], _, _, _, _, rfl, upd_same, n1, .cons ?_ .nil, UL.Same.put s1 n1⟩
      rw [upd_ne (fun e => by rw [e, upd_same] at hp1; cases hp1), upd_same]; rfl
    · obtain ⟨q0, ts, x, y, z, w, rfl, hq0, hn0, ht, sm⟩ := inv
      walk_at "rd"
      have hi2 : i < n := by omega
      have hts : ts.length = sz ^ i := by rw [ht.length, sts_len]
      have hts27 : ts.length ≤ 27 := by rw [hts]; exact pw i (by omega)
      refine ⟨⟨_, .inl (.inl hq0)⟩, fun D hD => LJ2.it (walk_list (xs := ts.map V.ref)) (fun k H2 => ∃ us, H2 D = some (.lst (us.map V.ref)) ∧ Tus H2 us (((sts sz i).take k).flatMap (ext sz)) ∧ Same H' H2) ⟨[], upd_same, .nil, UL.Same.new hD⟩ (fun k H2 _ inv => ?_) (fun k x H2 H3 hk inv yy => ?_) fun H2 inv => ?_⟩
      · obtain ⟨us, _, _, s2⟩ := inv
        exact .inl (.inl (s2 _ _ hq0))
      · obtain ⟨us, hus, htu, s2⟩ := inv
        obtain ⟨rfl, hx⟩ := yy
        obtain ⟨t, st, rfl, hst, htt⟩ := ht.at hx
        refine ⟨rfl, ?_⟩
        walk_at "rd"
        rw [List.length_map] at hk
        refine ⟨by omega, by omega, NJ.it (n := sz) (J := Itr 0 sz) walk_range (fun j H3 => ∃ us, H3 D = some (.lst (us.map V.ref)) ∧ Tus H3 us (((sts sz i).take k).flatMap (ext sz) ++ ext j st) ∧ Same H' H3) ⟨us, hus, by simpa [ext] using htu, s2⟩ (fun _ _ _ _ => trivial) (fun j x H3 H4 hj inv yy => ?_) fun H3 inv => ?_⟩
        · obtain ⟨vs, hvs, htv, s3⟩ := inv
          obtain ⟨rfl, rfl⟩ := yy
          refine ⟨rfl, ?_⟩
          walk_at "rd"
          have hsi := sts_item sz i st (List.mem_of_getElem? hst)
          have hvl : vs.length ≤ 27 * 3 + 3 := by
            rw [htv.length, List.length_append, flat_len, ext_len, List.length_take]
            have : min k (sts sz i).length * sz ≤ 27 * 3 := Nat.mul_le_mul (by omega) hs
            omega
          refine ⟨_, .inl (.inl (.inl (s3 _ _ htt))), by rw [sizeLine_eq]; simp [hsi.1]; omega, fun p2 hp2 => ⟨_, by rw [upd_ne (ne_of_none hvs hp2)]; exact hvs, by rw [sizeLine_eq, List.length_map]; omega, vs ++ [p2], by rw [upd_same, List.map_append]; rfl, ?_, ?_⟩⟩
          · have h1 : Tus (upd H4 p2 (.tup (st.map V.int ++ [.int (0 + (j : Int))]))) (vs ++ [p2]) ((((sts sz i).take k).flatMap (ext sz) ++ ext j st) ++ [st ++ [(j : Int)]]) := (Tus.same htv (UL.Same.new hp2)).snoc (by rw [upd_same]; simp)
            rw [ext_snoc, ← List.append_assoc]
            exact h1.put (zs := vs.map V.ref) (by rw [upd_ne (ne_of_none hvs hp2)]; exact hvs)
          · exact UL.Same.put (UL.Same.put s3 (Same.free s3 hp2)) hD
        · obtain ⟨vs, hvs, htv, s3⟩ := inv
          refine ⟨vs, hvs, ?_, s3⟩
          rw [take_flat hst]
          exact htv
      · obtain ⟨us, hus, htu, s2⟩ := inv
        refine ⟨D, ⟨rfl, _, rfl⟩, us, hus, Same.free sm hD, ?_, Same.tr sm s2⟩
        rw [List.length_map, hts, ← sts_len, List.take_length] at htu
        exact htu
    · obtain ⟨q0, ts, x, y, z, w, rfl, hq0, hn0, ht, sm⟩ := inv
      walk_at "rd"
      exact q q0 _ ts hn0 hq0 ht sm
abbrev s__law_states : Stmt := top 67
abbrev sc__law_states_N : List Str := ["_law_count", "_law_size", "_law_states_here", "_law_k", "_law_longer", "_law_state", "_law_value"]
theorem sc__law_states : FnScope sc__law_states_N ["_law_count", "_law_size"] (defScope s__law_states) := ⟨rfl, rfl, rfl, by decide +kernel, rfl, by decide +kernel, by decide +kernel⟩
-- 0 _law_count, 1 _law_size, 2 _law_states_here, 3 _law_k, 4 _law_longer, 5 _law_state, 6 _law_value
theorem d_law_states (T : Nm mg) (D : TD K mg "_law_states" s__law_states) : Dn P w K mg base CX0 1 "_law_states" sp_states := by
  refine D.dn sc__law_states (fun _ _ _ _ _ _ us hl => match us, hl with | [_, _], _ => rfl) (fun vs H Q E h => ?_) (fun f cdv A outer s H vs Q E hr h => ?_)
  · obtain ⟨i, ns, rfl, _⟩ := h; rfl
  · obtain ⟨n, sz, rfl, hn, hs, q⟩ := h
    refine ⟨_, (pss_cons (ps_set (i := 2) sc__law_states.nd rfl (Or.inl rfl) (pe_lst (pa_cons (pe_tup pa_nil) pa_nil)))
      (pss_cons (ps_for PassesOwn.never rfl (pi_range1 (by rfl) T.n_range (pa_cons (pv 0) pa_nil)) (pg_name (i := 3) sc__law_states.nd rfl (Or.inl rfl)) (pss_cons (ps_set (i := 4) sc__law_states.nd rfl (Or.inl rfl) (pe_lst pa_nil))
      (pss_cons (ps_for PassesOwn.never rfl (pi_list (pv 2)) (pg_name (i := 5) sc__law_states.nd rfl (Or.inl rfl)) (pss_one (ps_for PassesOwn.never rfl (pi_range1 (by rfl) T.n_range (pa_cons (pv 1) pa_nil)) (pg_name (i := 6) sc__law_states.nd rfl (Or.inl rfl)) (pss_one (ps_expr (pe_bm PySem.F.plainAttrs_list PySem.F.slot_list_append PySem.F.type_list_append mt_append (pv 4) (pa_cons (pe_op op_addA (pv 5) (pe_tup (pa_cons (pv 6) pa_nil))) pa_nil)))))))
      (pss_one (ps_set (i := 2) sc__law_states.nd rfl (Or.inl rfl) (pe_callTy call_listA (by rfl) T.n_list (by decide +kernel) (pa_cons (pv 4) pa_nil)))))))
      (pss_one (ps_ret (pv 2))))), ?_⟩
    walk_at "rd"
    have pw := fun i (h : i ≤ 3) => pow_le hs h
    refine fun p hp => ⟨by decide, fun p1 hp1 => ⟨by omega, by omega, FJ.rangeI (fun i σ' H' => ∃ q ts x y z w, σ' = [some (.int n), some (.int sz), some (.ref q), x, y, z, w] ∧ H' q = some (.lst (ts.map V.ref)) ∧ H q = none ∧ Tus H' ts (sts sz i) ∧ Same H H') (by omega) ?_ (fun i σ' H' hi inv => ?_) fun σ' H' inv => ?_⟩⟩
    · have s1 := UL.Same.new (o := .tup []) hp
      have n1 : H p1 = none := Same.free s1 hp1
      refine ⟨p1, [p], _, _, _, _, rfl, upd_same, n1, .cons ?_ .nil, UL.Same.put s1 n1⟩
      rw [upd_ne (fun e => by rw [e, upd_same] at hp1; cases hp1), upd_same]; rfl
    · obtain ⟨q0, ts, x, y, z, w, rfl, hq0, hn0, ht, sm⟩ := inv
      walk_at "rd"
      have hi2 : i < n := by omega
      have hts : ts.length = sz ^ i := by rw [ht.length, sts_len]
      have hts27 : ts.length ≤ 27 := by rw [hts]; exact pw i (by omega)
      refine fun D hD => ⟨⟨_, .inl (.inl (UL.Same.new hD _ _ hq0))⟩, FJ.list (xs := ts.map V.ref) (fun k σ2 H2 => ∃ us z w, σ2 = [some (.int n), some (.int sz), some (.ref q0), some (.int i), some (.ref D), z, w] ∧ H2 D = some (.lst (us.map V.ref)) ∧ Tus H2 us (((sts sz i).take k).flatMap (ext sz)) ∧ Same H' H2) ⟨[], _, _, rfl, upd_same, .nil, UL.Same.new hD⟩ (fun k σ2 H2 _ inv => ?_) (fun k x σ2 H2 hx inv => ?_) fun σ2 H2 inv => ?_⟩
      · obtain ⟨us, _, _, _, _, _, s2⟩ := inv
        exact .inl (.inl (s2 _ _ hq0))
      · obtain ⟨us, z, w, rfl, hus, htu, s2⟩ := inv
        obtain ⟨t, st, rfl, hst, htt⟩ := ht.at hx
        walk_at "rd"
        have hk : k < ts.length := by have := (List.getElem?_eq_some_iff.mp hx).1; simpa using this
        refine ⟨by omega, by omega, FJ.rangeI (fun j σ3 H3 => ∃ us w, σ3 = [some (.int n), some (.int sz), some (.ref q0), some (.int i), some (.ref D), some (.ref t), w] ∧ H3 D = some (.lst (us.map V.ref)) ∧ Tus H3 us (((sts sz i).take k).flatMap (ext sz) ++ ext j st) ∧ Same H' H3) (by omega) ⟨us, _, rfl, hus, by simpa [ext] using htu, s2⟩ (fun j σ3 H3 hj inv => ?_) fun σ3 H3 inv => ?_⟩
        · obtain ⟨vs, w, rfl, hvs, htv, s3⟩ := inv
          walk_at "rd"
          have hsi := sts_item sz i st (List.mem_of_getElem? hst)
          have hvl : vs.length ≤ 27 * 3 + 3 := by
            rw [htv.length, List.length_append, flat_len, ext_len, List.length_take]
            have : min k (sts sz i).length * sz ≤ 27 * 3 := Nat.mul_le_mul (by omega) hs
            omega
          refine ⟨.inl ⟨rfl, _, .inl (.inl hvs)⟩, by rw [sizeLine_eq]; decide, fun p2 hp2 => catT (xs := st.map V.int) (.inl (.inl ?_)) upd_same (by simp) (by rw [sizeLine_eq]; simp [hsi.1]; omega) fun r H4 hr s4 => ?_⟩
          · exact UL.Same.new hp2 _ _ (s3 _ _ htt)
          · have s34 : Same H3 H4 := Same.tr (UL.Same.new hp2) s4
            have hD4 := s34 _ _ hvs
            refine ⟨D, _, _, rfl, rfl, hD4, by rw [sizeLine_eq, List.length_map]; omega, vs ++ [r], ?_, ?_, ?_⟩
            · rw [upd_same, List.map_append]; rfl
            · rw [ext_snoc, ← List.append_assoc]
              have h1 : Tus H4 (vs ++ [r]) ((((sts sz i).take k).flatMap (ext sz) ++ ext j st) ++ [st ++ [(j : Int)]]) := (Tus.same htv s34).snoc (by rw [hr]; simp)
              exact h1.put hD4
            · exact UL.Same.put (Same.tr s3 s34) hD
        · obtain ⟨vs, w, rfl, hvs, htv, s3⟩ := inv
          refine ⟨⟨_, _, rfl⟩, vs, hvs, ?_, s3⟩
          rw [take_flat hst]
          simpa using htv
      · obtain ⟨us, z, w, rfl, hus, htu, s2⟩ := inv
        walk_at "rd"
        refine ⟨D, us.map V.ref, rfl, .inl (.inl (.inl hus)), fun l hl => ?_⟩
        refine ⟨l, ⟨rfl, _, rfl⟩, us, upd_same, Same.free (Same.tr sm s2) hl, ?_, UL.Same.put (Same.tr sm s2) (Same.free (Same.tr sm s2) hl)⟩
        rw [List.length_map, hts, ← sts_len, List.take_length] at htu
        exact Tus.same htu (UL.Same.new hl)
    · obtain ⟨q0, ts, x, y, z, w, rfl, hq0, hn0, ht, sm⟩ := inv
      walk_at "rd"
      exact q q0 _ ts hn0 hq0 ht sm
end
end U
set_option Elab.async false
set_option linter.all false
set_option maxRecDepth 100000
set_option maxHeartbeats 4000000
set_option pp.deepTerms true
set_option pp.maxSteps 400000
namespace U
open PySem PySem.Spec PyProof.Rows L2 UL UX
local macro_rules | `(tactic| walk_at "rd") => `(tactic| simp only [sMatch, tJs, tFmt, tBC, tMethA, tMakeL, iEnumS, tSeq, tAsg, tOp, tCB, tCons, tNil, tVar, tC, tB, tTest, tNot, tIfS, tNext, tYes, tUn, rU, tM0, tGFrom, tGThen, tG0, tYfLst, gcxK, tSubO, tProp, tListG, tMethG, tBMF, tFld, sFld, tMeth, tMake, tSl, tNoPart, tPart, tM1, gTup, gCons, gNil, tDrop, tFor_eq, tLc_eq, tLc2_eq, iRng1_eq, StX.tStar, iList, iTup, iStr, iAny_var, iZipB, tLenSetS, wipe, tVar, tAndV, tOrV, tNotV, tOr, tAnd, tLst, tTup, tBM, tBM0, tChain, tCall, cxK, noxK, addII, addSS, mulII, eqII, neII, neSS, cIntI, cAbsI, rI, rI0, rLt, rLe, rGt_, rGe_, rSub_, rMod, rPow, rDivW, rNeg, gName, tRet, L2.start, List.length_cons, List.length_nil, List.map_cons, List.map_nil, List.replicate, List.cons_append, List.nil_append, List.getElem?_cons_zero, List.getElem?_cons_succ, List.set_cons_zero, List.set_cons_succ, Option.some.injEq, exists_eq_left', exists_eq_left, V.int.injEq, V.bl.injEq, V.str.injEq, V.ref.injEq, V.ty.injEq, List.cons.injEq, and_true, true_and, reduceCtorEq, false_and, exists_false, or_false, false_or, exists_and_left, exists_and_right, List.append_nil, forall_eq, decide_eq_true_eq, Bool.not_eq_true, Nat.reduceAdd, Nat.reduceSub, List.replicate_zero, List.replicate_succ, Nat.zero_le, ite_true, ite_false, if_true, if_false])
section
variable {P : Program} {w : World} {K : PySem.W.Frag} {mg : Str → Option Value} {base : Heap}
open UV UW NdefX ClX LamX
variable {R Wr B Pg Sy IS UC UP Mc : Addr}
abbrev macM : List Str := ["apply", "_list_ends", "list_starts", "check_start", "run", "follow"]
structure MaX (K : PySem.W.Frag) (mg : Str → Option Value) (R Wr B Pg Sy IS UC UP Mc : Addr) : Prop extends SyX K mg R Wr B Pg Sy IS UC UP where
  cM : Cls K Mc
  m_system : NoAttr K Mc "system"
  m_size : NoAttr K Mc "size"
  m_tables : NoAttr K Mc "_tables"
  m_ends : NoAttr K Mc "_ends"
/-- a machine, as its steps read it -/
structure MtA (Mc : Addr) (H : Hp) (m tb : Addr) (sz : Nat) (tk : List (Str × Addr)) (tabs : Str → List Int) : Prop where
  ex : ∃ dx fs, H m = some (.ins Mc dx fs) ∧ fs.lookup ("size" : Str) = some (.int (sz : Nat)) ∧ fs.lookup ("_tables" : Str) = some (.ref tb) ∧ ∀ x ∈ macM, fs.lookup x = none
  ht : H tb = some (.dK (pk tk))
  hv : ∀ f t, valA tk f = some t → H t = some (.tup ((tabs f).map V.int))
theorem MtA.ext {H H' : Hp} {m tb : Addr} {sz : Nat} {tk : List (Str × Addr)} {tabs : Str → List Int} (h : MtA Mc H m tb sz tk tabs) (s : ExtN H H') : MtA Mc H' m tb sz tk tabs := by
  obtain ⟨⟨dx, fs, h1, h2⟩, h3, h4⟩ := h
  exact ⟨⟨dx, fs, s _ _ h1 (fun _ z => nomatch z), h2⟩, s _ _ h3 (fun _ z => nomatch z), fun f t e => s _ _ (h4 f t e) (fun _ z => nomatch z)⟩
theorem MtA.same {H H' : Hp} {m tb : Addr} {sz : Nat} {tk : List (Str × Addr)} {tabs : Str → List Int} (h : MtA Mc H m tb sz tk tabs) (s : Same H H') : MtA Mc H' m tb sz tk tabs := h.ext fun b o e _ => s b o e
/-- the digits in base sz -/
def hor (sz : Nat) (xs : List Int) : Int := xs.foldl (fun i x => i * sz + x) 0
theorem hor_snoc {sz : Nat} {xs : List Int} {x : Int} : hor sz (xs ++ [x]) = hor sz xs * sz + x := by unfold hor; rw [List.foldl_append]; rfl
def horOk (sz : Nat) (tabs : Str → List Int) (f : Str) (xs : List Int) : Prop := 0 ≤ hor sz xs ∧ hor sz xs < (tabs f).length
def fnM (sz : Nat) (tabs : Str → List Int) (f : Str) (xs : List Int) : Int := (tabs f)[(hor sz xs).toNat]?.getD 0
abbrev s_Machine_apply : Stmt := inClass (top 48) 2
abbrev sc_Machine_apply_N : List Str := ["self", "function", "args", "index", "value"]
theorem sc_Machine_apply : FnScope sc_Machine_apply_N ["self", "function", "args"] (defScope s_Machine_apply) := ⟨rfl, rfl, rfl, by decide +kernel, rfl, by decide +kernel, by decide +kernel⟩
-- 0 self, 1 function, 2 args, 3 index, 4 value
def sp_apply (K : PySem.W.Frag) (Mc : Addr) : Sp := fun vs H Q _ => ∃ (m tb l : Addr) (sz : Nat) (tk : List (Str × Addr)) (tabs : Str → List Int) (f : Str) (t : Addr) (xs : List Int), vs = [.ref m, .str f, .ref l] ∧ MtA Mc H m tb sz tk tabs ∧ SqA K H l (xs.map V.int) ∧ sz ≤ 3 ∧ valA tk f = some t ∧ horOk sz tabs f xs ∧ Q (.int (fnM sz tabs f xs)) H
theorem m_apply (T : MaX K mg R Wr B Pg Sy IS UC UP Mc) (D : MD K Mc "apply" "Machine.apply" s_Machine_apply) : Mn P w K mg base CX0 1 Mc "apply" (sp_apply K Mc) := by
  refine D.mn sc_Machine_apply (fun _ _ _ _ _ _ us hl => match us, hl with | [_, _, _], _ => rfl) (fun vs H Q E h => ?_) (fun f cdv A outer s H vs Q E hr h => ?_)
  · obtain ⟨m, tb, l, sz, tk, tabs, f, t, xs, rfl, _⟩ := h; rfl
  · obtain ⟨m, tb, l, sz, tk, tabs, f, t, xs, rfl, ⟨⟨dx, fs, h1, h2, h3, h4⟩, h5, h6⟩, hl, hsz, hf, hok, q⟩ := h
    refine ⟨_, (pss_cons (ps_set (i := 3) sc_Machine_apply.nd rfl (Or.inl rfl) pe_int)
      (pss_cons (ps_for PassesOwn.never rfl (pi_any (pv 2)) (pg_name (i := 4) sc_Machine_apply.nd rfl (Or.inl rfl)) (pss_one (ps_set (i := 3) sc_Machine_apply.nd rfl (Or.inl rfl) (pe_op op_addA (pe_op op_mulA (pv 3) (pe_fld (pv 0) (by rfl))) (pv 4)))))
      (pss_one (ps_ret (pe_ix ix_seq (pe_dget (un1 hr.units) (pe_fld (pv 0) (by rfl)) (pv 1) (fun _ _ => rfl)) (pv 3) (fun _ _ => rfl)))))), ?_⟩
    walk_at "rd"
    obtain ⟨kd, hl⟩ := hl
    refine ⟨kd, ⟨_, hl⟩, fj_any (xs := xs.map V.int) kd (fun i σ' H' => (∃ z, σ' = [some (.ref m), some (.str f), some (.ref l), some (.int (hor sz (xs.take i))), z]) ∧ H' = H) ⟨⟨_, rfl⟩, rfl⟩ (fun i σ' H' _ inv => by rw [inv.2]; exact hl) (fun i x σ' H' hx inv => ?_) fun σ' H' inv => ?_⟩
    · obtain ⟨⟨z, rfl⟩, rfl⟩ := inv
      rw [List.getElem?_map] at hx
      obtain ⟨v, hv, rfl⟩ := Option.map_eq_some_iff.mp hx
      walk_at "rd"
      refine ⟨Mc, dx, fs, h1, T.cM, T.m_size, .int (sz : Nat), h2, mulII.mpr ⟨.inr ⟨by omega, by omega⟩, addII.mpr ⟨⟨?_, _, rfl⟩, rfl⟩⟩⟩
      rw [List.take_add_one, hv]
      show V.int (hor sz (xs.take i) * sz + v) = V.int (hor sz (xs.take i ++ [v]))
      rw [hor_snoc]
    · obtain ⟨⟨z, rfl⟩, rfl⟩ := inv
      rw [List.length_map, List.take_length]
      walk_at "rd"
      simp only [tDGet]
      walk_at "rd"
      have dg : DGet H' tb (.str f) (some (.ref t)) := by
        have z := DGet.k (k := Sum.inr f) h5
        rw [valV_pk, hf] at z
        exact z
      obtain ⟨n, hn⟩ := Int.eq_ofNat_of_zero_le hok.1
      have hlt : n < (tabs f).length := by have := hok.2; omega
      refine ⟨Mc, dx, fs, h1, T.cM, T.m_tables, .ref tb, h3, tb, rfl, .ref t, dg, ixT (.inl (.inl (h6 f t hf))) (v := .int (fnM sz tabs f xs)) ?_ q⟩
      have e : fnM sz tabs f xs = (tabs f)[n] := by
        unfold fnM
        rw [hn, Int.toNat_natCast, List.getElem?_eq_getElem hlt]; rfl
      rw [e, hn]
      exact atN (by rw [List.getElem?_map, List.getElem?_eq_getElem hlt]; rfl)
abbrev s_Machine_list_starts : Stmt := inClass (top 48) 5
abbrev sc_Machine_list_starts_N : List Str := ["self"]
theorem sc_Machine_list_starts : FnScope sc_Machine_list_starts_N ["self"] (defScope s_Machine_list_starts) := ⟨rfl, rfl, rfl, by decide +kernel, rfl, by decide +kernel, by decide +kernel⟩
-- 0 self
/-- the parts of a machine behind its start -/
structure MsA (Mc Sy : Addr) (H : Hp) (m : Addr) (sz : Nat) (y : Addr) (cl : Addr) (cs : List Str) : Prop where
  ex : ∃ dx fs, H m = some (.ins Mc dx fs) ∧ fs.lookup ("size" : Str) = some (.int (sz : Nat)) ∧ fs.lookup ("system" : Str) = some (.ref y) ∧ ∀ x ∈ macM, fs.lookup x = none
  sy : ∃ dy fs, H y = some (.ins Sy dy fs) ∧ fs.lookup ("cells" : Str) = some (.ref cl)
  cl : FT H cl (cs.map V.str)
def sp_starts (Mc Sy : Addr) : Sp := fun vs H Q _ => ∃ (m y cl : Addr) (sz : Nat) (cs : List Str), vs = [.ref m] ∧ MsA Mc Sy H m sz y cl cs ∧ cs.length ≤ 3 ∧ sz ≤ 3 ∧ ∀ l ts H', H l = none → H' l = some (.lst (ts.map V.ref)) → Tus H' ts (sts sz cs.length) → Same H H' → Q (.ref l) H'
theorem m_starts (T : MaX K mg R Wr B Pg Sy IS UC UP Mc) (D : MD K Mc "list_starts" "Machine.list_starts" s_Machine_list_starts) (d_list_states : Dn P w K mg base CX0 1 "list_states" sp_states) : Mn P w K mg base CX0 2 Mc "list_starts" (sp_starts Mc Sy) := by
  refine D.mn sc_Machine_list_starts (fun _ _ _ _ _ _ us hl => match us, hl with | [_], _ => rfl) (fun vs H Q E h => ?_) (fun f cdv A outer s H vs Q E hr h => ?_)
  · obtain ⟨m, y, cl, sz, cs, rfl, _⟩ := h; rfl
  · obtain ⟨m, y, cl, sz, cs, rfl, ⟨⟨dx, fs, h1, h2, h3, h4⟩, ⟨dy, fy, g1, g2⟩, hcl⟩, hc3, hsz, q⟩ := h
    refine ⟨_, (pss_one (ps_ret (pe_d d_list_states hr (by decide) pass0 (by rfl) (pa_cons (pe_callB call_lenA (by rfl) T.n_len (by decide +kernel) (pa_cons (pe_fld (pe_fld (pv 0) (by rfl)) (by rfl)) pa_nil)) (pa_cons (pe_fld (pv 0) (by rfl)) pa_nil))))), ?_⟩
    walk_at "rd"
    refine ⟨Mc, dx, fs, h1, T.cM, T.m_system, .ref y, h3, y, rfl, Sy, dy, fy, g1, T.cls, T.s_cells, .ref cl, g2, lenT (FT.sq hcl) ⟨Mc, dx, fs, h1, T.cM, T.m_size, .int (sz : Nat), h2, cs.length, sz, by rw [List.length_map], hc3, hsz, fun l H' ts e1 e2 e3 s => q l ts H' e1 e2 e3 s⟩⟩
/-- the machine's functions, applied -/
def ApM (G : Hp) (sz : Nat) (tk : List (Str × Addr)) (tabs : Str → List Int) : Ap0 Unit where
  app := fun _ f xs => (fnM sz tabs f xs, ())
  dom := fun _ f xs => (∃ t, valA tk f = some t) ∧ horOk sz tabs f xs
  iv := fun _ H => Same G H
  fp := fun b => ∃ o, G b = some o
  w := []
/-- the lambda that asks the machine -/
theorem cle_lam {f m tb : Addr} {F : NdefX.NF} {e : Expr} {G : Hp} {sz : Nat} {tk : List (Str × Addr)} {tabs : Str → List Int} (T : MaX K mg R Wr B Pg Sy IS UC UP Mc) (hS : NdefX.NScope ["function", "given", "self"] ["function", "given"] ["self"] F.scope)
    (hb : ∀ (pm ctv : Value) (us : List Value), us.length = 2 → bindArgs (PySem.W.kla_fn F.name F.qual F.params e F.scope F.cl pm (.ref F.c) ctv) ⟨us, []⟩ = pure ((["function", "given"] : List Str).zip us))
    (he : ∀ (A : Around) (outer : List Env) (s : Shared) (H : Hp) (E : XK), Room 3 (A.deeper (NdefX.envF F f s.heap.objs.size)) → PE (NdefX.ncx CX0 P w K mg base ["function", "given", "self"] F f A outer s H E) e (tMeth Mc "apply" (sp_apply K Mc) [] E0 (tVar 2) (tCons (tVar 0) (tCons (tVar 1) tNil))))
    (hG : UX.LamG f F e ["self"] [.ref m] G) (hM : MtA Mc G m tb sz tk tabs) (hsz : sz ≤ 3) : Cle P w K mg base 4 f (ApM G sz tk tabs) := by
  refine ⟨UX.Cal.imp (UX.cal_lam (k := 3) (sp := CalSp (ApM G sz tk tabs)) (ws := [.ref m]) hS hb (fun vs H Q E h => ?_) (fun H => Same G H) (fun A outer s H vs Q E hr hg hs h => ?_)) (fun H ⟨_, h⟩ => ⟨hG.same fun b o e _ => h b o e, h⟩) (fun _ _ _ _ h => h), fun φ H H' h s b o e => s b o ⟨o, e⟩ (h b o e), fun φ H b h ⟨o, e⟩ => ⟨o, h b o e⟩, (fun b h => nomatch h), (fun φ H b _ h => nomatch h)⟩
  · obtain ⟨φ, f, l, xs, rfl, _⟩ := h; rfl
  · obtain ⟨φ, z, l, xs, rfl, hφ, hl, hl3, ⟨⟨t, ht⟩, hok⟩, q⟩ := h
    refine ⟨_, he A outer s _ E hr, ?_⟩
    have hc := hg.cels
    have off : ∀ {b : Addr} {o : HO}, H b = some o → (∀ x y, o ≠ .frz x y) → UX.unt (UX.cellsOf F.cl ["self"]) H b = some o := fun {b o} e n => by
      rw [UX.unt_out]; exact e
      intro z
      obtain ⟨o', v, h⟩ := hc b z
      rw [e] at h
      exact n _ _ (Option.some.inj h)
    have hM' := hM.same hs
    obtain ⟨⟨dx, fs, h1, h2, h3, h4⟩, h5, h6⟩ := id hM'
    have hMu : MtA Mc (UX.unt (UX.cellsOf F.cl ["self"]) H) m tb sz tk tabs := ⟨⟨dx, fs, off h1 (fun _ _ z => nomatch z), h2, h3, h4⟩, off h5 (fun _ _ z => nomatch z), fun f t e => off (h6 f t e) (fun _ _ z => nomatch z)⟩
    have er : UX.ret (UX.cellsOf F.cl ["self"]) H (UX.unt (UX.cellsOf F.cl ["self"]) H) = H := by
      funext b
      unfold UX.ret UX.unt
      split <;> rfl
    simp only [NdefX.startF, List.map_cons, List.map_nil, List.length_cons, List.length_nil, List.cons_append, List.nil_append]
    walk_at "rd"
    refine ⟨dx, fs, off h1 (fun _ _ z => nomatch z), h4 _ (by simp), m, tb, l, sz, tk, tabs, z, t, xs, rfl, hMu, ⟨.l, .inl (.inl (off hl fun _ _ z => nomatch z))⟩, hsz, ht, hok, ?_⟩
    show Q (.int (fnM sz tabs z xs)) (UX.ret (UX.cellsOf F.cl ["self"]) H (UX.unt (UX.cellsOf F.cl ["self"]) H))
    rw [er]
    exact q H hφ UX.SmS.refl
theorem sts_nodup (s : Nat) : ∀ n, (sts s n).Nodup
  | 0 => by simp [sts]
  | n + 1 => by
    have ih := sts_nodup s n
    have aux : ∀ {L : List (List Int)}, L.Nodup → (L.flatMap (ext s)).Nodup := by
      intro L hL
      induction L with
      | nil => simp
      | cons x r ih =>
        have hn := List.nodup_cons.mp hL
        rw [List.flatMap_cons]
        refine List.nodup_append.mpr ⟨?_, ih hn.2, fun a ha b hb e => ?_⟩
        · unfold ext
          refine List.pairwise_map.mpr (List.Pairwise.imp (fun {i j} h e => h ?_) List.nodup_range)
          have := List.append_cancel_left e
          have e2 : ((i : Nat) : Int) = (j : Nat) := by simpa using this
          omega
        · subst e
          obtain ⟨v, _, rfl⟩ := List.mem_map.mp ha
          obtain ⟨y, hy, hb⟩ := List.mem_flatMap.mp hb
          obtain ⟨u, _, e⟩ := List.mem_map.mp hb
          have := (List.append_inj' e rfl).1
          exact hn.1 (this ▸ hy)
    exact aux ih
theorem tabs_put {T : List NdefX.NTab} {H H' : Hp} {d : Addr} {kvs : List (List Key × V)} (h : NdefX.TabsN T H) (e : H d = some (.dT kvs)) (s : ∀ b o, b ≠ d → H b = some o → H' b = some o) : NdefX.TabsN T H' := fun p hp => by
  obtain ⟨ps, h1, h2, h3⟩ := h p hp
  refine ⟨ps, s _ _ (ne_of h1 e fun z => nomatch z) h1, h2, fun pos cv hc => ?_⟩
  obtain ⟨c, e1, e2⟩ := h3 pos cv hc
  exact ⟨c, e1, s _ _ (ne_of e2 e fun z => nomatch z) e2⟩
theorem stepS_G {G G' : Hp} {sz : Nat} {tk tk' : List (Str × Addr)} {tabs : Str → List Int} {cs : List Str} {k : Sk} {st : List Int} {vr : Str → Option Int} : stepS (ApM G sz tk tabs) cs k st vr () = stepS (ApM G' sz tk' tabs) cs k st vr () := by cases k <;> rfl
theorem runS_G {G G' : Hp} {sz : Nat} {tk tk' : List (Str × Addr)} {tabs : Str → List Int} {cs : List Str} : ∀ {ks : List Sk} {st : List Int} {vr : Str → Option Int}, runS (ApM G sz tk tabs) cs ks st vr () = runS (ApM G' sz tk' tabs) cs ks st vr ()
  | [], _, _ => rfl
  | k :: r, st, vr => by
    show runS _ cs r _ _ () = runS _ cs r _ _ ()
    rw [stepS_G (G' := G') (tk' := tk')]
    exact runS_G
theorem runOk_G {G G' : Hp} {sz : Nat} {tk : List (Str × Addr)} {tabs : Str → List Int} {cs : List Str} : ∀ {ks : List Sk} {st : List Int} {vr : Str → Option Int}, runOk (ApM G sz tk tabs) cs ks st vr () → runOk (ApM G' sz tk tabs) cs ks st vr ()
  | [], _, _, _ => trivial
  | k :: r, st, vr, h => by
    refine ⟨?_, ?_⟩
    · have h1 := h.1
      cases k <;> exact h1
    · have h2 : runOk (ApM G sz tk tabs) cs r (stepS (ApM G sz tk tabs) cs k st vr ()).1 (stepS (ApM G sz tk tabs) cs k st vr ()).2.1 () := h.2
      rw [stepS_G (G' := G') (tk' := tk)] at h2
      exact runOk_G h2
abbrev s_Machine__list_ends : Stmt := inClass (top 48) 1
abbrev sc_Machine__list_ends_N : List Str := ["self", "name", "program", "found", "state"]
theorem sc_Machine__list_ends : FnScope sc_Machine__list_ends_N ["self", "name"] (defScope s_Machine__list_ends) := ⟨rfl, rfl, rfl, by decide +kernel, rfl, by decide +kernel, by decide +kernel⟩
-- 0 self, 1 name, 2 program, 3 found, 4 state
def nmLE : Str := "Machine._list_ends.<locals>.<lambda>"
/-- the states in which a program ends, by its start -/
def endM (sz : Nat) (tabs : Str → List Int) (cs : List Str) (ks : List Sk) (st : List Int) : List Int := (runS (ApM (fun _ => none) sz [] tabs) cs ks st (fun _ => none) ()).1
def sp_ends (T : List NdefX.NTab) (R Wr B Pg Mc Sy : Addr) : Sp := fun vs H Q _ => ∃ (m y cl tb pd ad pa : Addr) (sz : Nat) (cs : List Str) (tk : List (Str × Addr)) (tabs : Str → List Int) (ps : List (Str × Addr)) (as : List (Str × Nat)) (n : Str) (ks : List Sk),
  vs = [.ref m, .str n] ∧ MsA Mc Sy H m sz y cl cs ∧ MtA Mc H m tb sz tk tabs ∧ Yo H Sy y cs pd ad ps as ∧ NdefX.TabsN T H ∧ n.length ≤ 1000 ∧ valA ps n = some pa ∧ PgA H R Wr B Pg pa n ks ∧ cs.length ≤ 3 ∧ sz ≤ 3 ∧ ks.length ≤ 100 ∧ (∀ st ∈ sts sz cs.length, runOk (ApM (fun _ => none) sz tk tabs) cs ks st (fun _ => none) ()) ∧
  ∀ d kvs H', H d = none → H' d = some (.dT kvs) → Paired (fun (kv : List Key × V) (st : List Int) => kv.1 = st.map Sum.inl ∧ ∃ t, kv.2 = .ref t ∧ H' t = some (.tup ((endM sz tabs cs ks st).map V.int))) kvs (sts sz cs.length) → ExtN H H' → NdefX.TabsN T H' → Q (.ref d) H'
theorem m_ends {T : List NdefX.NTab} {c PT : Addr} (X : MaX K mg R Wr B Pg Sy IS UC UP Mc) (LT : UX.LamT T base mg c PT nmLE) (D : UX.MDc K Mc "_list_ends" "Machine._list_ends" s_Machine__list_ends c) (m_program_named : Mn P w K mg base (L2.CX P w) 3 Sy "program_named" (sp_named Sy UP)) (m_list_starts : Mn P w K mg base CX0 2 Mc "list_starts" (sp_starts Mc Sy)) (m_apply : Mn P w K mg base CX0 1 Mc "apply" (sp_apply K Mc)) (d_do_program : Dn P w K mg base CX0 7 "do_program" (sp_doprog P w K mg base R Wr B Pg)) :
    Mn P w K mg base CX0 9 Mc "_list_ends" (sp_ends T R Wr B Pg Mc Sy) := by
  refine D.mn sc_Machine__list_ends (fun _ _ _ _ _ _ us hl => match us, hl with | [_, _], _ => rfl) (fun vs H Q E h => ?_) (fun f A outer s H vs Q E hr h => ?_)
  · obtain ⟨m, y, cl, tb, pd, ad, pa, sz, cs, tk, tabs, ps, as, n, ks, rfl, _⟩ := h; rfl
  · obtain ⟨m, y, cl, tb, pd, ad, pa, sz, cs, tk, tabs, ps, as, n, ks, rfl, hms, hmt, hy, hT, hn, hpa, hpg, hc3, hsz, hks, hok, q⟩ := h
    refine ⟨_, (pss_cons (ps_set (i := 2) sc_Machine__list_ends.nd rfl (Or.inl rfl) (pe_m m_program_named X.cls hr (by decide) passL (pe_fld (pv 0) (by rfl)) (pa_cons (pv 1) pa_nil)))
      (pss_cons (ps_set (i := 3) sc_Machine__list_ends.nd rfl (Or.inl rfl) pe_dnewT)
      (pss_cons (ps_for PassesOwn.never rfl (pi_list (pe_m' m_list_starts X.cM hr (by decide) pass0 (pv 0))) (pg_name (i := 4) sc_Machine__list_ends.nd rfl (Or.inl rfl)) (pss_one (ps_dput (un1 hr.units) (pv 3) (pv 4) (UX.pe_dC d_do_program hr (by decide) (by rfl) (fr := ["self"]) (js := [0]) (by decide) (fun y hy => by rw [List.mem_singleton.mp hy]; show (defScope s_Machine__list_ends).names.lookup ("self" : Str) = some .cell; decide +kernel) (fun _ _ => rfl) rfl (pa_cons (pv 2) (pa_cons (pe_fld (pe_fld (pv 0) (by rfl)) (by rfl)) (pa_cons (pv 4) (pa_cons (UX.pe_lam LT.tb rfl LT.mem (by rfl) LT.uni (by rfl) (NdefX.ndef_free (sc := defScope s_Machine__list_ends) (fr := ["self"]) (by decide +kernel))) pa_nil))))) rfl)))
      (pss_one (ps_ret (pv 3)))))), ?_⟩
    obtain ⟨⟨dx, fs, h1, h2, h3, h4⟩, ⟨dy2, fy2, g1, g2⟩, hcl⟩ := id hms
    obtain ⟨⟨dy, cc, fy, y1, y2, y3, y4, y5, y9⟩, y6, y7, y8⟩ := id hy
    walk_at "rd"
    refine ⟨Mc, dx, fs, h1, X.cM, X.m_system, .ref y, h3, y, rfl, dy, fy, y1, y9 _ (by simp), y, pd, ad, n, cs, ps, as, rfl, hy, hn, fun a ha => ?_, fun z => by rw [hpa] at z; cases z⟩
    rw [hpa] at ha
    cases ha
    simp only [tDNewT]
    intro d hd
    have s1 : Same H (upd H d (.dT [])) := UL.Same.new hd
    have ed : upd H d (.dT []) d = some (.dT []) := upd_same
    generalize upd H d (.dT []) = H1 at s1 ed ⊢
    have hms1 : MsA Mc Sy H1 m sz y cl cs := by
      obtain ⟨⟨dx, fs, h1, h2⟩, ⟨dy, fy, g1, g2⟩, hcl⟩ := hms
      exact ⟨⟨dx, fs, s1 _ _ h1, h2⟩, ⟨dy, fy, s1 _ _ g1, g2⟩, FT.same s1 hcl⟩
    refine ⟨dx, fs, s1 _ _ h1, h4 _ (by simp), m, y, cl, sz, cs, rfl, hms1, hc3, hsz, fun l ts H2 l0 el htus s2 => ⟨l, rfl, ⟨_, .inl (.inl el)⟩, ?_⟩⟩
    have s12 := Same.tr s1 s2
    refine FJ.list (xs := ts.map V.ref) (fun i σ' H' => ∃ (z : Option V) (kvs : List (List Key × V)), σ' = [some (.ref m), some (.str n), some (.ref pa), some (.ref d), z] ∧ H' d = some (.dT kvs) ∧ Paired (fun (kv : List Key × V) (st : List Int) => kv.1 = st.map Sum.inl ∧ ∃ t, kv.2 = .ref t ∧ H' t = some (.tup ((endM sz tabs cs ks st).map V.int))) kvs ((sts sz cs.length).take i) ∧ NdefX.TabsN T H' ∧ (∀ b o, H2 b = some o → (∀ ps, o ≠ .tbl ps) → b ≠ d → H' b = some o)) ⟨_, [], rfl, s2 _ _ ed, .nil, NdefX.TabsN.ext hT s12, fun b o e _ _ => e⟩ (fun i σ' H' _ inv => ?_) (fun i x σ' H' hx inv => ?_) fun σ' H' inv => ?_
    · obtain ⟨z, kvs, _, _, _, _, sm⟩ := inv
      exact .inl (.inl (sm _ _ el (fun _ z => nomatch z) (ne_of el (s2 _ _ ed) fun z => nomatch z)))
    · obtain ⟨z, kvs, rfl, ed', hkv, hT', sm⟩ := inv
      obtain ⟨t0, ht0, rfl⟩ := ratQ hx
      obtain ⟨st, hst, hts⟩ := patQ htus ht0
      have smH : ∀ {b : Addr} {o : HO}, H b = some o → (∀ ps, o ≠ .tbl ps) → H' b = some o := fun {b o} e n => sm _ _ (s12 _ _ e) n (ne_of_none e hd)
      simp only [sDPut, tCallC]
      walk_at "rd"
      generalize (cxOf CX0 P w K mg base sc_Machine__list_ends_N (Str.ofString "Machine._list_ends") (defScope s_Machine__list_ends) f (Value.ref c) A outer s H E).env.cells = CL
      refine ⟨Mc, dx, fs, smH h1 (fun _ z => nomatch z), X.cM, X.m_system, .ref y, h3, y, rfl, Sy, dy2, fy2, smH g1 (fun _ z => nomatch z), X.cls, X.s_cells, .ref cl, g2, ?_⟩
      simp only [tLamM]
      refine ⟨hT', fun fa c' H3 e3 n3 T3 fa0 fa1 c1 => ⟨[.ref m], rfl, rfl, fun H4 cap => ?_⟩⟩
      have sm3 : ∀ {b : Addr} {o : HO}, H b = some o → (∀ ps, o ≠ .tbl ps) → H3 b = some o := fun e n => e3 _ _ (smH e n) n
      have hG := UX.LamG.made cap rfl (fun y hy => by simpa using hy) (fun y hy => by rw [List.mem_singleton.mp hy]; simp) fa1 c1
      have hts3 : H3 t0 = some (.tup (st.map V.int)) := e3 _ _ (sm _ _ hts (fun _ z => nomatch z) (ne_of hts (s2 _ _ ed) fun z => nomatch z)) (fun _ z => nomatch z)
      have hM4 : MtA Mc H4 m tb sz tk tabs := by
        obtain ⟨⟨dx, fs, h1, h2⟩, h5, h6⟩ := hmt
        exact ⟨⟨dx, fs, cap.same _ _ (sm3 h1 (fun _ z => nomatch z)), h2⟩, cap.same _ _ (sm3 h5 (fun _ z => nomatch z)), fun f t e => cap.same _ _ (sm3 (h6 f t e) (fun _ z => nomatch z))⟩
      have hcl4 : FT H4 cl (cs.map V.str) := let ⟨o, e, d⟩ := hcl; ⟨o, cap.same _ _ (sm3 e (fun _ z => nomatch z)), d⟩
      have hpg4 : PgA H4 R Wr B Pg pa n ks := by
        have ft : ∀ {p : Addr} {xs : List V}, FT H p xs → FT H4 p xs := fun ⟨o, e, d⟩ => ⟨o, cap.same _ _ (sm3 e (fun _ z => nomatch z)), d⟩
        obtain ⟨dx, p, ts, p1, p2, p3⟩ := hpg
        refine ⟨dx, p, ts, cap.same _ _ (sm3 p1 (fun _ z => nomatch z)), ft p2, L2.Paired.mapP p3 fun t k h => ?_⟩
        cases k with
        | rd => obtain ⟨dx, e⟩ := h; exact ⟨dx, cap.same _ _ (sm3 e (fun _ z => nomatch z))⟩
        | wr => obtain ⟨dx, p, e, q⟩ := h; exact ⟨dx, p, cap.same _ _ (sm3 e (fun _ z => nomatch z)), ft q⟩
        | rw => obtain ⟨dx, p, e, q⟩ := h; exact ⟨dx, p, cap.same _ _ (sm3 e (fun _ z => nomatch z)), ft q⟩
      have hsl := (sts_item _ _ st (List.mem_of_getElem? hst)).1
      refine ⟨Unit, ApM H4 sz tk tabs, pa, cl, t0, fa, n, ks, cs, st, (), rfl, cle_lam X (NdefX.nscope_by (sc := { kind := .function, names := [("function", .local), ("given", .local), ("self", .free)], isGenerator := false, isCoroutine := false }) (by decide +kernel)) (fun _ _ us hl => match us, hl with | [_, _], _ => rfl) (fun A outer s H E hr => pe_m m_apply X.cM hr (by decide) pass0 (pv 2) (pa_cons (pv 0) (pa_cons (pv 1) pa_nil))) hG hM4 hsz, fun _ _ e => e, hpg4, hcl4, cap.same _ _ hts3, hks, by omega, hsl, runOk_G (hok st (List.mem_of_getElem? hst)), fun t H5 ht iv5 sm5 => ?_⟩
      have iv5 : Same H4 H5 := iv5
      have k6 : ∀ {b : Addr} {o : HO}, H3 b = some o → UX.unt (UX.cellsOf CL ["self"]) H5 b = some o := fun {b o} e => by
        rw [UX.unt_out]; exact iv5 _ _ (cap.same _ _ e)
        intro z
        rw [cap.new b z] at e; cases e
      have ht6 : UX.unt (UX.cellsOf CL ["self"]) H5 t = some (.tup ((endM sz tabs cs ks st).map V.int)) := by
        have e := cap.fresh rfl (fun b o u e => iv5 _ _ e) ht fun _ _ z => nomatch z
        rw [runS_G (G' := fun _ => none) (tk' := [])] at e
        exact e
      dsimp only
      generalize UX.unt (UX.cellsOf CL ["self"]) H5 = H6 at k6 ht6 ⊢
      have ed6 := k6 (e3 _ _ ed' (fun _ z => nomatch z))
      have hts6 := k6 hts3
      have kl := plenQ hkv
      have pw := pow_le hsz hc3
      have sl := sts_len sz cs.length
      have il : i < (sts sz cs.length).length := (List.getElem?_eq_some_iff.mp hst).1
      have nk : ∀ kv ∈ kvs, kv.1 ≠ st.map Sum.inl := fun kv hk e => by
        obtain ⟨j, hj⟩ := List.mem_iff_getElem?.mp hk
        obtain ⟨st', hst', ek, _⟩ := patQ hkv hj
        rw [ek] at e
        have es : st' = st := by
          have := congrArg (List.map fun k : Key => match k with | .inl i => i | .inr _ => 0) e
          simpa [List.map_map, Function.comp_def] using this
        rw [es] at hst'
        have jl : j < i := by have := (List.getElem?_eq_some_iff.mp hj).1; rw [kl, List.length_take] at this; omega
        rw [List.getElem?_take_of_lt jl] at hst'
        have := (List.getElem?_inj il (sts_nodup sz cs.length)).mp (hst.trans hst'.symm)
        omega
      have vn : valV kvs (st.map Sum.inl : List Key) = none := by
        unfold valV
        rw [Option.map_eq_none_iff, List.find?_eq_none]
        intro kv hk
        simpa using nk kv hk
      have ep : putK kvs (st.map Sum.inl : List Key) (.ref t) = kvs ++ [(st.map Sum.inl, .ref t)] := L2.putK_new _ vn
      have ekey : (st.map Sum.inl : List Key).map kV = st.map V.int := by rw [List.map_map]; rfl
      refine ⟨_, DPut.t ed6 (by rw [ekey]; exact hts6) (by rw [kl, List.length_take, sizeLine_eq]; omega), kvs ++ [(st.map Sum.inl, .ref t)], by rw [upd_same, ep], ?_, ?_, fun b o e n nd => ?_⟩
      · have off : ∀ {b : Addr} {xs : List V} {o : HO}, H6 b = some (.tup xs) → upd H6 d o b = some (.tup xs) := fun e => (upd_ne (ne_of e ed6 fun z => nomatch z)).trans e
        rw [List.take_add_one, hst]
        exact pappQ (L2.Paired.mapP hkv fun _ _ ⟨a, t1, b, g⟩ => ⟨a, t1, b, off (k6 (e3 _ _ g (fun _ z => nomatch z)))⟩) (.cons ⟨rfl, t, rfl, off ht6⟩ .nil)
      · exact tabs_put T3 (e3 _ _ ed' (fun _ z => nomatch z)) fun b o nb e => (upd_ne nb).trans (k6 e)
      · exact (upd_ne nd).trans (k6 (e3 _ _ (sm _ _ e n nd) n))
    · obtain ⟨z, kvs, rfl, ed', hkv, hT', sm⟩ := inv
      rw [List.length_map, plenQ htus, List.take_length] at hkv
      walk_at "rd"
      exact q d kvs H' hd ed' hkv (fun b o e n => sm _ _ (s12 _ _ e) n (ne_of_none e hd)) hT'
end
end U
set_option Elab.async false
set_option linter.all false
set_option maxRecDepth 100000
set_option maxHeartbeats 4000000
set_option pp.deepTerms true
set_option pp.maxSteps 400000
namespace U
open PySem PySem.Spec PyProof.Rows L2 UL UX
local macro_rules | `(tactic| walk_at "rd") => `(tactic| simp only [sMatch, tJs, tFmt, tBC, tMethA, tMakeL, iEnumS, tSeq, tAsg, tOp, tCB, tCons, tNil, tVar, tC, tB, tTest, tNot, tIfS, tNext, tYes, tUn, rU, tM0, tGFrom, tGThen, tG0, tYfLst, gcxK, tSubO, tProp, tListG, tMethG, tBMF, tFld, sFld, tMeth, tMake, tSl, tNoPart, tPart, tM1, gTup, gCons, gNil, tDrop, tFor_eq, tLc_eq, tLc2_eq, iRng1_eq, StX.tStar, iList, iTup, iStr, iAny_var, iZipB, tLenSetS, wipe, tVar, tAndV, tOrV, tNotV, tOr, tAnd, tLst, tTup, tBM, tBM0, tChain, tCall, cxK, noxK, addII, addSS, mulII, eqII, neII, neSS, cIntI, cAbsI, rI, rI0, rLt, rLe, rGt_, rGe_, rSub_, rMod, rPow, rDivW, rNeg, gName, tRet, L2.start, List.length_cons, List.length_nil, List.map_cons, List.map_nil, List.replicate, List.cons_append, List.nil_append, List.getElem?_cons_zero, List.getElem?_cons_succ, List.set_cons_zero, List.set_cons_succ, Option.some.injEq, exists_eq_left', exists_eq_left, V.int.injEq, V.bl.injEq, V.str.injEq, V.ref.injEq, V.ty.injEq, List.cons.injEq, and_true, true_and, reduceCtorEq, false_and, exists_false, or_false, false_or, exists_and_left, exists_and_right, List.append_nil, forall_eq, decide_eq_true_eq, Bool.not_eq_true, Nat.reduceAdd, Nat.reduceSub, List.replicate_zero, List.replicate_succ, Nat.zero_le, ite_true, ite_false, if_true, if_false])
section
variable {P : Program} {w : World} {K : PySem.W.Frag} {mg : Str → Option Value} {base : Heap}
open UV UW NdefX ClX
variable {R Wr B Pg Sy IC UC IS UP : Addr}
def cnt (acc : List (Str × Nat)) (k : Sk) : List (Str × Nat) := match k.fa with
  | none => acc
  | some (f, n) => if f ∈ acc.map (·.1) then acc else acc ++ [(f, n)]
def cntQ (acc : List (Str × Nat)) (qs : List Rw) : List (Str × Nat) := qs.foldl (fun a q => q.ks.foldl cnt a) acc
/-- the pairs of counts, as they stand -/
def CtH (H : Hp) (ts : List Addr) (acc : List (Str × Nat)) : Prop := Paired (fun (t : Addr) (q : Str × Nat) => H t = some (.tup [.str q.1, .int q.2])) ts acc
theorem CtH.same {H H' : Hp} {ts : List Addr} {acc : List (Str × Nat)} (h : CtH H ts acc) (s : Same H H') : CtH H' ts acc := L2.Paired.mapP h fun _ _ g => s _ _ g
theorem CtH.put {H : Hp} {ts : List Addr} {acc : List (Str × Nat)} {l : Addr} {zs : List V} {o : HO} (h : CtH H ts acc) (hl : H l = some (.lst zs)) : CtH (upd H l o) ts acc := L2.Paired.mapP h fun _ _ g => by rw [upd_ne fun e => by rw [e, hl] at g; cases g]; exact g
end
end U
set_option Elab.async false
set_option linter.all false
set_option maxRecDepth 100000
set_option maxHeartbeats 4000000
set_option pp.deepTerms true
set_option pp.maxSteps 400000
namespace U
open PySem PySem.Spec PyProof.Rows L2 UL UX
local macro_rules | `(tactic| walk_at "rd") => `(tactic| simp only [sMatch, tJs, tFmt, tBC, tMethA, tMakeL, iEnumS, tSeq, tAsg, tOp, tCB, tCons, tNil, tVar, tC, tB, tTest, tNot, tIfS, tNext, tYes, tUn, rU, tM0, tGFrom, tGThen, tG0, tYfLst, gcxK, tSubO, tProp, tListG, tMethG, tBMF, tFld, sFld, tMeth, tMake, tSl, tNoPart, tPart, tM1, gTup, gCons, gNil, tDrop, tFor_eq, tLc_eq, tLc2_eq, iRng1_eq, StX.tStar, iList, iTup, iStr, iAny_var, iZipB, tLenSetS, wipe, tVar, tAndV, tOrV, tNotV, tOr, tAnd, tLst, tTup, tBM, tBM0, tChain, tCall, cxK, noxK, addII, addSS, mulII, eqII, neII, neSS, cIntI, cAbsI, rI, rI0, rLt, rLe, rGt_, rGe_, rSub_, rMod, rPow, rDivW, rNeg, gName, tRet, L2.start, List.length_cons, List.length_nil, List.map_cons, List.map_nil, List.replicate, List.cons_append, List.nil_append, List.getElem?_cons_zero, List.getElem?_cons_succ, List.set_cons_zero, List.set_cons_succ, Option.some.injEq, exists_eq_left', exists_eq_left, V.int.injEq, V.bl.injEq, V.str.injEq, V.ref.injEq, V.ty.injEq, List.cons.injEq, and_true, true_and, reduceCtorEq, false_and, exists_false, or_false, false_or, exists_and_left, exists_and_right, List.append_nil, forall_eq, decide_eq_true_eq, Bool.not_eq_true, Nat.reduceAdd, Nat.reduceSub, List.replicate_zero, List.replicate_succ, Nat.zero_le, ite_true, ite_false, if_true, if_false])
section
variable {P : Program} {w : World} {K : PySem.W.Frag} {mg : Str → Option Value} {base : Heap}
open UV UW NdefX ClX
/-- a function of fs, with as many arguments as its place says -/
def ArOk (fs : List Str) (q : Str × Nat) : Prop := ∃ i : Int, 0 ≤ i ∧ atI (fs.map V.str) i = some (V.str q.1) ∧ atI [V.int 1, .int 0, .int 2, .int 1, .int 3] i = some (V.int (q.2 : Nat))
theorem atI_nat {α : Type} {xs : List α} {i : Int} {v : α} (h0 : 0 ≤ i) (h : atI xs i = some v) : xs[i.toNat]? = some v := by
  obtain ⟨n, rfl⟩ := Int.eq_ofNat_of_zero_le h0
  show xs[n]? = some v
  cases h2 : xs[n]? with
  | some w => rw [atN h2] at h; exact h
  | none =>
    have hl : xs.length ≤ n := List.getElem?_eq_none_iff.mp h2
    exfalso
    unfold atI at h
    cases hx : ixN xs.length ((n : Nat) : Int) with
    | none => rw [hx] at h; cases h
    | some j =>
      have := (ixN_seq hx).2.2.2
      omega
theorem ArOk.uni {fs : List Str} (nd : fs.Nodup) {f : Str} {n m : Nat} (h1 : ArOk fs (f, n)) (h2 : ArOk fs (f, m)) : n = m := by
  obtain ⟨i, i0, a1, a2⟩ := h1
  obtain ⟨j, j0, b1, b2⟩ := h2
  have a1 := atI_nat i0 a1
  have b1 := atI_nat j0 b1
  rw [List.getElem?_map] at a1 b1
  cases ha : fs[i.toNat]? with
  | none => rw [ha] at a1; cases a1
  | some x =>
    cases hb : fs[j.toNat]? with
    | none => rw [hb] at b1; cases b1
    | some y =>
      rw [ha] at a1
      rw [hb] at b1
      have ex : x = f := V.str.inj (Option.some.inj a1)
      have ey : y = f := V.str.inj (Option.some.inj b1)
      have li := (List.getElem?_eq_some_iff.mp ha).1
      have ij : i.toNat = j.toNat := (List.getElem?_inj li nd).mp (by rw [ha, hb, ex, ey])
      have e : i = j := by omega
      rw [e, b2] at a2
      have := V.int.inj (Option.some.inj a2)
      omega
theorem valA_none {α : Type} {as : List (Str × α)} {f : Str} (h : f ∉ as.map (·.1)) : valA as f = none := by
  unfold valA
  rw [List.find?_eq_none.mpr fun q hq => by
    simp only [decide_eq_true_eq]
    exact fun e => h (by rw [← e]; exact List.mem_map_of_mem hq)]
  rfl
theorem valA_some {α : Type} {as : List (Str × α)} {f : Str} (h : f ∈ as.map (·.1)) : ∃ m, valA as f = some m ∧ (f, m) ∈ as := by
  cases hv : as.find? fun q => decide (q.1 = f) with
  | none =>
    obtain ⟨q, hq, e⟩ := List.mem_map.mp h
    have := List.find?_eq_none.mp hv q hq
    simp [e] at this
  | some q =>
    have e : q.1 = f := by simpa using List.find?_some hv
    exact ⟨q.2, by unfold valA; rw [hv]; rfl, by rw [← e]; exact List.mem_of_find?_eq_some hv⟩
theorem fa_fn {k : Sk} {f : Str} {xs : List Str} (h : k.fn = some (f, xs)) : k.fa = some (f, xs.length) := by cases k <;> cases h <;> rfl
theorem fa_no {k : Sk} (h : k.fn = none) : k.fa = none := by cases k <;> first | rfl | cases h
theorem takeS_ok {cs fs : List Str} (nd : fs.Nodup) {as : List (Str × Nat)} {k : Sk} (hk : InS cs fs k) (ha : ∀ q ∈ as, ArOk fs q) : takeS cs as k = .ok (cnt as k) ∧ ∀ q ∈ cnt as k, ArOk fs q := by
  unfold takeS
  rw [List.find?_eq_none.mpr fun c hc => by simp [hk.1 c hc]]
  cases hf : k.fn with
  | none =>
    have e : cnt as k = as := by unfold cnt; rw [fa_no hf]
    rw [e]
    exact ⟨rfl, ha⟩
  | some q =>
    obtain ⟨f, xs⟩ := q
    have hfa := fa_fn hf
    have ar : ArOk fs (f, xs.length) := hk.2 f xs.length hfa
    have e : cnt as k = if f ∈ as.map (·.1) then as else as ++ [(f, xs.length)] := by unfold cnt; rw [hfa]
    rw [e]
    show takeF as f xs.length = _ ∧ _
    unfold takeF
    by_cases hin : f ∈ as.map (·.1)
    · obtain ⟨m, hm, hmem⟩ := valA_some hin
      rw [if_pos hin, hm]
      exact ⟨if_pos ((ha _ hmem).uni nd ar), ha⟩
    · rw [if_neg hin, valA_none hin]
      refine ⟨rfl, fun q hq => ?_⟩
      rcases List.mem_append.mp hq with h | h
      · exact ha q h
      · rw [List.mem_singleton.mp h]; exact ar
theorem takeSs_ok {cs fs : List Str} (nd : fs.Nodup) : ∀ {ks : List Sk} {as : List (Str × Nat)}, (∀ k ∈ ks, InS cs fs k) → (∀ q ∈ as, ArOk fs q) → takeSs cs as ks = .ok (ks.foldl cnt as) ∧ ∀ q ∈ ks.foldl cnt as, ArOk fs q
  | [], as, _, ha => ⟨rfl, ha⟩
  | k :: r, as, hk, ha => by
    obtain ⟨h1, h2⟩ := takeS_ok nd (hk k List.mem_cons_self) ha
    obtain ⟨h3, h4⟩ := takeSs_ok nd (ks := r) (as := cnt as k) (fun k' h => hk k' (List.mem_cons_of_mem _ h)) h2
    refine ⟨?_, h4⟩
    show (match takeS cs as k with | .error e => Except.error e | .ok as' => takeSs cs as' r) = _
    rw [h1]
    exact h3
/-- a right system is made -/
theorem takePs_ok {cs fs : List Str} (nd : fs.Nodup) : ∀ {qs : List (Addr × Rw)} {ps : List (Str × Addr)} {as : List (Str × Nat)}, (∀ q ∈ qs, ∀ k ∈ q.2.ks, InS cs fs k) → (∀ q ∈ as, ArOk fs q) → ps.length + qs.length ≤ 4 → (ps.map (·.1) ++ qs.map (·.2.n)).Nodup →
    takePs cs ps as (qs.map fun q => (q.1, q.2.n, q.2.ks)) = .ok (ps ++ qs.map (fun q => (q.2.n, q.1)), cntQ as (qs.map (·.2)))
  | [], ps, as, _, _, _, _ => by simp [takePs, cntQ]
  | q :: r, ps, as, hk, ha, hl, hn => by
    obtain ⟨h1, h2⟩ := takeSs_ok nd (hk q List.mem_cons_self) ha
    have hni : q.2.n ∉ ps.map (·.1) := fun h => by
      have := (List.nodup_append.mp hn).2.2 _ h _ (show q.2.n ∈ (q :: r).map (·.2.n) from List.mem_cons_self)
      exact this rfl
    have h3 : takeP cs ps as q.2.n q.2.ks = .ok (q.2.ks.foldl cnt as) := by
      unfold takeP
      rw [if_neg ?_]
      · exact h1
      · rw [valA_none hni]
        simp only [List.length_cons] at hl
        rintro (h | h)
        · omega
        · cases h
    have ih := takePs_ok nd (qs := r) (ps := ps ++ [(q.2.n, q.1)]) (as := q.2.ks.foldl cnt as) (fun q' h => hk q' (List.mem_cons_of_mem _ h)) h2 (by rw [List.length_append]; simp only [List.length_cons, List.length_nil] at hl ⊢; omega) (by
      rw [List.map_append]
      simpa using hn)
    show (match takeP cs ps as q.2.n q.2.ks with | .error e => Except.error e | .ok as' => takePs cs (ps ++ [(q.2.n, q.1)]) as' (r.map fun (q : Addr × Rw) => (q.1, q.2.n, q.2.ks))) = _
    rw [h3]
    show takePs cs (ps ++ [(q.2.n, q.1)]) (q.2.ks.foldl cnt as) (r.map fun (q : Addr × Rw) => (q.1, q.2.n, q.2.ks)) = _
    rw [ih, List.append_assoc]
    rfl
end
end U
set_option Elab.async false
set_option linter.all false
set_option maxRecDepth 100000
set_option maxHeartbeats 4000000
/-! a dict of plain keys that is locked from here on -/
namespace UX
open PySem PySem.Spec PyProof.Rows L2 UL UV UW ClX
theorem DGet.kr {H : Hp} {a : Addr} {kvs : List (L2.Key × V)} {k : L2.Key} (e : Rd H a (.dK kvs)) : DGet H a (kV k) (valV kvs k) := .inl ⟨kvs, k, e, rfl, rfl⟩
end UX
set_option Elab.async false
set_option linter.all false
set_option maxRecDepth 100000
set_option maxHeartbeats 4000000
set_option pp.deepTerms true
set_option pp.maxSteps 400000
namespace U
open PySem PySem.Spec PyProof.Rows L2 UL UX
local macro_rules | `(tactic| walk_at "rd") => `(tactic| simp only [sMatch, tJs, tFmt, tBC, tMethA, tMakeL, iEnumS, tSeq, tAsg, tOp, tCB, tCons, tNil, tVar, tC, tB, tTest, tNot, tIfS, tNext, tYes, tUn, rU, tM0, tGFrom, tGThen, tG0, tYfLst, gcxK, tSubO, tProp, tListG, tMethG, tBMF, tFld, sFld, tMeth, tMake, tSl, tNoPart, tPart, tM1, gTup, gCons, gNil, tDrop, tFor_eq, tLc_eq, tLc2_eq, iRng1_eq, StX.tStar, iList, iTup, iStr, iAny_var, iZipB, tLenSetS, wipe, tVar, tAndV, tOrV, tNotV, tOr, tAnd, tLst, tTup, tBM, tBM0, tChain, tCall, cxK, noxK, addII, addSS, mulII, eqII, neII, neSS, cIntI, cAbsI, rI, rI0, rLt, rLe, rGt_, rGe_, rSub_, rMod, rPow, rDivW, rNeg, gName, tRet, L2.start, List.length_cons, List.length_nil, List.map_cons, List.map_nil, List.replicate, List.cons_append, List.nil_append, List.getElem?_cons_zero, List.getElem?_cons_succ, List.set_cons_zero, List.set_cons_succ, Option.some.injEq, exists_eq_left', exists_eq_left, V.int.injEq, V.bl.injEq, V.str.injEq, V.ref.injEq, V.ty.injEq, List.cons.injEq, and_true, true_and, reduceCtorEq, false_and, exists_false, or_false, false_or, exists_and_left, exists_and_right, List.append_nil, forall_eq, decide_eq_true_eq, Bool.not_eq_true, Nat.reduceAdd, Nat.reduceSub, List.replicate_zero, List.replicate_succ, Nat.zero_le, ite_true, ite_false, if_true, if_false])
section
variable {P : Program} {w : World} {K : PySem.W.Frag} {mg : Str → Option Value} {base : Heap}
open UV UW NdefX ClX LamX
variable {R Wr B Pg Sy IC IS UC UP Mc IT : Addr}
local macro_rules | `(tactic| walk_at "rdx") => `(tactic| simp only [tCons, tNil, tJs, tC, tFmt, tFmtN, tVar, tOst, tSeq, NdefX.startF, L2.start, List.length_cons, List.length_nil, List.map_cons, List.map_nil, List.replicate, List.cons_append, List.nil_append, List.getElem?_cons_zero, List.getElem?_cons_succ, Option.some.injEq, exists_eq_left', exists_eq_left, V.str.injEq, V.int.injEq, V.ref.injEq, reduceCtorEq, false_and, exists_false, or_false, false_or, and_true, true_and, exists_and_left, exists_and_right, Nat.reduceAdd, Nat.reduceSub, Nat.reduceLeDiff, ncK])
abbrev s_IT : Stmt := inClass (top 9) 0
theorem sc_IT : NScope ["self", "function", "__class__"] ["self", "function"] ["__class__"] (defScope s_IT) := nscope_by (by decide +kernel)
def sp_IT : Addr → Sp := fun C vs H Q _ => ∃ (a : Addr) (x0 : Str), vs = [.ref a, .str x0] ∧ H a = some (exo a C none) ∧ PySem.W.findIn K (.ref C) "function" = some none ∧ x0.length ≤ 1000 ∧ x0.length ≤ 1000 ∧ ∀ d, H d = none → d ≠ a → Q .non (upd (upd H d (exd d [(("function" : Str), V.str x0)])) a (exo a C (some d)))
theorem x_IT {C : Addr} (D : XD P K mg C "InvalidTable" "InvalidTable.__init__" s_IT) : Xn P w K mg base 1 C "InvalidTable" (sp_IT (K := K) C) := by
  obtain ⟨f, c, cc, oc, kV, doc, pm, ct, od, an, osl, lk, hcd, F, h1, h2⟩ := D.ex
  refine ⟨⟨f, _, ["self", "function"], fn_sup (N := ["self", "function", "__class__"]) (ps := ["function"]) (pl := _) lk hcd sc_IT D.ox F (by decide +kernel) (fun vs H Q E h => ?_) (fun A outer s H vs Q E hr h => ?_), h1, h2, Binds.all fun us hl => match us, hl with | [_, _], _ => rfl⟩, D.ox, D.gc⟩
  · obtain ⟨a, x0, rfl, _⟩ := h; rfl
  · obtain ⟨a, x0, rfl, ha, hf0, hc0, hd0, q⟩ := h
    refine ⟨a, _, _, rfl, ha, pa_cons (pe_joined (.cons pe_str (.cons (pe_fmt (pv 1)) (.cons pe_str .nil)))) pa_nil, (pss_one (ps_ost (pv 0) (pv 1))), ?_⟩
    walk_at "rdx"
    have ll0 : (Str.ofString "the table of ").length ≤ 200 := by decide +kernel
    have ll1 : (Str.ofString " is missing or wrong").length ≤ 200 := by decide +kernel
    have l0 : Str.empty.length = 0 := rfl
    repeat (first | refine ⟨by (simp only [len_app, l0, sizeLine_eq]; omega), ?_⟩)
    exact ⟨ha, C, D.ox, hf0, .inl ⟨ha, fun d hd hda => q d hd hda⟩⟩
theorem raiseIT {z : Str} {H : Hp} {E : XK} {σ : L2.St} {ta : TA} (x : PySem.W.findIn K (.ref IT) "function" = some none) (hz : z.length ≤ 1000) (hta : ∀ R : List V → Hp → Prop, R [.str z] H → ta σ H R) (h : X1 IT "function" (.str z) H E) : tMkO IT (sp_IT (K := K) IT) [] ta σ H (fun cls d H' => E cls d H') := by
  refine hta _ ⟨by show 1 ≤ 1000; decide, fun e1 he1 => ?_⟩
  refine ⟨e1, z, rfl, upd_same, x, hz, hz, fun d1 hd1 hde1 => ⟨rfl, d1, _, upd_same, by rw [upd_ne hde1, upd_same], by rw [upd_ne hde1] at hd1; exact hd1, ?_⟩⟩
  rw [exg1 he1]
  rw [upd_ne hde1] at hd1
  exact h d1 _ (UL.Same.new hd1) upd_same
abbrev s_is_value : Stmt := top 38
abbrev sc_is_value_N : List Str := ["value", "size"]
theorem sc_is_value : FnScope sc_is_value_N ["value", "size"] (defScope s_is_value) := ⟨rfl, rfl, rfl, by decide +kernel, rfl, by decide +kernel, by decide +kernel⟩
-- 0 value, 1 size
def sp_isval : Sp := fun vs H Q _ => ∃ v n : Int, vs = [.int v, .int n] ∧ Q (.bl (decide (0 ≤ v) && decide (v < n))) H
theorem d_isval (T : Nm mg) (D : TD K mg "is_value" s_is_value) : Dn P w K mg base CX0 1 "is_value" sp_isval := by
  refine D.dn sc_is_value (fun _ _ _ _ _ _ us hl => match us, hl with | [_, _], _ => rfl) (fun vs H Q E h => ?_) (fun f cdv A outer s H vs Q E hr h => ?_)
  · obtain ⟨v, n, rfl, _⟩ := h; rfl
  · obtain ⟨v, n, rfl, q⟩ := h
    refine ⟨_, (pss_one (ps_ret (pe_chain op_leA op_ltA pe_int (pv 0) (pv 1)))), ?_⟩
    walk_at "rd"
    by_cases h : 0 ≤ v
    · rw [if_pos h]; simpa [h] using q
    · rw [if_neg h]; simpa [h] using q
/-- the tables as they are handed in -/
def TdH (H : Hp) (td : Addr) (tv : Str → Option (List Int)) : Prop := ∃ (kvs : List (Key × V)) (la : Str → Addr), Rd H td (.dK kvs) ∧ (∀ f, valV kvs (Sum.inr f : Key) = (tv f).map fun _ => V.ref (la f)) ∧ ∀ f zs, tv f = some zs → H (la f) = some (.lst (zs.map V.int))
theorem TdH.same {H H' : Hp} {td : Addr} {tv : Str → Option (List Int)} (h : TdH H td tv) (s : Same H H') : TdH H' td tv := let ⟨kvs, la, h1, h2, h3⟩ := h; ⟨kvs, la, rd_same h1 s, h2, fun f zs e => s _ _ (h3 f zs e)⟩
/-- a table is right -/
def okTab (sz nr : Nat) (o : Option (List Int)) : Bool := match o with
  | none => false
  | some zs => decide (zs.length = sz ^ nr) && zs.all fun v => decide (0 ≤ v) && decide (v < (sz : Int))
abbrev s_copy_table : Stmt := top 49
abbrev sc_copy_table_N : List Str := ["tables", "function", "number", "size", "table", ".0", "entry"]
theorem sc_copy_table : FnScope sc_copy_table_N ["tables", "function", "number", "size"] (defScope s_copy_table) := ⟨rfl, rfl, rfl, by decide +kernel, rfl, by decide +kernel, by decide +kernel⟩
-- 0 tables, 1 function, 2 number, 3 size, 4 table, 5 .0, 6 entry
def sp_copy (IT : Addr) : Sp := fun vs H Q E => ∃ (td : Addr) (f : Str) (nr sz : Nat) (tv : Str → Option (List Int)), vs = [.ref td, .str f, .int nr, .int sz] ∧ TdH H td tv ∧ f.length ≤ 1000 ∧ nr ≤ 3 ∧ sz ≤ 3 ∧ (∀ zs, tv f = some zs → zs.length ≤ 1000) ∧
  (∀ zs, tv f = some zs → okTab sz nr (some zs) = true → ∀ t H', H' t = some (.tup (zs.map V.int)) → Same H H' → Q (.ref t) H') ∧ (okTab sz nr (tv f) = false → X1 IT "function" (.str f) H E)
theorem d_copy (N : Nm mg) (na : PySem.W.findIn K (.ref IT) "function" = some none) (D : TD K mg "copy_table" s_copy_table) (d_list_states : Dn P w K mg base CX0 1 "list_states" sp_states) (d_is_value : Dn P w K mg base CX0 1 "is_value" sp_isval) (x_InvalidTable : Xn P w K mg base 1 IT "InvalidTable" (sp_IT (K := K) IT)) : Dn P w K mg base (L2.CX P w) 3 "copy_table" (sp_copy IT) := by
  have T := N
  refine D.dx sc_copy_table (fun _ _ _ _ _ _ us hl => match us, hl with | [_, _, _, _], _ => rfl) (fun vs H Q E h => ?_) (fun f cdv A outer s H vs Q E hr h => ?_)
  · obtain ⟨td, f, nr, sz, tv, rfl, _⟩ := h; rfl
  · obtain ⟨td, f, nr, sz, tv, rfl, ⟨kvs, la, h1, h2, h3⟩, hf, hnr, hsz, hz, q, qx⟩ := h
    refine ⟨_, (pss_cons (ps_if (pt_cmp (pc_dnotin (un1 hr.units) (pv 1) (pv 0)) (by with_unfolding_all rfl)) (pss_one (ps_raise rfl (takes_of rfl rfl rfl rfl) (pmk_x x_InvalidTable hr (by decide) (by rfl) (pa_cons (pv 1) pa_nil)))) pss_nil)
      (pss_cons (ps_set (i := 4) sc_copy_table.nd rfl (Or.inl rfl) (pe_callTy call_tupA (by rfl) T.n_tuple (by decide +kernel) (pa_cons (pe_dget (un1 hr.units) (pv 0) (pv 1) (fun _ _ => rfl)) pa_nil)))
      (pss_cons (ps_if (pt_cmpR (op_neA (hr.units)) (pe_callB call_lenA (by rfl) T.n_len (by decide +kernel) (pa_cons (pv 4) pa_nil)) (pe_callB call_lenA (by rfl) T.n_len (by decide +kernel) (pa_cons (pe_d d_list_states hr (by decide) pass0 (by rfl) (pa_cons (pv 2) (pa_cons (pv 3) pa_nil))) pa_nil)) (nomark _)) (pss_one (ps_raise rfl (takes_of rfl rfl rfl rfl) (pmk_x x_InvalidTable hr (by decide) (by rfl) (pa_cons (pv 1) pa_nil)))) pss_nil)
      (pss_cons (ps_if (pt_not (pt_val (pe_callB (cr_all rfl) (by rfl) T.n_all (by decide +kernel) (pa_cons (pe_lc (own := [(".0", 5), ("entry", 6)]) (g := (gName 6)) (tt := tYes) rfl sc_copy_table.nd (pi_tup (pv 4)) (blkOk_by (N := sc_copy_table_N) (sc := defScope s_copy_table) (by decide +kernel)) (fun _ _ _ _ _ => pg_name (i := 6) sc_copy_table.nd rfl (Or.inl rfl)) (fun _ _ _ _ _ => pts_nil) (fun _ _ _ _ _ => (pe_d d_is_value hr (by decide) pass0 (by rfl) (pa_cons (pv 6) (pa_cons (pv 3) pa_nil))))) pa_nil)))) (pss_one (ps_raise rfl (takes_of rfl rfl rfl rfl) (pmk_x x_InvalidTable hr (by decide) (by rfl) (pa_cons (pv 1) pa_nil)))) pss_nil)
      (pss_one (ps_ret (pv 4))))))), ?_⟩
    walk_at "rd"
    simp only [tDNotIn, tDGet]
    walk_at "rd"
    have dg := UX.DGet.kr (k := Sum.inr f) h1
    rw [h2 f] at dg
    cases hv : tv f with
    | none =>
      rw [hv] at dg
      refine ⟨none, dg, ?_⟩
      rw [if_pos (by decide)]
      exact raiseIT na hf (fun R r => ⟨_, rfl, r⟩) (qx (by rw [hv]; rfl))
    | some zs =>
      rw [hv] at dg
      have hzl := hz zs hv
      refine ⟨some (.ref (la f)), dg, ?_⟩
      rw [if_neg (by simp)]
      refine ⟨.ref (la f), dg, la f, _, rfl, .inl ⟨.inl (.inl (h3 f zs hv)), fun t ht => ?_⟩⟩
      have s1 : Same H (upd H t (.tup (zs.map V.int))) := UL.Same.new ht
      have et : upd H t (.tup (zs.map V.int)) t = _ := upd_same
      generalize upd H t (.tup (zs.map V.int)) = H1 at s1 et ⊢
      refine lenT (.inl (.inl et)) ⟨nr, sz, rfl, hnr, hsz, fun l H2 ts l0 el htus s2 => ?_⟩
      have et2 := s2 _ _ et
      have s12 := Same.tr s1 s2
      refine lenL (.inl (.inl el)) (neII.mpr ⟨_, rfl, ?_⟩)
      rw [List.length_map, List.length_map, plenQ htus, sts_len]
      by_cases hlen : zs.length = sz ^ nr
      · rw [if_neg (by rw [hlen]; simp)]
        refine ⟨t, rfl, ⟨_, .inl (.inl et2)⟩, fun D hD => LJ.it (walk_tup (xs := zs.map V.int)) (fun i H3 => H3 D = some (.lst (((zs.take i).map fun v => decide (0 ≤ v) && decide (v < (sz : Int))).map V.bl)) ∧ Same H2 H3) ⟨upd_same, UL.Same.new hD⟩ (fun i H3 _ inv => .inl (.inl (inv.2 _ _ et2))) (fun i y H3 H4 hi inv yy => ?_) fun H3 inv => ?_⟩
        · obtain ⟨rfl, hy⟩ := yy
          obtain ⟨eD, s3⟩ := inv
          rw [List.getElem?_map] at hy
          obtain ⟨v, hv2, rfl⟩ := Option.map_eq_some_iff.mp hy
          refine ⟨rfl, ?_⟩
          walk_at "rd"
          refine ⟨v, (sz : Int), rfl, _, eD, by rw [List.length_map, List.length_map, List.length_take, sizeLine_eq]; omega, ?_, UL.Same.put s3 hD⟩
          rw [upd_same, List.take_add_one, hv2, List.map_append, List.map_append]
          rfl
        · obtain ⟨eD, s3⟩ := inv
          rw [List.length_map, List.take_length] at eD
          have ea : (zs.map fun v => decide (0 ≤ v) && decide (v < (sz : Int))).all id = zs.all fun v => decide (0 ≤ v) && decide (v < (sz : Int)) := by rw [List.all_map]; rfl
          refine ⟨D, _, rfl, .inl (.inl eD), _, rfl, ?_⟩
          rw [ea]
          by_cases hall : (zs.all fun v => decide (0 ≤ v) && decide (v < (sz : Int))) = true
          · rw [if_neg (by rw [hall]; decide)]
            exact q zs hv (by unfold okTab; simp only; rw [hall, decide_eq_true hlen]; rfl) t H3 (s3 _ _ et2) (Same.tr s12 s3)
          · rw [if_pos (by simpa using hall)]
            refine raiseIT na hf (fun R r => ⟨_, rfl, r⟩) (X1.same (qx ?_) (Same.tr s12 s3))
            rw [hv]
            unfold okTab
            simp only
            rw [Bool.eq_false_iff.mpr hall, Bool.and_false]
      · rw [if_pos (by simp only [Bool.not_eq_true', decide_eq_false_iff_not]; omega)]
        refine raiseIT na hf (fun R r => ⟨_, rfl, r⟩) (X1.same (qx ?_) s12)
        rw [hv]
        unfold okTab
        simp only
        rw [decide_eq_false hlen, Bool.false_and]
/-- a machine's parts, its _ends not made yet (en none) or made -/
def fsM (y : Addr) (sz : Nat) (tb : Addr) : List (Str × V) := [("system", .ref y), ("size", .int (sz : Nat)), ("_tables", .ref tb)]
def fsM4 (y : Addr) (sz : Nat) (tb en : Addr) : List (Str × V) := [("system", .ref y), ("size", .int (sz : Nat)), ("_tables", .ref tb), ("_ends", .ref en)]
/-- the ends of programs, by name -/
def EnH (H : Hp) (ek : List (Str × Addr)) (sz : Nat) (cs : List Str) (tabs : Str → List Int) (progs : Str → List Sk) : Prop := ∀ q ∈ ek, ∃ kvs, H q.2 = some (.dT kvs) ∧ Paired (fun (kv : List Key × V) (st : List Int) => kv.1 = st.map Sum.inl ∧ ∃ t, kv.2 = .ref t ∧ H t = some (.tup ((endM sz tabs cs (progs q.1) st).map V.int))) kvs (sts sz cs.length)
theorem EnH.ext {H H' : Hp} {ek : List (Str × Addr)} {sz : Nat} {cs : List Str} {tabs : Str → List Int} {progs : Str → List Sk} (h : EnH H ek sz cs tabs progs) (s : ExtN H H') : EnH H' ek sz cs tabs progs := fun q hq => by
  obtain ⟨kvs, h1, h2⟩ := h q hq
  exact ⟨kvs, s _ _ h1 (fun _ z => nomatch z), L2.Paired.mapP h2 fun _ _ ⟨a, t, b, g⟩ => ⟨a, t, b, s _ _ g (fun _ z => nomatch z)⟩⟩
/-- a machine -/
structure MacH (Mc Sy : Addr) (H : Hp) (m y cl tb en : Addr) (sz : Nat) (cs : List Str) (tk ek : List (Str × Addr)) (tabs : Str → List Int) (progs : Str → List Sk) : Prop where
  ins : ∃ dx, H m = some (.ins Mc dx (fsM4 y sz tb en))
  sy : ∃ dy fs, H y = some (.ins Sy dy fs) ∧ fs.lookup ("cells" : Str) = some (.ref cl)
  cl : FT H cl (cs.map V.str)
  ht : H tb = some (.dK (pk tk))
  hv : ∀ f t, valA tk f = some t → H t = some (.tup ((tabs f).map V.int))
  he : H en = some (.dK (pk ek))
  en : EnH H ek sz cs tabs progs
/-- the first function whose table is wrong -/
def badTab (sz : Nat) (tv : Str → Option (List Int)) (as : List (Str × Nat)) : Option (Str × Nat) := as.find? fun q => !okTab sz q.2 (tv q.1)
def X1S (S : List Addr) (C : Addr) (f : Str) (v : V) (H : Hp) (E : XK) : Prop := ∀ d H', UX.SmS S H H' → H' d = some (.xd [(f, v)]) → E (.ref C) (some d) H'
/-- everything stays but bare objects and tables -/
def KpX (H H' : Hp) : Prop := ∀ b o, H b = some o → (∀ C d, o ≠ .ins C d []) → (∀ ps, o ≠ .tbl ps) → H' b = some o
theorem KpX.ext {H H' : Hp} (s : ExtN H H') : KpX H H' := fun b o e _ n => s b o e n
theorem KpX.same {H H1 H2 : Hp} (a : KpX H H1) (b : Same H1 H2) : KpX H H2 := fun c o e n m => b _ _ (a c o e n m)
theorem Yo.kpx {H H' : Hp} {y : Addr} {cs : List Str} {pd ad : Addr} {ps : List (Str × Addr)} {as : List (Str × Nat)} (h : Yo H Sy y cs pd ad ps as) (s : KpX H H') : Yo H' Sy y cs pd ad ps as := by
  obtain ⟨⟨dy, c, fs, h1, h2, h3, h4, h5, h9⟩, h6, h7, h8⟩ := h
  refine ⟨⟨dy, c, fs, s _ _ h1 (fun C d z => by cases z; cases h2) (fun _ z => nomatch z), h2, ?_, h4, h5, h9⟩, s _ _ h6 (fun _ _ z => nomatch z) (fun _ z => nomatch z), s _ _ h7 (fun _ _ z => nomatch z) (fun _ z => nomatch z), h8⟩
  rcases h3 with e | ⟨o, e⟩
  · exact .inl (s _ _ e (fun _ _ z => nomatch z) (fun _ z => nomatch z))
  · exact .inr ⟨o, s _ _ e (fun _ _ z => nomatch z) (fun _ z => nomatch z)⟩
theorem FT.kpx {H H' : Hp} {a : Addr} {xs : List V} (h : FT H a xs) (s : KpX H H') : FT H' a xs := let ⟨o, e, r⟩ := h; ⟨o, s _ _ e (fun _ _ z => nomatch z) (fun _ z => nomatch z), r⟩
theorem TdH.kpx {H H' : Hp} {td : Addr} {tv : Str → Option (List Int)} (h : TdH H td tv) (s : KpX H H') : TdH H' td tv := let ⟨kvs, la, h1, h2, h3⟩ := h; ⟨kvs, la, h1.elim (fun e => .inl (s _ _ e (fun _ _ z => nomatch z) (fun _ z => nomatch z))) (fun ⟨o, e⟩ => .inr ⟨o, s _ _ e (fun _ _ z => nomatch z) (fun _ z => nomatch z)⟩), h2, fun f zs e => s _ _ (h3 f zs e) (fun _ _ z => nomatch z) (fun _ z => nomatch z)⟩
theorem PgA.kpx {H H' : Hp} {a : Addr} {n : Str} {ks : List Sk} (h : PgA H R Wr B Pg a n ks) (s : KpX H H') : PgA H' R Wr B Pg a n ks := by
  have ft : ∀ {p : Addr} {xs : List V}, FT H p xs → FT H' p xs := fun f => FT.kpx f s
  obtain ⟨dx, p, ts, p1, p2, p3⟩ := h
  refine ⟨dx, p, ts, s _ _ p1 (fun _ _ z => by injection z with _ _ h; cases h) (fun _ z => nomatch z), ft p2, L2.Paired.mapP p3 fun t k h => ?_⟩
  cases k with
  | rd => obtain ⟨dx, e⟩ := h; exact ⟨dx, s _ _ e (fun _ _ z => by injection z with _ _ h; cases h) (fun _ z => nomatch z)⟩
  | wr => obtain ⟨dx, p, e, q⟩ := h; exact ⟨dx, p, s _ _ e (fun _ _ z => by injection z with _ _ h; cases h) (fun _ z => nomatch z), ft q⟩
  | rw => obtain ⟨dx, p, e, q⟩ := h; exact ⟨dx, p, s _ _ e (fun _ _ z => by injection z with _ _ h; cases h) (fun _ z => nomatch z), ft q⟩
/-- the tables stay where one thing that is no table changes -/
theorem tabs_off {T : List NdefX.NTab} {H H' : Hp} (h : NdefX.TabsN T H) (s : ∀ b o, H b = some o → (∀ C d fs, o ≠ .ins C d fs) → (∀ kvs, o ≠ .dK kvs) → H' b = some o) : NdefX.TabsN T H' := fun p hp => by
  obtain ⟨ps, h1, h2, h3⟩ := h p hp
  refine ⟨ps, s _ _ h1 (fun _ _ _ z => nomatch z) (fun _ z => nomatch z), h2, fun pos cv hc => ?_⟩
  obtain ⟨c, e1, e2⟩ := h3 pos cv hc
  exact ⟨c, e1, s _ _ e2 (fun _ _ _ z => nomatch z) (fun _ z => nomatch z)⟩
theorem valA_no {α : Type} {xs : List (Str × α)} {f : Str} (h : f ∉ xs.map (·.1)) : valA xs f = none := by
  unfold valA
  rw [Option.map_eq_none_iff, List.find?_eq_none]
  intro q hq e
  exact h (List.mem_map.mpr ⟨q, hq, by simpa using e⟩)
theorem valA_snoc {α : Type} {xs : List (Str × α)} {f g : Str} {a : α} : valA (xs ++ [(f, a)]) g = (valA xs g).or (if f = g then some a else none) := by
  unfold valA
  rw [List.find?_append]
  cases xs.find? fun q => decide (q.1 = g) with
  | some r => rfl
  | none =>
    by_cases e : f = g
    · simp [e]
    · simp [e]
theorem valA_in {α : Type} {xs : List (Str × α)} {q : Str × α} (hn : (xs.map (·.1)).Nodup) (hq : q ∈ xs) : valA xs q.1 = some q.2 := by
  induction xs with
  | nil => cases hq
  | cons r t ih =>
    rw [List.map_cons, List.nodup_cons] at hn
    by_cases e : r.1 = q.1
    · rcases List.mem_cons.mp hq with rfl | hm
      · simp [valA]
      · exact absurd (List.mem_map.mpr ⟨q, hm, e.symm⟩) hn.1
    · rcases List.mem_cons.mp hq with rfl | hm
      · exact absurd rfl e
      · have := ih hn.2 hm
        unfold valA at this ⊢
        rw [List.find?_cons_of_neg (by simpa using e)]
        exact this
theorem key_new {α β : Type} {xs : List (Str × α)} {ys : List (Str × β)} {i : Nat} {q : Str × α} (hn : (xs.map (·.1)).Nodup) (h : ys.map (·.1) = (xs.take i).map (·.1)) (hq : xs[i]? = some q) : q.1 ∉ ys.map (·.1) := fun hm => by
  rw [h, List.map_take] at hm
  obtain ⟨j, hj⟩ := List.mem_iff_getElem?.mp hm
  rw [List.getElem?_take] at hj
  split at hj
  · rename_i hlt
    have hi : (xs.map (·.1))[i]? = some q.1 := by rw [List.getElem?_map, hq]; rfl
    have il : i < (xs.map (·.1)).length := (List.getElem?_eq_some_iff.mp hi).1
    have := (List.getElem?_inj il hn).mp (hi.trans hj.symm)
    omega
  · cases hj
theorem findB {α : Type} {p : α → Bool} : ∀ {xs : List α} {i : Nat} {q : α}, xs[i]? = some q → (∀ r ∈ xs.take i, p r = false) → p q = true → xs.find? p = some q
  | [], _, _, h, _, _ => by cases h
  | r :: t, 0, q, h, _, hp => by cases h; rw [List.find?_cons_of_pos hp]
  | r :: t, i + 1, q, h, hb, hp => by
    rw [List.find?_cons_of_neg (by rw [hb r (by simp)]; simp)]
    exact findB (i := i) (by simpa using h) (fun r' hr => hb r' (by rw [List.take_succ_cons]; exact List.mem_cons_of_mem _ hr)) hp
abbrev s_Machine___init__ : Stmt := inClass (top 48) 0
abbrev sc_Machine___init___N : List Str := ["self", "system", "size", "tables", "function", "number", ".0", "name"]
theorem sc_Machine___init__ : FnScope sc_Machine___init___N ["self", "system", "size", "tables"] (defScope s_Machine___init__) := ⟨rfl, rfl, rfl, by decide +kernel, rfl, by decide +kernel, by decide +kernel⟩
-- 0 self, 1 system, 2 size, 3 tables, 4 function, 5 number, 6 .0, 7 name
def sp_minit (Ts : List NdefX.NTab) (R Wr B Pg Mc Sy IC IT : Addr) : Sp := fun vs H Q E => ∃ (x y cl nn td dx pd ad : Addr) (n : Int) (cs : List Str) (ps : List (Str × Addr)) (as : List (Str × Nat)) (tv : Str → Option (List Int)) (progs : Str → List Sk),
  vs = [.ref x, .ref y, .int n, .ref td] ∧ H x = some (.ins Mc dx []) ∧ Yo H Sy y cs pd ad ps as ∧ (∃ dy, H y = some (.ins Sy dy (fsS cl pd ad nn))) ∧ FT H cl (cs.map V.str) ∧ FT H nn (ps.map fun q => V.str q.1) ∧ TdH H td tv ∧ NdefX.TabsN Ts H ∧ cs.length ≤ 3 ∧ as.length ≤ 100 ∧ ps.length ≤ 100 ∧ (as.map (·.1)).Nodup ∧ (ps.map (·.1)).Nodup ∧ (∀ q ∈ as, q.1.length ≤ 1000 ∧ q.2 ≤ 3) ∧ (∀ f zs, tv f = some zs → zs.length ≤ 1000) ∧
  (∀ q ∈ ps, PgA H R Wr B Pg q.2 q.1 (progs q.1) ∧ (progs q.1).length ≤ 100 ∧ q.1.length ≤ 1000) ∧
  (∀ (sz : Nat), n = (sz : Int) → badTab sz tv as = none → ∀ tk : List (Str × Addr), tk.map (·.1) = as.map (·.1) → ∀ q ∈ ps, ∀ st ∈ sts sz cs.length, runOk (ApM (fun _ => none) sz tk fun f => (tv f).getD []) cs (progs q.1) st (fun _ => none) ()) ∧
  (¬ (1 ≤ n ∧ n ≤ 3) → X0 IC H E) ∧ (∀ sz : Nat, n = (sz : Int) → 1 ≤ sz → sz ≤ 3 → (∀ q, badTab sz tv as = some q → X1S [x] IT "function" (.str q.1) H E) ∧
    (badTab sz tv as = none → ∀ tb en tk ek H', MacH Mc Sy H' x y cl tb en sz cs tk ek (fun f => (tv f).getD []) progs → tk.map (·.1) = as.map (·.1) → ek.map (·.1) = ps.map (·.1) → (∀ b o, H b = some o → (∀ ps, o ≠ .tbl ps) → b ≠ x → H' b = some o) → NdefX.TabsN Ts H' → Q .non H'))
theorem m_minit {Ts : List NdefX.NTab} (X : MaX K mg R Wr B Pg Sy IS UC UP Mc) (D : MD K Mc "__init__" "Machine.__init__" s_Machine___init__) (d_check_size : Dn P w K mg base (L2.CX P w) 3 "check_size" (sp_chksX IC)) (m_functions : Mn P w K mg base CX0 1 Sy "functions" (sp_funcs Sy)) (d_copy_table : Dn P w K mg base (L2.CX P w) 3 "copy_table" (sp_copy IT)) (m__list_ends : Mn P w K mg base CX0 9 Mc "_list_ends" (sp_ends Ts R Wr B Pg Mc Sy)) :
    Mn P w K mg base (L2.CX P w) 10 Mc "__init__" (sp_minit Ts R Wr B Pg Mc Sy IC IT) := by
  refine D.mx sc_Machine___init__ (fun _ _ _ _ _ _ us hl => match us, hl with | [_, _, _, _], _ => rfl) (fun vs H Q E h => ?_) (fun f cdv A outer s H vs Q E hr h => ?_)
  · obtain ⟨x, y, cl, nn, td, dx, pd, ad, n, cs, ps, as, tv, progs, rfl, _⟩ := h; rfl
  · obtain ⟨x, y, cl, nn, td, dx, pd, ad, n, cs, ps, as, tv, progs, rfl, hx, hy, ⟨dy, hy1⟩, hcl, hnn, htd, hT, hc3, ha, hp, hand, hpnd, has, htv, hps, hrun, qx, q⟩ := h
    have T := X
    refine ⟨_, (pss_cons (ps_expr (pe_d d_check_size hr (by decide) (passes_call (takes_of rfl rfl rfl rfl) (fun _ _ _ _ h => h)) (by rfl) (pa_cons (pv 2) pa_nil)))
      (pss_cons (ps_fld (pv 0) (pv 1) rfl)
      (pss_cons (ps_fld (pv 0) (pv 2) rfl)
      (pss_cons (ps_fld (pv 0) pe_dnewK rfl)
      (pss_cons (ps_for (passes_of rfl) rfl (pi_list (pe_m' m_functions T.cls hr (by decide) pass0 (pv 1))) (pg_tup rfl (pgs_cons (pg_name (i := 4) sc_Machine___init__.nd rfl (Or.inl rfl)) (pgs_cons (pg_name (i := 5) sc_Machine___init__.nd rfl (Or.inl rfl)) pgs_nil))) (pss_one (ps_dput (un1 hr.units) (pe_fld (pv 0) (by rfl)) (pv 4) (pe_d d_copy_table hr (by decide) (passes_call (takes_of rfl rfl rfl rfl) (fun _ _ _ _ h => h)) (by rfl) (pa_cons (pv 3) (pa_cons (pv 4) (pa_cons (pv 5) (pa_cons (pv 2) pa_nil))))) rfl)))
      (pss_one (ps_fld (pv 0) (pe_dc (own := [(".0", 6), ("name", 7)]) (g := (gName 7)) (tt := tYes) rfl sc_Machine___init__.nd (pi_tup (pe_fld (pv 1) (by rfl))) (blkOk_by (N := sc_Machine___init___N) (sc := defScope s_Machine___init__) (by decide +kernel)) (fun _ _ _ _ _ => pg_name (i := 7) sc_Machine___init__.nd rfl (Or.inl rfl)) (fun _ _ _ _ _ => pts_nil) (fun _ _ _ _ _ => (pv 7)) (fun _ _ _ _ _ => (pe_m m__list_ends T.cM hr (by decide) pass0 (pv 0) (pa_cons (pv 7) pa_nil)))) rfl))))))), ?_⟩
    walk_at "rd"
    refine ⟨n, rfl, fun hn => ?_, fun hn => qx hn⟩
    obtain ⟨sz, rfl⟩ : ∃ sz : Nat, n = (sz : Int) := ⟨n.toNat, by omega⟩
    have hs1 : 1 ≤ sz := by omega
    have hs3 : sz ≤ 3 := by omega
    obtain ⟨qe, q⟩ := q sz rfl hs1 hs3
    have hrun := hrun sz rfl
    have l1 : ([("system", .ref y)] : List (Str × V)).length < 1000 := by show 1 < 1000; decide
    have l2 : ([("system", .ref y), ("size", .int (sz : Nat))] : List (Str × V)).length < 1000 := by show 2 < 1000; decide
    refine ⟨Mc, dx, [], hx, T.cM, T.m_system, by decide, Mc, dx, [("system", .ref y)], upd_same, T.cM, T.m_size, l1, fun tb htb => ?_⟩
    rw [upd_upd] at htb ⊢
    have xtb : tb ≠ x := fun e => by rw [e, upd_same] at htb; cases htb
    rw [upd_ne xtb] at htb
    refine ⟨Mc, dx, [("system", .ref y), ("size", .int (sz : Nat))], by rw [upd_ne xtb.symm]; exact upd_same, T.cM, T.m_tables, l2, ?_⟩
    generalize hg : upd (upd (upd H x (.ins Mc dx (putF "size" (.int (sz : Nat)) [("system", .ref y)]))) tb (.dK [])) x (.ins Mc dx (putF "_tables" (.ref tb) [("system", .ref y), ("size", .int (sz : Nat))])) = H2
    have k1 : H2 x = some (.ins Mc dx (fsM y sz tb)) := by rw [← hg]; exact upd_same
    have k2 : ∀ b o, H b = some o → b ≠ x → H2 b = some o := fun b o e ne => by
      rw [← hg, upd_ne ne, upd_ne (fun z => by rw [z, htb] at e; cases e), upd_ne ne]; exact e
    have k3 : H2 tb = some (.dK []) := by rw [← hg, upd_ne xtb]; exact upd_same
    have k4 : ∀ b, b ≠ x → H2 b = none → H b = none := fun b ne e => by
      rw [← hg, upd_ne ne] at e
      by_cases eb : b = tb
      · rw [eb]; exact htb
      · rw [upd_ne eb, upd_ne ne] at e; exact e
    clear hg
    have yx : y ≠ x := fun e => by
      obtain ⟨⟨_, _, _, h1, h2, _⟩, _⟩ := hy
      rw [e, hx] at h1
      cases h1
      cases h2
    have kp2 : KpX H H2 := fun b o e n _ => k2 b o e (fun z => by rw [z, hx] at e; cases e; exact n _ _ rfl)
    have yo2 := Yo.kpx hy kp2
    have hT2 : NdefX.TabsN Ts H2 := tabs_off hT fun b o e n _ => k2 b o e (fun z => by rw [z, hx] at e; cases e; exact n _ _ _ rfl)
    refine ⟨dy, fsS cl pd ad nn, k2 _ _ hy1 yx, rfl, y, pd, ad, cs, ps, as, rfl, yo2, fun H3 p ts s3 hp0 hts hpt ep pts => ⟨p, rfl, ⟨_, .inl (.inl ep)⟩, FJ.list (xs := ts.map V.ref) (fun i σ Hi => ∃ tk : List (Str × Addr), tk.map (·.1) = (as.take i).map (·.1) ∧ (∀ q ∈ as.take i, okTab sz q.2 (tv q.1) = true) ∧ Hi tb = some (.dK (pk tk)) ∧ (∀ f t, valA tk f = some t → ∃ zs, tv f = some zs ∧ Hi t = some (.tup (zs.map V.int))) ∧
      (∀ b o, H3 b = some o → b ≠ tb → Hi b = some o) ∧ (∀ b, Hi b = none → H3 b = none) ∧ ∃ a4 a5, σ = [some (V.ref x), some (V.ref y), some (V.int sz), some (V.ref td), a4, a5, none, none]) ⟨[], rfl, (fun q hq => by cases hq), s3 _ _ k3, (fun f t e => by cases e), (fun b o e _ => e), (fun b e => e), _, _, rfl⟩ (fun i σ Hi _ inv => ?_) (fun i v σ Hi hi inv => ?_) fun σ Hi inv => ?_⟩⟩
    · obtain ⟨tk, _, _, _, _, i5, _⟩ := inv
      exact .inl (.inl (i5 _ _ ep (fun e => by rw [e] at hp0; rw [k3] at hp0; cases hp0)))
    · obtain ⟨tk, i1, i2, i3, i4, i5, i6, a4, a5, rfl⟩ := inv
      rw [List.getElem?_map] at hi
      obtain ⟨t0, ht0, rfl⟩ := Option.map_eq_some_iff.mp hi
      obtain ⟨q0, hq0, et0⟩ := paired_get pts ht0
      have et0 := i5 _ _ et0 (fun e => by have z := hts t0 (List.mem_of_getElem? ht0); rw [e, k3] at z; cases z)
      have m0 := List.mem_of_getElem? hq0
      have hf := has q0 m0
      have kp : ∀ b o, H b = some o → b ≠ x → Hi b = some o := fun b o e n => i5 _ _ (s3 _ _ (k2 b o e n)) (fun z => by rw [z, htb] at e; cases e)
      have kpi : KpX H Hi := fun b o e n _ => kp b o e (fun z => by rw [z, hx] at e; cases e; exact n _ _ rfl)
      have xi : Hi x = some (.ins Mc dx (fsM y sz tb)) := i5 _ _ (s3 _ _ k1) (Ne.symm xtb)
      walk_at "rd"
      refine ⟨_, .inl (.inl et0), rfl, _, _, rfl, _, _, rfl, rfl, ?_⟩
      unfold sDPut
      walk_at "rd"
      have il : i < as.length := (List.getElem?_eq_some_iff.mp hq0).1
      refine ⟨td, q0.1, q0.2, sz, tv, rfl, TdH.kpx htd kpi, hf.1, hf.2, hs3, htv q0.1, fun zs hv hok t H4 et s4 => ?_, fun hbad => ?_⟩
      · have x4 := s4 _ _ xi
        have nk := key_new hand i1 hq0
        have vn := valA_no nk
        have lk : (pk tk).length < sizeLine := by
          have := congrArg List.length i1
          rw [List.length_map, List.length_map, List.length_take] at this
          unfold pk
          rw [List.length_map, sizeLine_eq]
          omega
        refine ⟨Mc, dx, _, x4, T.cM, T.m_tables, .ref tb, rfl, tb, rfl, _, DPut.k (k := Sum.inr q0.1) (v := .ref t) (s4 _ _ i3) lk, ?_⟩
        refine ⟨tk ++ [(q0.1, t)], ?_, ?_, ?_, ?_, ?_, ?_, _, rfl⟩
        · rw [List.take_add_one, hq0, List.map_append, List.map_append, i1]; rfl
        · intro q hq
          rw [List.take_add_one, hq0] at hq
          rcases List.mem_append.mp hq with h1 | h1
          · exact i2 q h1
          · rw [List.mem_singleton.mp (show q ∈ [q0] from h1), hv]; exact hok
        · rw [upd_same, putK_new (by rw [valV_pk, vn]; rfl)]
          unfold pk
          rw [List.map_append]
          rfl
        · intro f' t' e'
          have ot : ∀ {b : Addr} {xs : List V}, H4 b = some (.tup xs) → upd H4 tb (.dK (putK (pk tk) (Sum.inr q0.1) (.ref t))) b = some (.tup xs) := fun e => (upd_ne (fun z => by rw [z, s4 _ _ i3] at e; cases e)).trans e
          rw [valA_snoc] at e'
          cases hv2 : valA tk f' with
          | some t2 =>
            rw [hv2] at e'
            obtain rfl : t2 = t' := Option.some.inj e'
            obtain ⟨zs2, z1, z2⟩ := i4 f' t2 hv2
            exact ⟨zs2, z1, ot (s4 _ _ z2)⟩
          | none =>
            rw [hv2] at e'
            by_cases ef : q0.1 = f'
            · rw [if_pos ef] at e'
              obtain rfl : t = t' := Option.some.inj e'
              exact ⟨zs, by rw [← ef]; exact hv, ot et⟩
            · rw [if_neg ef] at e'; cases e'
        · exact fun b o e n => (upd_ne n).trans (s4 _ _ (i5 _ _ e n))
        · intro b e
          by_cases eb : b = tb
          · rw [eb, upd_same] at e; cases e
          · rw [upd_ne eb] at e
            cases hb : Hi b with
            | none => exact i6 b hb
            | some o => rw [s4 _ _ hb] at e; cases e
      · have fb : badTab sz tv as = some q0 := findB hq0 (fun r hr => by rw [i2 r hr]; rfl) (by rw [hbad]; rfl)
        exact fun d H' s' e' => qe q0 fb d H' (fun c o e n => s' _ _ (kp c o e (fun z => n (by rw [z]; simp)))) e'
    · obtain ⟨tk, i1, i2, i3, i4, i5, i6, a4, a5, rfl⟩ := inv
      have tl : ts.length = as.length := plenQ pts
      rw [List.length_map, tl, List.take_length] at i1 i2
      have fb : badTab sz tv as = none := by
        unfold badTab
        rw [List.find?_eq_none]
        intro r hr
        rw [i2 r hr]
        decide
      have hrun := hrun fb tk i1
      have q := q fb
      have kp : ∀ b o, H b = some o → b ≠ x → Hi b = some o := fun b o e n => i5 _ _ (s3 _ _ (k2 b o e n)) (fun z => by rw [z, htb] at e; cases e)
      have kpi : KpX H Hi := fun b o e n _ => kp b o e (fun z => by rw [z, hx] at e; cases e; exact n _ _ rfl)
      have xi : Hi x = some (.ins Mc dx (fsM y sz tb)) := i5 _ _ (s3 _ _ k1) (Ne.symm xtb)
      have yi := kp _ _ hy1 yx
      have yoi := Yo.kpx hy kpi
      have cli := FT.kpx hcl kpi
      have nni := FT.kpx hnn kpi
      have hTi : NdefX.TabsN Ts Hi := tabs_off hT2 fun b o e _ n => i5 _ _ (s3 _ _ e) (fun z => by rw [z, k3] at e; cases e; exact n _ rfl)
      have hvi : ∀ f t, valA tk f = some t → Hi t = some (.tup (((tv f).getD []).map V.int)) := fun f t e => by
        obtain ⟨zs, z1, z2⟩ := i4 f t e
        rw [z1]
        exact z2
      have ri : ∀ q ∈ ps, PgA Hi R Wr B Pg q.2 q.1 (progs q.1) := fun q hq => PgA.kpx (hps q hq).1 kpi
      unfold sFld
      dsimp only
      rw [tDc_eq]
      walk_at "rd"
      refine ⟨Sy, dy, _, yi, T.cls, T.s_names, .ref nn, rfl, nn, rfl, ⟨_, FT.sq nni⟩, fun D hD => DJ.tup (xs := ps.map fun q => V.str q.1) (fun i Hj => ∃ ek : List (Str × Addr), ek.map (·.1) = (ps.take i).map (·.1) ∧ Hj D = some (.dK (pk ek)) ∧ EnH Hj ek sz cs (fun f => (tv f).getD []) progs ∧ (∀ b o, Hi b = some o → (∀ ps, o ≠ .tbl ps) → Hj b = some o) ∧ NdefX.TabsN Ts Hj)
        ⟨[], rfl, upd_same, (fun q hq => by cases hq), (fun b o e _ => (upd_ne (fun z => by rw [z, hD] at e; cases e)).trans e), NdefX.TabsN.ext hTi fun b o e => (upd_ne (fun z => by rw [z, hD] at e; cases e)).trans e⟩ (fun i Hj _ inv => ?_) (fun i v Hj hi inv => ?_) fun Hj inv => ?_⟩
      · obtain ⟨ek, _, _, _, e4, _⟩ := inv
        exact FT.sq (FT.kpx nni (KpX.ext e4))
      · obtain ⟨ek, e1, e2, e3, e4, e5⟩ := inv
        rw [List.getElem?_map] at hi
        obtain ⟨q0, hq0, rfl⟩ := Option.map_eq_some_iff.mp hi
        have m0 := List.mem_of_getElem? hq0
        walk_at "rd"
        have kj : KpX Hi Hj := KpX.ext e4
        have cj : ∀ {b : Addr} {o : HO}, Hi b = some o → (∀ ps, o ≠ .tbl ps) → Hj b = some o := fun e n => e4 _ _ e n
        have xj := cj xi (fun _ z => nomatch z)
        have yj := cj yi (fun _ z => nomatch z)
        have nk := key_new hpnd e1 hq0
        have vn := valA_no nk
        have lk : (pk ek).length < sizeLine := by
          have := congrArg List.length e1
          rw [List.length_map, List.length_map, List.length_take] at this
          unfold pk
          rw [List.length_map, sizeLine_eq]
          have il : i < ps.length := (List.getElem?_eq_some_iff.mp hq0).1
          omega
        have hmo : ∀ z ∈ macM, (fsM y sz tb).lookup z = none := fun z hz => by
          unfold macM at hz
          simp only [List.mem_cons, List.not_mem_nil, or_false] at hz
          rcases hz with rfl | rfl | rfl | rfl | rfl | rfl | rfl <;> rfl
        refine ⟨dx, fsM y sz tb, xj, rfl, x, y, cl, tb, pd, ad, q0.2, sz, cs, tk, fun f => (tv f).getD [], ps, as, q0.1, progs q0.1, rfl, ⟨⟨dx, _, xj, rfl, rfl, hmo⟩, ⟨dy, _, yj, rfl⟩, FT.kpx cli kj⟩, ⟨⟨dx, _, xj, rfl, rfl, hmo⟩, cj i3 (fun _ z => nomatch z), fun f t e => cj (hvi f t e) (fun _ z => nomatch z)⟩, Yo.kpx yoi kj, e5, (hps q0 m0).2.2, valA_in hpnd m0, PgA.kpx (ri q0 m0) kj, hc3, hs3, (hps q0 m0).2.1, hrun q0 m0, fun d kvs H5 hd ed hpr s5 T5 => ⟨_, Sum.inr q0.1, rfl, s5 _ _ e2 (fun _ z => nomatch z), lk, ek ++ [(q0.1, d)], ?_, ?_, ?_, ?_, ?_⟩⟩
        · rw [List.take_add_one, hq0, List.map_append, List.map_append, e1]; rfl
        · rw [upd_same, putK_new (by rw [valV_pk, vn]; rfl)]
          unfold pk
          rw [List.map_append]
          rfl
        · have eD5 := s5 _ _ e2 (fun _ z => nomatch z)
          have off : ∀ {b : Addr} {o u : HO}, H5 b = some o → (∀ kvs, o ≠ .dK kvs) → upd H5 D u b = some o := fun e n => (upd_ne (fun z => by rw [z, eD5] at e; cases e; exact n _ rfl)).trans e
          intro q hq
          rcases List.mem_append.mp hq with h1 | h1
          · obtain ⟨kvs', g1, g2⟩ := e3 q h1
            exact ⟨kvs', off (s5 _ _ g1 (fun _ z => nomatch z)) (fun _ z => nomatch z), L2.Paired.mapP g2 fun _ _ ⟨a, t, b, g⟩ => ⟨a, t, b, off (s5 _ _ g (fun _ z => nomatch z)) (fun _ z => nomatch z)⟩⟩
          · obtain rfl := List.mem_singleton.mp h1
            exact ⟨kvs, off ed (fun _ z => nomatch z), L2.Paired.mapP hpr fun _ _ ⟨a, t, b, g⟩ => ⟨a, t, b, off g (fun _ z => nomatch z)⟩⟩
        · exact fun b o e n => (upd_ne (fun z => by rw [z, hD] at e; cases e)).trans (s5 _ _ (e4 _ _ e n) n)
        · have eD5 := s5 _ _ e2 (fun _ z => nomatch z)
          exact tabs_off T5 fun b o e _ n => (upd_ne (fun z => by rw [z, eD5] at e; cases e; exact n _ rfl)).trans e
      · obtain ⟨ek, e1, e2, e3, e4, e5⟩ := inv
        rw [List.length_map, List.take_length] at e1
        have cj : ∀ {b : Addr} {o : HO}, Hi b = some o → (∀ ps, o ≠ .tbl ps) → Hj b = some o := fun e n => e4 _ _ e n
        have xj := cj xi (fun _ z => nomatch z)
        have off : ∀ {b : Addr} {o u : HO}, Hj b = some o → (∀ C d fs, o ≠ .ins C d fs) → upd Hj x u b = some o := fun e n => (upd_ne (fun z => by rw [z, xj] at e; cases e; exact n _ _ _ rfl)).trans e
        refine ⟨Mc, dx, _, xj, T.cM, T.m_ends, by show 3 < 1000; decide, ?_⟩
        refine q tb D tk ek _ ⟨⟨dx, upd_same⟩, ⟨dy, _, (upd_ne yx).trans (cj yi (fun _ z => nomatch z)), rfl⟩, ?_, off (cj i3 (fun _ z => nomatch z)) (fun _ _ _ z => nomatch z), fun f t e => off (cj (hvi f t e) (fun _ z => nomatch z)) (fun _ _ _ z => nomatch z), off e2 (fun _ _ _ z => nomatch z), ?_⟩ i1 e1 (fun b o e n nx => (upd_ne nx).trans (cj (kp b o e nx) n)) (tabs_off e5 fun b o e n _ => off e n)
        · obtain ⟨o, e, r⟩ := FT.kpx cli (KpX.ext e4)
          exact ⟨o, off e (fun _ _ _ z => nomatch z), r⟩
        · intro q hq
          obtain ⟨kvs', g1, g2⟩ := e3 q hq
          exact ⟨kvs', off g1 (fun _ _ _ z => nomatch z), L2.Paired.mapP g2 fun _ _ ⟨a, t, b, g⟩ => ⟨a, t, b, off g (fun _ _ _ z => nomatch z)⟩⟩
end
end U
set_option Elab.async false
set_option linter.all false
set_option maxRecDepth 100000
set_option maxHeartbeats 4000000
set_option pp.deepTerms true
set_option pp.maxSteps 400000
namespace U
open PySem PySem.Spec PyProof.Rows L2 UL UX
local macro_rules | `(tactic| walk_at "rd") => `(tactic| simp only [sMatch, tJs, tFmt, tBC, tMethA, tMakeL, iEnumS, tSeq, tAsg, tOp, tCB, tCons, tNil, tVar, tC, tB, tTest, tNot, tIfS, tNext, tYes, tUn, rU, tM0, tGFrom, tGThen, tG0, tYfLst, gcxK, tSubO, tProp, tListG, tMethG, tBMF, tFld, sFld, tMeth, tMake, tSl, tNoPart, tPart, tM1, gTup, gCons, gNil, tDrop, tFor_eq, tLc_eq, tLc2_eq, iRng1_eq, StX.tStar, iList, iTup, iStr, iAny_var, iZipB, tLenSetS, wipe, tVar, tAndV, tOrV, tNotV, tOr, tAnd, tLst, tTup, tBM, tBM0, tChain, tCall, cxK, noxK, addII, addSS, mulII, eqII, neII, neSS, cIntI, cAbsI, rI, rI0, rLt, rLe, rGt_, rGe_, rSub_, rMod, rPow, rDivW, rNeg, gName, tRet, L2.start, List.length_cons, List.length_nil, List.map_cons, List.map_nil, List.replicate, List.cons_append, List.nil_append, List.getElem?_cons_zero, List.getElem?_cons_succ, List.set_cons_zero, List.set_cons_succ, Option.some.injEq, exists_eq_left', exists_eq_left, V.int.injEq, V.bl.injEq, V.str.injEq, V.ref.injEq, V.ty.injEq, List.cons.injEq, and_true, true_and, reduceCtorEq, false_and, exists_false, or_false, false_or, exists_and_left, exists_and_right, List.append_nil, forall_eq, decide_eq_true_eq, Bool.not_eq_true, Nat.reduceAdd, Nat.reduceSub, List.replicate_zero, List.replicate_succ, Nat.zero_le, ite_true, ite_false, if_true, if_false])
section
variable {P : Program} {w : World} {K : PySem.W.Frag} {mg : Str → Option Value} {base : Heap}
open UV UW NdefX ClX LamX
/-! a system's programs run to their ends -/
theorem cnt_sub {acc : List (Str × Nat)} {k : Sk} {f : Str} (h : f ∈ acc.map (·.1)) : f ∈ (cnt acc k).map (·.1) := by
  unfold cnt
  split
  · exact h
  · split
    · exact h
    · rw [List.map_append]; exact List.mem_append_left _ h
theorem cnt_in {acc : List (Str × Nat)} {k : Sk} {f : Str} {n : Nat} (h : k.fa = some (f, n)) : f ∈ (cnt acc k).map (·.1) := by
  unfold cnt
  rw [h]
  dsimp only
  split
  · assumption
  · rw [List.map_append]; exact List.mem_append_right _ (by simp)
theorem cnt_nodup {acc : List (Str × Nat)} {k : Sk} (h : (acc.map (·.1)).Nodup) : ((cnt acc k).map (·.1)).Nodup := by
  unfold cnt
  split
  · exact h
  · rename_i f n _
    split
    · exact h
    · rename_i hf
      rw [List.map_append]
      refine List.nodup_append.mpr ⟨h, by simp, fun a ha b hb e => hf ?_⟩
      obtain rfl : b = f := by simpa using hb
      exact e ▸ ha
theorem cnts_sub {ks : List Sk} : ∀ {acc : List (Str × Nat)} {f : Str}, f ∈ acc.map (·.1) → f ∈ (ks.foldl cnt acc).map (·.1) := by
  induction ks with
  | nil => exact fun h => h
  | cons k r ih => exact fun h => ih (acc := cnt _ k) (cnt_sub h)
theorem cnts_in {ks : List Sk} : ∀ {acc : List (Str × Nat)} {k : Sk} {f : Str} {n : Nat}, k ∈ ks → k.fa = some (f, n) → f ∈ (ks.foldl cnt acc).map (·.1) := by
  induction ks with
  | nil => intro _ _ _ _ h; cases h
  | cons k0 r ih =>
    intro acc k f n h hf
    rcases List.mem_cons.mp h with rfl | h
    · exact cnts_sub (acc := cnt acc k) (cnt_in hf)
    · exact ih (acc := cnt acc k0) h hf
theorem cnts_nodup {ks : List Sk} : ∀ {acc : List (Str × Nat)}, (acc.map (·.1)).Nodup → ((ks.foldl cnt acc).map (·.1)).Nodup := by
  induction ks with
  | nil => exact fun h => h
  | cons k r ih => exact fun h => ih (cnt_nodup h)
theorem cntQ_sub {qs : List Rw} : ∀ {acc : List (Str × Nat)} {f : Str}, f ∈ acc.map (·.1) → f ∈ (cntQ acc qs).map (·.1) := by
  induction qs with
  | nil => exact fun h => h
  | cons q r ih => exact fun h => ih (acc := q.ks.foldl cnt _) (cnts_sub h)
theorem cntQ_in {qs : List Rw} : ∀ {acc : List (Str × Nat)} {q : Rw} {k : Sk} {f : Str} {n : Nat}, q ∈ qs → k ∈ q.ks → k.fa = some (f, n) → f ∈ (cntQ acc qs).map (·.1) := by
  induction qs with
  | nil => intro _ _ _ _ _ h; cases h
  | cons q0 r ih =>
    intro acc q k f n h hk hf
    rcases List.mem_cons.mp h with rfl | h
    · exact cntQ_sub (acc := q.ks.foldl cnt acc) (cnts_in hk hf)
    · exact ih (acc := q0.ks.foldl cnt acc) h hk hf
theorem cntQ_nodup {qs : List Rw} : ∀ {acc : List (Str × Nat)}, (acc.map (·.1)).Nodup → ((cntQ acc qs).map (·.1)).Nodup := by
  induction qs with
  | nil => exact fun h => h
  | cons q r ih => exact fun h => ih (acc := q.ks.foldl cnt _) (cnts_nodup h)
theorem cntQ_ar {cs fs : List Str} (nd : fs.Nodup) {qs : List Rw} : ∀ {acc : List (Str × Nat)}, (∀ q ∈ qs, ∀ k ∈ q.ks, InS cs fs k) → (∀ q ∈ acc, ArOk fs q) → ∀ q ∈ cntQ acc qs, ArOk fs q := by
  induction qs with
  | nil => exact fun _ h => h
  | cons q0 r ih => exact fun h ha => ih (acc := q0.ks.foldl cnt _) (fun q hq => h q (List.mem_cons_of_mem _ hq)) (takeSs_ok nd (h q0 List.mem_cons_self) ha).2
/-- each function has the number of arguments that its steps give it -/
theorem cntQ_val {cs fs : List Str} (nd : fs.Nodup) {qs : List Rw} (h : ∀ q ∈ qs, ∀ k ∈ q.ks, InS cs fs k) {q : Rw} {k : Sk} {f : Str} {n : Nat} (hq : q ∈ qs) (hk : k ∈ q.ks) (hf : k.fa = some (f, n)) : valA (cntQ [] qs) f = some n := by
  obtain ⟨m, hm, hmem⟩ := valA_some (cntQ_in (acc := []) hq hk hf)
  rw [hm]
  exact congrArg some ((cntQ_ar (acc := []) nd h (fun q hq => nomatch hq) _ hmem).uni nd ((h q hq k hk).2 f n hf))
/-- a value of a cell -/
def InR (sz : Nat) (v : Int) : Prop := 0 ≤ v ∧ v < (sz : Int)
theorem hor_rng {sz : Nat} (hz : 1 ≤ sz) : ∀ {xs : List Int}, (∀ v ∈ xs, InR sz v) → ∀ {a : Int} {m : Nat}, 0 ≤ a → a < ((sz ^ m : Nat) : Int) → 0 ≤ xs.foldl (fun (i x : Int) => i * (sz : Int) + x) a ∧ xs.foldl (fun (i x : Int) => i * (sz : Int) + x) a < ((sz ^ (m + xs.length) : Nat) : Int)
  | [], _, a, m, h0, h1 => ⟨h0, h1⟩
  | x :: r, h, a, m, h0, h1 => by
    obtain ⟨x0, x1⟩ := h x List.mem_cons_self
    have hz0 : (0 : Int) ≤ sz := by omega
    have h2 : 0 ≤ a * (sz : Int) + x := by have := Int.mul_nonneg h0 hz0; omega
    have h3 : a * (sz : Int) + x < ((sz ^ (m + 1) : Nat) : Int) := by
      have e1 : a + 1 ≤ ((sz ^ m : Nat) : Int) := h1
      have e2 := Int.mul_le_mul_of_nonneg_right e1 hz0
      rw [Int.add_mul, Int.one_mul] at e2
      rw [Nat.pow_succ, Int.natCast_mul]
      omega
    have := hor_rng hz (fun v hv => h v (List.mem_cons_of_mem _ hv)) h2 h3
    rw [show m + (x :: r).length = m + 1 + r.length by simp only [List.length_cons]; omega]
    exact this
theorem horOk_of {sz n : Nat} {tabs : Str → List Int} {f : Str} {xs : List Int} (hz : 1 ≤ sz) (h : ∀ v ∈ xs, InR sz v) (hl : xs.length = n) (ht : (tabs f).length = sz ^ n) : horOk sz tabs f xs := by
  have := hor_rng hz h (a := 0) (m := 0) (Int.le_refl 0) (by simp)
  unfold horOk hor
  rw [ht, ← hl]
  rw [Nat.zero_add] at this
  exact this
theorem fnM_rng {sz : Nat} {tabs : Str → List Int} {f : Str} {xs : List Int} (h : horOk sz tabs f xs) (ht : ∀ v ∈ tabs f, InR sz v) : InR sz (fnM sz tabs f xs) := by
  unfold fnM
  have hl : (hor sz xs).toNat < (tabs f).length := by have := h.1; have := h.2; omega
  rw [List.getElem?_eq_getElem hl]
  exact ht _ (List.getElem_mem hl)
/-- the tables are right for these functions -/
def TabOk (sz : Nat) (tabs : Str → List Int) (f : Str) (n : Nat) : Prop := (tabs f).length = sz ^ n ∧ ∀ v ∈ tabs f, InR sz v
theorem idx_rng {cs : List Str} {sz : Nat} {st : List Int} {s : Str} (hs : s ∈ cs) (hl : st.length = cs.length) (hst : ∀ v ∈ st, InR sz v) : InR sz (st[cs.idxOf s]?.getD 0) := by
  have il : cs.idxOf s < st.length := by rw [hl]; exact List.idxOf_lt_length_iff.mpr hs
  rw [List.getElem?_eq_getElem il]
  exact hst _ (List.getElem_mem il)
/-- what is known of the locals -/
def VrOk (sz : Nat) (kn : List Str) (vr : Str → Option Int) : Prop := ∀ x ∈ kn, ∃ v, vr x = some v ∧ InR sz v
theorem VrOk.set {sz : Nat} {kn : List Str} {vr : Str → Option Int} {l : Str} {v : Int} (h : VrOk sz kn vr) (hv : InR sz v) : VrOk sz (kn ++ [l]) (updV vr l v) := fun x hx => by
  by_cases e : x = l
  · exact ⟨v, by unfold updV; rw [if_pos e], hv⟩
  · rcases List.mem_append.mp hx with h1 | h1
    · obtain ⟨u, a, b⟩ := h x h1
      exact ⟨u, by unfold updV; rw [if_neg e]; exact a, b⟩
    · exact absurd (List.mem_singleton.mp h1) e
theorem run_good {cs : List Str} {sz : Nat} {tk : List (Str × Addr)} {tabs : Str → List Int} {G : Hp} (hz : 1 ≤ sz) : ∀ {ks : List Sk} {kn : List Str} {st : List Int} {vr : Str → Option Int}, GoodS kn ks → (∀ k ∈ ks, (∀ c ∈ k.src ++ k.tgt, c ∈ cs) ∧ ∀ f n, k.fa = some (f, n) → TabOk sz tabs f n ∧ ∃ t, valA tk f = some t) →
    st.length = cs.length → (∀ v ∈ st, InR sz v) → VrOk sz kn vr → runOk (ApM G sz tk tabs) cs ks st vr () ∧ ∀ v ∈ (runS (ApM G sz tk tabs) cs ks st vr ()).1, InR sz v
  | [], kn, st, vr, _, _, _, hst, _ => ⟨trivial, hst⟩
  | k :: r, kn, st, vr, ⟨hg, hgr⟩, hk, hl, hst, hvr => by
    have k0 := hk k List.mem_cons_self
    have args : ∀ {kn' : List Str} {vr' : Str → Option Int} {xs : List Str}, VrOk sz kn' vr' → (∀ x ∈ xs, x ∈ kn') → (∀ x ∈ xs, (vr' x).isSome = true) ∧ ∀ v ∈ xs.map (fun x => (vr' x).getD 0), InR sz v := fun hv hx =>
      ⟨fun x h => by obtain ⟨v, e, _⟩ := hv x (hx x h); rw [e]; rfl, fun v h => by obtain ⟨x, h1, rfl⟩ := List.mem_map.mp h; obtain ⟨u, e, g⟩ := hv x (hx x h1); rw [e]; exact g⟩
    have sets : ∀ {i : Nat} {v : Int}, InR sz v → ∀ u ∈ st.set i v, InR sz u := fun hv u hu => by
      rcases List.mem_or_eq_of_mem_set hu with h | h
      · exact hst u h
      · rw [h]; exact hv
    have wr : ∀ {kn' : List Str} {vr' : Str → Option Int} {f : Str} {xs : List Str}, k.fa = some (f, xs.length) → VrOk sz kn' vr' → (∀ x ∈ xs, x ∈ kn') → horOk sz tabs f (xs.map fun x => (vr' x).getD 0) ∧ InR sz (fnM sz tabs f (xs.map fun x => (vr' x).getD 0)) := fun hf hv hx => by
      have t := k0.2 _ _ hf
      have a := args hv hx
      have ho := horOk_of hz a.2 (List.length_map _) t.1.1
      exact ⟨ho, fnM_rng ho t.1.2⟩
    cases k with
    | rd s l =>
      have hs : s ∈ cs := k0.1 s (by simp [Sk.src])
      have iv := idx_rng hs hl hst
      obtain ⟨h1, h2⟩ := run_good hz (ks := r) (kn := kn ++ [l]) (st := st) (vr := updV vr l (st[cs.idxOf s]?.getD 0)) hgr (fun k' h => hk k' (List.mem_cons_of_mem _ h)) hl hst (hvr.set iv)
      exact ⟨⟨hs, h1⟩, h2⟩
    | wr t f xs =>
      have ht : t ∈ cs := k0.1 t (by simp [Sk.src, Sk.tgt])
      have hx : ∀ x ∈ xs, x ∈ kn := fun x h => by have := hg.2.2.1 x h; simpa [Sk.loc] using this
      obtain ⟨ho, hr⟩ := wr rfl hvr hx
      obtain ⟨h1, h2⟩ := run_good hz (ks := r) (kn := kn) (st := st.set (cs.idxOf t) (fnM sz tabs f (xs.map fun x => (vr x).getD 0))) (vr := vr) (by simpa [Sk.loc] using hgr) (fun k' h => hk k' (List.mem_cons_of_mem _ h)) (by rw [List.length_set]; exact hl) (sets hr) hvr
      exact ⟨⟨⟨ht, (args hvr hx).1, hg.2.2.2, (k0.2 _ _ rfl).2, ho⟩, h1⟩, h2⟩
    | rw s l t f xs =>
      have hs : s ∈ cs := k0.1 s (by simp [Sk.src, Sk.tgt])
      have ht : t ∈ cs := k0.1 t (by simp [Sk.src, Sk.tgt])
      have iv := idx_rng hs hl hst
      have hv2 := hvr.set (l := l) iv
      have hx : ∀ x ∈ xs, x ∈ kn ++ [l] := fun x h => by have := hg.2.2.1 x h; simpa [Sk.loc] using this
      obtain ⟨ho, hr⟩ := wr rfl hv2 hx
      obtain ⟨h1, h2⟩ := run_good hz (ks := r) (kn := kn ++ [l]) (st := st.set (cs.idxOf t) (fnM sz tabs f (xs.map fun x => (updV vr l (st[cs.idxOf s]?.getD 0) x).getD 0))) (vr := updV vr l (st[cs.idxOf s]?.getD 0)) hgr (fun k' h => hk k' (List.mem_cons_of_mem _ h)) (by rw [List.length_set]; exact hl) (sets hr) hv2
      exact ⟨⟨⟨hs, ht, (args hv2 hx).1, hg.2.2.2, (k0.2 _ _ rfl).2, ho⟩, h1⟩, h2⟩
end
end U
set_option Elab.async false
set_option linter.all false
set_option maxRecDepth 100000
set_option maxHeartbeats 4000000
set_option pp.deepTerms true
set_option pp.maxSteps 400000
namespace U
open PySem PySem.Spec PyProof.Rows L2 UL UX
local macro_rules | `(tactic| walk_at "rd") => `(tactic| simp only [sMatch, tJs, tFmt, tBC, tMethA, tMakeL, iEnumS, tSeq, tAsg, tOp, tCB, tCons, tNil, tVar, tC, tB, tTest, tNot, tIfS, tNext, tYes, tUn, rU, tM0, tGFrom, tGThen, tG0, tYfLst, gcxK, tSubO, tProp, tListG, tMethG, tBMF, tFld, sFld, tMeth, tMake, tSl, tNoPart, tPart, tM1, gTup, gCons, gNil, tDrop, tFor_eq, tLc_eq, tLc2_eq, iRng1_eq, StX.tStar, iList, iTup, iStr, iAny_var, iZipB, tLenSetS, wipe, tVar, tAndV, tOrV, tNotV, tOr, tAnd, tLst, tTup, tBM, tBM0, tChain, tCall, cxK, noxK, addII, addSS, mulII, eqII, neII, neSS, cIntI, cAbsI, rI, rI0, rLt, rLe, rGt_, rGe_, rSub_, rMod, rPow, rDivW, rNeg, gName, tRet, L2.start, List.length_cons, List.length_nil, List.map_cons, List.map_nil, List.replicate, List.cons_append, List.nil_append, List.getElem?_cons_zero, List.getElem?_cons_succ, List.set_cons_zero, List.set_cons_succ, Option.some.injEq, exists_eq_left', exists_eq_left, V.int.injEq, V.bl.injEq, V.str.injEq, V.ref.injEq, V.ty.injEq, List.cons.injEq, and_true, true_and, reduceCtorEq, false_and, exists_false, or_false, false_or, exists_and_left, exists_and_right, List.append_nil, forall_eq, decide_eq_true_eq, Bool.not_eq_true, Nat.reduceAdd, Nat.reduceSub, List.replicate_zero, List.replicate_succ, Nat.zero_le, ite_true, ite_false, if_true, if_false])
section
variable {P : Program} {w : World} {K : PySem.W.Frag} {mg : Str → Option Value} {base : Heap}
open UV UW NdefX ClX LamX
variable {R Wr B Pg Sy IC IS UC UP Mc IT Iv OR : Addr}
local macro_rules | `(tactic| walk_at "rdx") => `(tactic| simp only [tCons, tNil, tJs, tC, tFmt, tFmtN, tVar, tOst, tSeq, NdefX.startF, L2.start, List.length_cons, List.length_nil, List.map_cons, List.map_nil, List.replicate, List.cons_append, List.nil_append, List.getElem?_cons_zero, List.getElem?_cons_succ, Option.some.injEq, exists_eq_left', exists_eq_left, V.str.injEq, V.int.injEq, V.ref.injEq, reduceCtorEq, false_and, exists_false, or_false, false_or, and_true, true_and, exists_and_left, exists_and_right, Nat.reduceAdd, Nat.reduceSub, Nat.reduceLeDiff, ncK])
/-! states that are checked; machines that run programs -/
abbrev s_OR : Stmt := inClass (top 4) 0
theorem sc_OR : NScope ["self", "cell", "value", "__class__"] ["self", "cell", "value"] ["__class__"] (defScope s_OR) := nscope_by (by decide +kernel)
def sp_OR : Addr → Sp := fun C vs H Q _ => ∃ (a : Addr) (x0 : Str) (x1 : Int), vs = [.ref a, .str x0, .int x1] ∧ H a = some (exo a C none) ∧ PySem.W.findIn K (.ref C) "cell" = some none ∧ PySem.W.findIn K (.ref C) "value" = some none ∧ x0.length ≤ 1000 ∧ x0.length ≤ 1000 ∧ -(2 ^ 64) < x1 ∧ x1 < 2 ^ 64 ∧ ∀ d, H d = none → d ≠ a → Q .non (upd (upd (upd H d (exd d [(("cell" : Str), V.str x0)])) a (exo a C (some d))) d (exd d [(("value" : Str), V.int x1), (("cell" : Str), V.str x0)]))
theorem x_OR {C : Addr} (D : XD P K mg C "OutOfRange" "OutOfRange.__init__" s_OR) : Xn P w K mg base 1 C "OutOfRange" (sp_OR (K := K) C) := by
  obtain ⟨f, c, cc, oc, kV, doc, pm, ct, od, an, osl, lk, hcd, F, h1, h2⟩ := D.ex
  refine ⟨⟨f, _, ["self", "cell", "value"], fn_sup (N := ["self", "cell", "value", "__class__"]) (ps := ["cell", "value"]) (pl := _) lk hcd sc_OR D.ox F (by decide +kernel) (fun vs H Q E h => ?_) (fun A outer s H vs Q E hr h => ?_), h1, h2, Binds.all fun us hl => match us, hl with | [_, _, _], _ => rfl⟩, D.ox, D.gc⟩
  · obtain ⟨a, x0, x1, rfl, _⟩ := h; rfl
  · obtain ⟨a, x0, x1, rfl, ha, hf0, hf1, hc0, hd0, hc1, hd1, q⟩ := h
    refine ⟨a, _, _, rfl, ha, pa_cons (pe_joined (.cons pe_str (.cons (pe_fmt (pv 1)) (.cons pe_str (.cons (pe_fmt (pv 2)) .nil))))) pa_nil, (pss_cons (ps_ost (pv 0) (pv 1)) (pss_one (ps_ost (pv 0) (pv 2)))), ?_⟩
    walk_at "rdx"
    have ll0 : (Str.ofString "cell ").length ≤ 200 := by decide +kernel
    have ll1 : (Str.ofString " cannot hold ").length ≤ 200 := by decide +kernel
    have l0 : Str.empty.length = 0 := rfl
    have lg1 := log64 hc1 hd1
    have li1 := int_text_len_1921 lg1
    repeat (first | refine ⟨by (simp only [len_app, l0, sizeLine_eq]; omega), ?_⟩ | refine ⟨lg1, ?_⟩)
    exact ⟨ha, C, D.ox, hf0, .inl ⟨ha, fun d hd hda => ⟨C, D.ox, hf1, .inr ⟨d, upd_same, _, by rw [upd_ne hda, upd_same], by show 1 ≤ 900; decide, q d hd hda⟩⟩⟩⟩
theorem pmkS_x {X : Cx} {C : Addr} {x : Str} {sp : Sp} {k j : Nat} {e : Expr} {es : List Expr} {ta : TA} {p pos : Pos} (d : Xn X.prog X.w X.K X.mg X.base k C x sp) (hr : Room j X.A) (hk : k + 1 ≤ j) (hg : Gl X x) (ha : PA X (e :: es) ta)
    (hdb : (x == ("__debug__" : Str)) = false := by decide) (he : starEach (e :: es) X.env = (false, eval e X.env) :: starEach es X.env := by rfl) (hpl : (backTo pos (starEach es X.env)).any (·.1) = false := by rfl) : PMkS X (.Call (.Name x p) (e :: es) [] pos) (tMkO C sp [] ta) := by
  obtain ⟨f, fd, ps, F, h1, h2, B⟩ := d.ex
  exact made6 d.ox h1 h2 F hr hk B hg d.gc ha hdb he hpl
/-- None or a name -/
def nmV (c : V) : Prop := c = .non ∨ ∃ z : Str, c = .str z ∧ z.length ≤ 1000
abbrev s_Iv : Stmt := inClass (top 5) 0
theorem sc_Iv : NScope ["self", "cell", "__class__"] ["self", "cell"] ["__class__"] (defScope s_Iv) := nscope_by (by decide +kernel)
def sp_Iv : Addr → Sp := fun C vs H Q _ => ∃ (a : Addr) (c : V), vs = [.ref a, c] ∧ H a = some (exo a C none) ∧ PySem.W.findIn K (.ref C) "cell" = some none ∧ nmV c ∧ ∀ d, H d = none → d ≠ a → Q .non (upd (upd H d (exd d [(("cell" : Str), c)])) a (exo a C (some d)))
theorem x_Iv {C : Addr} (D : XD P K mg C "InvalidState" "InvalidState.__init__" s_Iv) : Xn P w K mg base 1 C "InvalidState" (sp_Iv (K := K) C) := by
  obtain ⟨f, c, cc, oc, kV, doc, pm, ct, od, an, osl, lk, hcd, F, h1, h2⟩ := D.ex
  refine ⟨⟨f, _, ["self", "cell"], fn_sup (N := ["self", "cell", "__class__"]) (ps := ["cell"]) (pl := _) lk hcd sc_Iv D.ox F (by decide +kernel) (fun vs H Q E h => ?_) (fun A outer s H vs Q E hr h => ?_), h1, h2, Binds.all fun us hl => match us, hl with | [_, _], _ => rfl⟩, D.ox, D.gc⟩
  · obtain ⟨a, z, rfl, _⟩ := h; rfl
  · obtain ⟨a, z, rfl, ha, hf, hz, q⟩ := h
    refine ⟨a, _, _, rfl, ha, pa_cons (pe_joined (.cons pe_str (.cons (pe_fmtN (pv 1)) .nil))) pa_nil, pss_one (ps_ost (pv 0) (pv 1)), ?_⟩
    walk_at "rdx"
    have l1 : (Str.empty ++ Str.ofString "the state is wrong at cell ").length ≤ 100 := by decide +kernel
    have l2 : (Str.ofString "None").length ≤ 10 := by decide +kernel
    rcases hz with rfl | ⟨y, rfl, hy⟩
    · refine ⟨by rw [sizeLine_eq]; omega, .inr (.inr ⟨rfl, by rw [len_app, sizeLine_eq]; omega, ha, C, D.ox, hf, .inl ⟨ha, fun d hd hda => q d hd hda⟩⟩)⟩
    · refine ⟨by rw [sizeLine_eq]; omega, .inl ⟨y, rfl, by rw [sizeLine_eq]; omega, by rw [len_app, sizeLine_eq]; omega, ha, C, D.ox, hf, .inl ⟨ha, fun d hd hda => q d hd hda⟩⟩⟩
theorem exg2 {H : Hp} {a d : Addr} {o1 o2 o3 o4 o5 : HO} (ha : H a = none) : upd (del (upd (upd (upd (upd H a o1) d o2) a o3) d o5) a) d o4 = upd H d o4 := by
  funext b
  by_cases hb : b = d
  · rw [hb, upd_same, upd_same]
  · rw [upd_ne hb, upd_ne hb]
    by_cases h2 : b = a
    · rw [h2, del_same, ha]
    · rw [del_ne h2, upd_ne hb, upd_ne h2, upd_ne hb, upd_ne h2]
structure XT3 (K : PySem.W.Frag) (Iv OR : Addr) : Prop where
  i1 : PySem.W.findIn K (.ref Iv) "cell" = some none
  o1 : PySem.W.findIn K (.ref OR) "cell" = some none
  o2 : PySem.W.findIn K (.ref OR) "value" = some none
def bad (s v : Int) : Prop := v < 0 ∨ s ≤ v
instance (s v : Int) : Decidable (bad s v) := by unfold bad; infer_instance
theorem bad_dec (s v : Int) : (decide (0 ≤ v) && decide (v < s)) = !decide (bad s v) := by
  rw [Bool.eq_iff_iff]
  simp only [Bool.and_eq_true, decide_eq_true_eq, Bool.not_eq_true', decide_eq_false_iff_not]
  unfold bad
  omega
theorem map_at {α : Type} {f : α → V} {l : List α} {i : Nat} {x : V} (h : (l.map f)[i]? = some x) : ∃ z, x = f z ∧ l[i]? = some z := by
  rw [List.getElem?_map] at h
  cases hz : l[i]? with
  | none => rw [hz] at h; cases h
  | some z => rw [hz] at h; cases h; exact ⟨z, rfl, rfl⟩
/-- what is wrong with a state: None, or the first cell whose item is out of range -/
def badSt (s : Int) (xs : List Str) (ys : List Int) : Option V := if xs.length = ys.length then ((xs.zip ys).find? fun p => decide (bad s p.2)).map fun p => V.str p.1 else some .non
/-- what a check of a state does, R where it is one -/
def stX (Iv : Addr) (s : Int) (xs : List Str) (ys : List Int) (H : Hp) (R : Hp → Prop) (E : XK) : Prop := (∀ v, badSt s xs ys = some v → X1 Iv "cell" v H E) ∧ (badSt s xs ys = none → ∀ H', Same H H' → R H')
def smallL (xs : List Str) (ys : List Int) : Prop := (∀ z ∈ xs, z.length ≤ 1000) ∧ ∀ v ∈ ys, -(2 ^ 64) < v ∧ v < 2 ^ 64
theorem badSt_none {s : Int} {xs : List Str} {ys : List Int} (h : badSt s xs ys = none) : xs.length = ys.length ∧ ∀ v ∈ ys, ¬ bad s v := by
  unfold badSt at h
  split at h
  · rename_i hl
    rw [Option.map_eq_none_iff, List.find?_eq_none] at h
    refine ⟨hl, fun v hv => ?_⟩
    obtain ⟨i, hi⟩ := List.getElem?_of_mem hv
    have il : i < ys.length := (List.getElem?_eq_some_iff.mp hi).1
    have hz : (xs.zip ys)[i]? = some (xs[i]'(by omega), v) := by
      rw [List.getElem?_zip_eq_some]
      exact ⟨List.getElem?_eq_getElem (by omega), hi⟩
    have := h _ (List.mem_of_getElem? hz)
    simpa using this
  · cases h
abbrev s_check_state : Stmt := top 39
abbrev sc_check_state_N : List Str := ["names", "size", "state", "name", "value"]
theorem sc_check_state : FnScope sc_check_state_N ["names", "size", "state"] (defScope s_check_state) := ⟨rfl, rfl, rfl, by decide +kernel, rfl, by decide +kernel, by decide +kernel⟩
-- 0 names, 1 size, 2 state, 3 name, 4 value
def sp_cst : PySem.W.Frag → Addr → Sp := fun K Iv vs H Q E => ∃ (a b : Addr) (xs : List Str) (ys : List Int) (s : Int), vs = [.ref a, .int s, .ref b] ∧ SqA K H a (xs.map V.str) ∧ SqA K H b (ys.map V.int) ∧ smallL xs ys ∧ stX Iv s xs ys H (fun H' => Q .non H') E
theorem d_cst (T : Nm mg) (XX : XT3 K Iv OR) (D : TD K mg "check_state" s_check_state) (d_is_value : Dn P w K mg base CX0 1 "is_value" sp_isval) (x_InvalidState : Xn P w K mg base 1 Iv "InvalidState" (sp_Iv (K := K) Iv)) (x_OutOfRange : Xn P w K mg base 1 OR "OutOfRange" (sp_OR (K := K) OR)) :
    Dn P w K mg base (L2.CX P w) 3 "check_state" (sp_cst K Iv) := by
  refine D.dx sc_check_state (fun _ _ _ _ _ _ us hl => match us, hl with | [_, _, _], _ => rfl) (fun vs H Q E h => ?_) (fun f cdv A outer s H vs Q E hr h => ?_)
  · obtain ⟨a, b, xs, ys, n, rfl, _⟩ := h; rfl
  · obtain ⟨a, b, xs, ys, n, rfl, ha, hb, ⟨sm1, sm2⟩, q1, q2⟩ := h
    refine ⟨_, (pss_cons (ps_if (pt_cmpR (op_neA (hr.units)) (pe_callB call_lenA (by rfl) T.n_len (by decide +kernel) (pa_cons (pv 2) pa_nil)) (pe_callB call_lenA (by rfl) T.n_len (by decide +kernel) (pa_cons (pv 0) pa_nil)) (nomark _)) (pss_one (ps_raise rfl (takes_of rfl rfl rfl rfl) (pmk_x x_InvalidState hr (by decide) (by rfl) (pa_cons pe_non pa_nil)))) pss_nil)
      (pss_one (ps_for (passes_of rfl) rfl (pi_zipB (by rfl) T.n_zip (pa_cons (pv 0) (pa_cons (pv 2) pa_nil))) (pg_tup rfl (pgs_cons (pg_name (i := 3) sc_check_state.nd rfl (Or.inl rfl)) (pgs_cons (pg_name (i := 4) sc_check_state.nd rfl (Or.inl rfl)) pgs_nil))) (pss_one (ps_if (pt_not (pt_val (pe_d d_is_value hr (by decide) pass0 (by rfl) (pa_cons (pv 4) (pa_cons (pv 1) pa_nil))))) (pss_one (ps_raiseFrom rfl rfl (takes_of rfl rfl rfl rfl) (pmkS_x x_InvalidState hr (by decide) (by rfl) (pa_cons (pv 3) pa_nil)) (pmk_x x_OutOfRange hr (by decide) (by rfl) (pa_cons (pv 3) (pa_cons (pv 4) pa_nil))))) pss_nil))))), ?_⟩
    walk_at "rd"
    obtain ⟨k1, ha⟩ := ha
    obtain ⟨k2, hb⟩ := hb
    refine Kd.len hb (Kd.len ha (neII.mpr ⟨_, rfl, ?_⟩))
    by_cases hl : xs.length = ys.length
    · rw [if_neg (by simp [hl])]
      refine ⟨a, b, ⟨rfl, rfl⟩, _, _, k1, ha, k2, hb, FJ.zip (xs := xs.map V.str) (ys := ys.map V.int) (by simp [hl]) (fun i σ' H' => (∃ x y, σ' = [some (.ref a), some (.int n), some (.ref b), x, y]) ∧ Same H H' ∧ ∀ r ∈ (xs.zip ys).take i, decide (bad n r.2) = false) ⟨⟨_, _, rfl⟩, fun _ _ z => z, fun r hr => nomatch hr⟩ (fun i σ' H' inv => ⟨Kd.same inv.2.1 ha, Kd.same inv.2.1 hb⟩) (fun i x y T σ' H' hx hy inv hT => ?_) fun σ' H' inv => ?_⟩
      · obtain ⟨⟨x', y', rfl⟩, s2, nb⟩ := inv
        walk_at "rd"
        obtain ⟨z, rfl, hz⟩ := map_at hx
        obtain ⟨v, rfl, hv⟩ := map_at hy
        have s3 : Same H (upd H' T (.tup [V.str z, V.int v])) := UL.Same.put s2 (Same.free s2 hT)
        have hzv : (xs.zip ys)[i]? = some (z, v) := by rw [List.getElem?_zip_eq_some]; exact ⟨hz, hv⟩
        refine ⟨[.str z, .int v], .inl (.inl upd_same), rfl, .str z, [.int v], rfl, .int v, [], rfl, rfl, v, n, rfl, _, rfl, ?_⟩
        rw [bad_dec, Bool.not_not]
        by_cases hbd : bad n v
        · rw [if_pos (decide_eq_true hbd)]
          have hzl := sm1 z (List.mem_of_getElem? hz)
          obtain ⟨v0, v1⟩ := sm2 v (List.mem_of_getElem? hv)
          refine ⟨_, rfl, by show 1 ≤ 1000; decide, fun e1 he1 => ⟨e1, .str z, rfl, upd_same, XX.i1, .inr ⟨z, rfl, hzl⟩, fun d1 hd1 hde1 => ⟨rfl, d1, _, upd_same, by rw [upd_ne hde1, upd_same], by rw [upd_ne hde1] at hd1; exact hd1, ?_⟩⟩⟩
          rw [exg1 he1]
          rw [upd_ne hde1] at hd1
          refine ⟨_, rfl, _, rfl, by show 2 ≤ 1000; decide, fun e2 he2 => ⟨e2, z, v, rfl, upd_same, XX.o1, XX.o2, hzl, hzl, v0, v1, fun d2 hd2 hde2 => ⟨rfl, d2, _, by rw [upd_ne (Ne.symm hde2), upd_same], upd_same, by rw [upd_ne hde2] at hd2; exact hd2, ?_⟩⟩⟩
          rw [exg2 he2]
          rw [upd_ne hde2] at hd2
          refine q1 (.str z) ?_ d1 _ (Same.tr s3 (Same.tr (UL.Same.new hd1) (UL.Same.new hd2))) (by rw [upd_ne (fun e => by rw [← e, upd_same] at hd2; cases hd2), upd_same])
          unfold badSt
          rw [if_pos hl, findB hzv nb (decide_eq_true hbd)]
          rfl
        · rw [if_neg (by simp [hbd])]
          refine ⟨⟨_, rfl⟩, s3, fun r hr => ?_⟩
          rw [List.take_add_one, hzv] at hr
          rcases List.mem_append.mp hr with h | h
          · exact nb r h
          · rw [List.mem_singleton.mp h]; exact decide_eq_false hbd
      · obtain ⟨⟨x', y', rfl⟩, s2, nb⟩ := inv
        refine q2 ?_ H' s2
        unfold badSt
        rw [if_pos hl, Option.map_eq_none_iff, List.find?_eq_none]
        intro r hr
        rw [List.length_map, List.take_of_length_le (by rw [List.length_zip]; omega)] at nb
        rw [nb r hr]; decide
    · rw [if_pos (by simp; omega)]
      refine ⟨by show 1 ≤ 1000; decide, fun e1 he1 => ⟨e1, .non, rfl, upd_same, XX.i1, .inl rfl, fun d1 hd1 hde1 => ⟨rfl, d1, _, upd_same, by rw [upd_ne hde1, upd_same], by rw [upd_ne hde1] at hd1; exact hd1, ?_⟩⟩⟩
      rw [exg1 he1]
      rw [upd_ne hde1] at hd1
      refine q1 .non (by unfold badSt; rw [if_neg hl]) d1 _ (UL.Same.new hd1) upd_same
abbrev s_Machine_check_start : Stmt := inClass (top 48) 6
abbrev sc_Machine_check_start_N : List Str := ["self", "state"]
theorem sc_Machine_check_start : FnScope sc_Machine_check_start_N ["self", "state"] (defScope s_Machine_check_start) := ⟨rfl, rfl, rfl, by decide +kernel, rfl, by decide +kernel, by decide +kernel⟩
-- 0 self, 1 state
def sp_cstart (K : PySem.W.Frag) (Mc Sy Iv : Addr) : Sp := fun vs H Q E => ∃ (m y cl b : Addr) (sz : Nat) (cs : List Str) (ys : List Int), vs = [.ref m, .ref b] ∧ MsA Mc Sy H m sz y cl cs ∧ SqA K H b (ys.map V.int) ∧ smallL cs ys ∧ stX Iv sz cs ys H (fun H' => Q .non H') E
theorem m_cstart (T : MaX K mg R Wr B Pg Sy IS UC UP Mc) (D : MD K Mc "check_start" "Machine.check_start" s_Machine_check_start) (d_check_state : Dn P w K mg base (L2.CX P w) 3 "check_state" (sp_cst K Iv)) : Mn P w K mg base (L2.CX P w) 4 Mc "check_start" (sp_cstart K Mc Sy Iv) := by
  refine D.mx sc_Machine_check_start (fun _ _ _ _ _ _ us hl => match us, hl with | [_, _], _ => rfl) (fun vs H Q E h => ?_) (fun f cdv A outer s H vs Q E hr h => ?_)
  · obtain ⟨m, y, cl, b, sz, cs, ys, rfl, _⟩ := h; rfl
  · obtain ⟨m, y, cl, b, sz, cs, ys, rfl, ⟨⟨dx, fs, h1, h2, h3, h4⟩, ⟨dy, fy, g1, g2⟩, hcl⟩, hb, sm, q⟩ := h
    refine ⟨_, (pss_one (ps_expr (pe_d d_check_state hr (by decide) (passes_call (takes_of rfl rfl rfl rfl) (fun _ _ _ _ h => h)) (by rfl) (pa_cons (pe_fld (pe_fld (pv 0) (by rfl)) (by rfl)) (pa_cons (pe_fld (pv 0) (by rfl)) (pa_cons (pv 1) pa_nil)))))), ?_⟩
    walk_at "rd"
    exact ⟨Mc, dx, fs, h1, T.cM, T.m_system, .ref y, h3, y, rfl, Sy, dy, fy, g1, T.cls, T.s_cells, .ref cl, g2, Mc, dx, fs, h1, T.cM, T.m_size, .int (sz : Nat), h2, cl, b, cs, ys, sz, rfl, ⟨.t, FT.sq hcl⟩, hb, sm, q⟩
abbrev s_System_check_programs : Stmt := inClass (top 47) 7
abbrev sc_System_check_programs_N : List Str := ["self", "names", "name"]
theorem sc_System_check_programs : FnScope sc_System_check_programs_N ["self", "names"] (defScope s_System_check_programs) := ⟨rfl, rfl, rfl, by decide +kernel, rfl, by decide +kernel, by decide +kernel⟩
-- 0 self, 1 names, 2 name
/-- the first name that no program has -/
def unkN (ps : List (Str × Addr)) (ns : List Str) : Option Str := ns.find? fun n => (valA ps n).isNone
def sp_chkps (K : PySem.W.Frag) (Sy UP : Addr) : Sp := fun vs H Q E => ∃ (y pd ad l : Addr) (cs : List Str) (ps : List (Str × Addr)) (as : List (Str × Nat)) (ns : List Str), vs = [.ref y, .ref l] ∧ Yo H Sy y cs pd ad ps as ∧ SqA K H l (ns.map V.str) ∧ (∀ n ∈ ns, n.length ≤ 1000) ∧ (∀ n, unkN ps ns = some n → X1 UP "name" (.str n) H E) ∧ (unkN ps ns = none → Q .non H)
theorem m_chkps (T : SyX K mg R Wr B Pg Sy IS UC UP) (D : MD K Sy "check_programs" "System.check_programs" s_System_check_programs) (m_program_named : Mn P w K mg base (L2.CX P w) 3 Sy "program_named" (sp_named Sy UP)) : Mn P w K mg base (L2.CX P w) 4 Sy "check_programs" (sp_chkps K Sy UP) := by
  refine D.mx sc_System_check_programs (fun _ _ _ _ _ _ us hl => match us, hl with | [_, _], _ => rfl) (fun vs H Q E h => ?_) (fun f cdv A outer s H vs Q E hr h => ?_)
  · obtain ⟨y, pd, ad, l, cs, ps, as, ns, rfl, _⟩ := h; rfl
  · obtain ⟨y, pd, ad, l, cs, ps, as, ns, rfl, hy, ⟨kd, hl⟩, hn, qx, q⟩ := h
    refine ⟨_, (pss_one (ps_for (passes_of rfl) rfl (pi_any (pv 1)) (pg_name (i := 2) sc_System_check_programs.nd rfl (Or.inl rfl)) (pss_one (ps_expr (pe_m m_program_named T.cls hr (by decide) (passes_call (takes_of rfl rfl rfl rfl) (fun _ _ _ _ h => h)) (pv 0) (pa_cons (pv 2) pa_nil)))))), ?_⟩
    walk_at "rd"
    refine ⟨kd, ⟨_, hl⟩, fj_any (xs := ns.map V.str) kd (fun i σ' H' => (∃ z, σ' = [some (.ref y), some (.ref l), z]) ∧ H' = H ∧ ∀ n ∈ ns.take i, (valA ps n).isNone = false) ⟨⟨_, rfl⟩, rfl, fun n h => nomatch h⟩ (fun i σ' H' _ inv => by rw [inv.2.1]; exact hl) (fun i x σ' H' hx inv => ?_) fun σ' H' inv => ?_⟩
    · obtain ⟨⟨z, rfl⟩, rfl, nb⟩ := inv
      obtain ⟨n, rfl, hn2⟩ := map_at hx
      walk_at "rd"
      obtain ⟨⟨dy, cc, fs, h1, h2, h3, h4, h5, h9⟩, h6, h7, h8⟩ := id hy
      refine ⟨dy, fs, h1, h9 _ (by simp), y, pd, ad, n, cs, ps, as, rfl, hy, hn n (List.mem_of_getElem? hn2), fun a ha => ?_, fun ha => qx n (findB hn2 nb (by rw [ha]; rfl))⟩
      refine ⟨⟨_, rfl⟩, rfl, fun r hr => ?_⟩
      rw [List.take_add_one, hn2] at hr
      rcases List.mem_append.mp hr with h | h
      · exact nb r h
      · rw [List.mem_singleton.mp h, ha]; rfl
    · obtain ⟨⟨z, rfl⟩, rfl, nb⟩ := inv
      rw [List.length_map, List.take_length] at nb
      walk_at "rd"
      exact q (List.find?_eq_none.mpr fun r hr => by rw [nb r hr]; decide)
/-- what a machine is -/
structure Mw where
  m : Addr
  y : Addr
  cl : Addr
  tb : Addr
  en : Addr
  pd : Addr
  ad : Addr
  sz : Nat
  cs : List Str
  tk : List (Str × Addr)
  ek : List (Str × Addr)
  tabs : Str → List Int
  progs : Str → List Sk
  ps : List (Str × Addr)
  as : List (Str × Nat)
/-- the state in which a program ends -/
def Mw.endS (u : Mw) (n : Str) (st : List Int) : List Int := endM u.sz u.tabs u.cs (u.progs n) st
structure MW (Mc Sy : Addr) (H : Hp) (u : Mw) : Prop where
  mac : MacH Mc Sy H u.m u.y u.cl u.tb u.en u.sz u.cs u.tk u.ek u.tabs u.progs
  yo : Yo H Sy u.y u.cs u.pd u.ad u.ps u.as
  ks : u.ek.map (·.1) = u.ps.map (·.1)
  s3 : u.sz ≤ 3
  c3 : u.cs.length ≤ 3
  cn : ∀ z ∈ u.cs, z.length ≤ 1000
  run : ∀ n, valA u.ps n ≠ none → ∀ st ∈ sts u.sz u.cs.length, u.endS n st ∈ sts u.sz u.cs.length
  nms : ∃ dy fs nn, H u.y = some (.ins Sy dy fs) ∧ fs.lookup ("names" : Str) = some (.ref nn) ∧ FT H nn (u.ps.map fun q => V.str q.1)
theorem MacH.ext {H H' : Hp} {m y cl tb en : Addr} {sz : Nat} {cs : List Str} {tk ek : List (Str × Addr)} {tabs : Str → List Int} {progs : Str → List Sk} (h : MacH Mc Sy H m y cl tb en sz cs tk ek tabs progs) (s : ExtN H H') : MacH Mc Sy H' m y cl tb en sz cs tk ek tabs progs := by
  obtain ⟨⟨dx', m1⟩, ⟨dy, fs, m2, m3⟩, m4, m5, m6, m7, m8⟩ := h
  exact ⟨⟨dx', s _ _ m1 (fun _ z => nomatch z)⟩, ⟨dy, fs, s _ _ m2 (fun _ z => nomatch z), m3⟩, FT.kpx m4 (.ext s), s _ _ m5 (fun _ z => nomatch z), fun f t z => s _ _ (m6 f t z) (fun _ z => nomatch z), s _ _ m7 (fun _ z => nomatch z), EnH.ext m8 s⟩
theorem MW.ext {H H' : Hp} {u : Mw} (h : MW Mc Sy H u) (s : ExtN H H') : MW Mc Sy H' u := { h with mac := h.mac.ext s, yo := Yo.kpx h.yo (.ext s), nms := (let ⟨dy, fs, nn, a, b, c⟩ := h.nms; ⟨dy, fs, nn, s _ _ a (fun _ z => nomatch z), b, FT.kpx c (.ext s)⟩) }
theorem MW.same {H H' : Hp} {u : Mw} (h : MW Mc Sy H u) (s : Same H H') : MW Mc Sy H' u := h.ext fun b o e _ => s b o e
theorem MW.msa {H : Hp} {u : Mw} (h : MW Mc Sy H u) : MsA Mc Sy H u.m u.sz u.y u.cl u.cs := by
  obtain ⟨⟨dx', m1⟩, m2, m4, _⟩ := h.mac
  refine ⟨⟨dx', _, m1, rfl, rfl, fun x hx => ?_⟩, m2, m4⟩
  unfold macM at hx
  simp only [List.mem_cons, List.not_mem_nil, or_false] at hx
  rcases hx with rfl | rfl | rfl | rfl | rfl | rfl | rfl <;> rfl
/-- a state in range is one of all states -/
theorem sts_mem {s : Nat} : ∀ {n : Nat} {st : List Int}, st.length = n → (∀ v ∈ st, ¬ bad s v) → st ∈ sts s n
  | 0, st, hl, _ => by rw [List.length_eq_zero_iff.mp hl]; simp [sts]
  | n + 1, st, hl, h => by
    have hd : st ≠ [] := fun e => by rw [e] at hl; cases hl
    have e := List.dropLast_concat_getLast hd
    have lv := h (st.getLast hd) (List.getLast_mem hd)
    unfold bad at lv
    rw [← e, sts, List.mem_flatMap]
    refine ⟨st.dropLast, sts_mem (by rw [List.length_dropLast, hl]; rfl) fun v hv => h v ((List.dropLast_sublist _).subset hv), ?_⟩
    unfold ext
    refine List.mem_map.mpr ⟨(st.getLast hd).toNat, List.mem_range.mpr (by omega), ?_⟩
    rw [Int.toNat_of_nonneg (by omega)]
theorem sts_nb {s n : Nat} {st : List Int} (h : st ∈ sts s n) : st.length = n ∧ ∀ v ∈ st, ¬ bad s v := by
  obtain ⟨a, b⟩ := sts_item s n st h
  exact ⟨a, fun v hv => by have := b v hv; unfold bad; omega⟩
theorem sts_ok {s : Nat} {xs : List Str} {st : List Int} (h : st ∈ sts s xs.length) : badSt s xs st = none := by
  obtain ⟨a, b⟩ := sts_nb h
  unfold badSt
  rw [if_pos a.symm, Option.map_eq_none_iff, List.find?_eq_none]
  intro r hr
  have := b r.2 (List.of_mem_zip hr).2
  simpa using this
theorem valV_pair {F : List Key × V → List Int → Prop} {ys : List Int} (hk : ∀ kv st, F kv st → kv.1 = st.map Sum.inl) : ∀ {kvs : List (List Key × V)} {L : List (List Int)}, Paired F kvs L → ys ∈ L → ∃ kv, kv ∈ kvs ∧ valV kvs (ys.map Sum.inl : List Key) = some kv.2 ∧ F kv ys
  | _, _, .nil, h => nomatch h
  | kv :: r, st :: t, .cons f g, h => by
    by_cases e : st = ys
    · subst e
      exact ⟨kv, List.mem_cons_self, by unfold valV; rw [List.find?_cons_of_pos (by simpa using hk kv _ f)]; rfl, f⟩
    · have hm : ys ∈ t := (List.mem_cons.mp h).resolve_left fun z => e z.symm
      obtain ⟨kv', h1, h2, h3⟩ := valV_pair hk g hm
      refine ⟨kv', List.mem_cons_of_mem _ h1, ?_, h3⟩
      unfold valV at h2 ⊢
      rw [List.find?_cons_of_neg]
      · exact h2
      · simp only [decide_eq_true_eq]
        intro z
        rw [hk kv _ f] at z
        apply e
        have := congrArg (List.map fun k : Key => match k with | .inl i => i | .inr _ => 0) z
        simpa [List.map_map, Function.comp_def] using this
/-- a machine's ends, read -/
theorem MW.end_ {H : Hp} {u : Mw} (h : MW Mc Sy H u) {n : Str} (hn : valA u.ps n ≠ none) {st : List Int} (hst : st ∈ sts u.sz u.cs.length) : ∃ (d t : Addr) (kvs : List (List Key × V)), DGet H u.en (.str n) (some (.ref d)) ∧ H d = some (.dT kvs) ∧ valV kvs (st.map Sum.inl : List Key) = some (.ref t) ∧ H t = some (.tup ((u.endS n st).map V.int)) := by
  have hm : n ∈ u.ek.map (·.1) := by
    rw [h.ks]
    cases e : valA u.ps n with
    | none => exact absurd e hn
    | some a =>
      unfold valA at e
      obtain ⟨q, hq, _⟩ := Option.map_eq_some_iff.mp e
      have h1 := List.mem_of_find?_eq_some hq
      have h2 := List.find?_some hq
      exact List.mem_map.mpr ⟨q, h1, by simpa using h2⟩
  obtain ⟨d, hd, hmem⟩ := valA_some hm
  obtain ⟨kvs, k1, k2⟩ := h.mac.en (n, d) hmem
  obtain ⟨kv, _, v2, _, t, v3, v4⟩ := valV_pair (fun _ _ f => f.1) k2 hst
  rw [v3] at v2
  exact ⟨d, t, kvs, by have := DGet.k (k := (Sum.inr n : Key)) h.mac.he; rw [valV_pk, hd] at this; exact this, k1, v2, v4⟩
/-- a list or a tuple, as it stands -/
def LoT (H : Hp) (b : Addr) (xs : List V) : Prop := H b = some (.lst xs) ∨ H b = some (.tup xs)
theorem LoT.sqA {H : Hp} {b : Addr} {xs : List V} (h : LoT H b xs) : SqA K H b xs := h.elim (fun e => ⟨.l, .inl (.inl e)⟩) fun e => ⟨.t, .inl (.inl e)⟩
theorem LoT.same {H H' : Hp} {b : Addr} {xs : List V} (h : LoT H b xs) (s : Same H H') : LoT H' b xs := h.imp (s _ _) (s _ _)
theorem LoT.tup {H : Hp} {b : Addr} {xs : List V} {R : VK} (h : LoT H b xs) (q : ∀ t H', Same H H' → H' t = some (.tup xs) → R (.ref t) H') : cTup K [.ref b] H R :=
  ⟨b, xs, rfl, h.elim (fun e => .inl ⟨.inl (.inl e), fun l hl => q l _ (UL.Same.new hl) upd_same⟩) fun e => .inr ⟨.inl (.inl e), q b H (fun _ _ z => z) e⟩⟩
abbrev s_Machine___call__ : Stmt := inClass (top 48) 3
abbrev sc_Machine___call___N : List Str := ["self", "name", "state"]
theorem sc_Machine___call__ : FnScope sc_Machine___call___N ["self", "name", "state"] (defScope s_Machine___call__) := ⟨rfl, rfl, rfl, by decide +kernel, rfl, by decide +kernel, by decide +kernel⟩
-- 0 self, 1 name, 2 state
def sp_mcall (K : PySem.W.Frag) (Mc Sy UP Iv : Addr) : Sp := fun vs H Q E => ∃ (u : Mw) (n : Str) (b : Addr) (ys : List Int), vs = [.ref u.m, .str n, .ref b] ∧ MW Mc Sy H u ∧ LoT H b (ys.map V.int) ∧ n.length ≤ 1000 ∧ (∀ v ∈ ys, -(2 ^ 64) < v ∧ v < 2 ^ 64) ∧ ys.length ≤ 1000 ∧ (valA u.ps n = none → X1 UP "name" (.str n) H E) ∧
  (valA u.ps n ≠ none → stX Iv u.sz u.cs ys H (fun H' => ∀ t, H' t = some (.tup ((u.endS n ys).map V.int)) → Q (.ref t) H') E)
theorem m_mcall (T : MaX K mg R Wr B Pg Sy IS UC UP Mc) (D : MD K Mc "__call__" "Machine.__call__" s_Machine___call__) (m_program_named : Mn P w K mg base (L2.CX P w) 3 Sy "program_named" (sp_named Sy UP)) (m_check_start : Mn P w K mg base (L2.CX P w) 4 Mc "check_start" (sp_cstart K Mc Sy Iv)) : Mn P w K mg base (L2.CX P w) 5 Mc "__call__" (sp_mcall K Mc Sy UP Iv) := by
  refine D.mx sc_Machine___call__ (fun _ _ _ _ _ _ us hl => match us, hl with | [_, _, _], _ => rfl) (fun vs H Q E h => ?_) (fun f cdv A outer s H vs Q E hr h => ?_)
  · obtain ⟨u, n, b, ys, rfl, _⟩ := h; rfl
  · obtain ⟨u, n, b, ys, rfl, hM, hb, hn, sm, yl, qx, q⟩ := h
    refine ⟨_, (pss_cons (ps_expr (pe_m m_program_named T.cls hr (by decide) (passes_call (takes_of rfl rfl rfl rfl) (fun _ _ _ _ h => h)) (pe_fld (pv 0) (by rfl)) (pa_cons (pv 1) pa_nil)))
      (pss_cons (ps_expr (pe_m m_check_start T.cM hr (by decide) (passes_call (takes_of rfl rfl rfl rfl) (fun _ _ _ _ h => h)) (pv 0) (pa_cons (pv 2) pa_nil)))
      (pss_one (ps_ret (pe_dget (un1 hr.units) (pe_dget (un1 hr.units) (pe_fld (pv 0) (by rfl)) (pv 1) (fun _ _ => rfl)) (pe_callTy call_tupA (by rfl) T.n_tuple (by decide +kernel) (pa_cons (pv 2) pa_nil)) (fun _ _ => rfl)))))), ?_⟩
    walk_at "rd"
    obtain ⟨⟨dx, m1⟩, _⟩ := id hM.mac
    obtain ⟨⟨dy, cc, fy, y1, y2, y3, y4, y5, y9⟩, y6, y7, y8⟩ := id hM.yo
    refine ⟨Mc, dx, _, m1, T.cM, T.m_system, .ref u.y, rfl, u.y, rfl, dy, fy, y1, y9 _ (by simp), u.y, u.pd, u.ad, n, u.cs, u.ps, u.as, rfl, hM.yo, hn, fun a ha => ?_, fun ha => qx ha⟩
    have hne : valA u.ps n ≠ none := fun z => by rw [z] at ha; cases ha
    obtain ⟨q1, q2⟩ := q hne
    refine ⟨dx, _, m1, rfl, u.m, u.y, u.cl, b, u.sz, u.cs, ys, rfl, hM.msa, hb.sqA, ⟨hM.cn, sm⟩, q1, fun hok H1 s1 => ?_⟩
    obtain ⟨hl, hv⟩ := badSt_none hok
    have hst := sts_mem hl.symm hv
    have hM1 := hM.same s1
    obtain ⟨d, t, kvs, k1, k2, k3, k4⟩ := hM1.end_ hne hst
    obtain ⟨⟨dx, n1⟩, _⟩ := id hM1.mac
    simp only [tDGet]
    walk_at "rd"
    refine ⟨Mc, dx, _, n1, T.cM, T.m_ends, .ref u.en, rfl, u.en, rfl, .ref d, k1, (hb.same s1).tup fun t2 H2 s2 e2 => ?_⟩
    refine ⟨d, rfl, .ref t, ?_, q2 hok H2 (Same.tr s1 s2) t (s2 _ _ k4)⟩
    rw [← k3]
    exact DGet.t (s2 _ _ k2) (by rw [e2, List.map_map]; rfl)
-- 0 self, 1 names, 2 state, 3 found, 4 name
end
end U
set_option Elab.async false
set_option linter.all false
set_option maxRecDepth 100000
set_option maxHeartbeats 4000000
set_option pp.deepTerms true
set_option pp.maxSteps 400000
namespace U
open PySem PySem.Spec PyProof.Rows L2 UL UX
local macro_rules | `(tactic| walk_at "rd") => `(tactic| simp only [sMatch, tJs, tFmt, tBC, tMethA, tMakeL, iEnumS, tSeq, tAsg, tOp, tCB, tCons, tNil, tVar, tC, tB, tTest, tNot, tIfS, tNext, tYes, tUn, rU, tM0, tGFrom, tGThen, tG0, tYfLst, gcxK, tSubO, tProp, tListG, tMethG, tBMF, tFld, sFld, tMeth, tMake, tSl, tNoPart, tPart, tM1, gTup, gCons, gNil, tDrop, tFor_eq, tLc_eq, tLc2_eq, iRng1_eq, StX.tStar, iList, iTup, iStr, iAny_var, iZipB, tLenSetS, wipe, tVar, tAndV, tOrV, tNotV, tOr, tAnd, tLst, tTup, tBM, tBM0, tChain, tCall, cxK, noxK, addII, addSS, mulII, eqII, neII, neSS, cIntI, cAbsI, rI, rI0, rLt, rLe, rGt_, rGe_, rSub_, rMod, rPow, rDivW, rNeg, gName, tRet, L2.start, List.length_cons, List.length_nil, List.map_cons, List.map_nil, List.replicate, List.cons_append, List.nil_append, List.getElem?_cons_zero, List.getElem?_cons_succ, List.set_cons_zero, List.set_cons_succ, Option.some.injEq, exists_eq_left', exists_eq_left, V.int.injEq, V.bl.injEq, V.str.injEq, V.ref.injEq, V.ty.injEq, List.cons.injEq, and_true, true_and, reduceCtorEq, false_and, exists_false, or_false, false_or, exists_and_left, exists_and_right, List.append_nil, forall_eq, decide_eq_true_eq, Bool.not_eq_true, Nat.reduceAdd, Nat.reduceSub, List.replicate_zero, List.replicate_succ, Nat.zero_le, ite_true, ite_false, if_true, if_false])
section
variable {P : Program} {w : World} {K : PySem.W.Frag} {mg : Str → Option Value} {base : Heap}
open UV UW NdefX ClX LamX
/-! the drawn tables -/
def ar5 (j : Nat) : Nat := ([1, 0, 2, 1, 3] : List Nat)[j]?.getD 0
theorem ar5_le (j : Nat) : ar5 j ≤ 3 := by
  unfold ar5
  match j with
  | 0 | 1 | 2 | 3 | 4 => decide
  | n + 5 => simp
/-- lists of a dict's values, none of them at p -/
def TbL (H : Hp) (p : Addr) (ls : List (Str × Addr)) (tq : List (Str × List Int)) : Prop := Paired (fun (a : Str × Addr) (b : Str × List Int) => a.1 = b.1 ∧ a.2 ≠ p ∧ H a.2 = some (.lst (b.2.map V.int))) ls tq
theorem TbL.but {H H' : Hp} {p : Addr} {ls : List (Str × Addr)} {tq : List (Str × List Int)} (h : TbL H p ls tq) (s : But p H H') : TbL H' p ls tq := L2.Paired.mapP h fun _ _ ⟨a, b, c⟩ => ⟨a, b, s _ _ c b⟩
def TabAr (sz j : Nat) (zs : List Int) : Prop := zs.length = sz ^ ar5 j ∧ ∀ v ∈ zs, InR sz v
abbrev s__law_tables : Stmt := top 61
abbrev sc__law_tables_N : List Str := ["_law_pool_here", "_law_functions_here", "_law_size", "_law_tables_here", "_law_k", "_law_length", "_law_j", "_law_table"]
theorem sc__law_tables : FnScope sc__law_tables_N ["_law_pool_here", "_law_functions_here", "_law_size"] (defScope s__law_tables) := ⟨rfl, rfl, rfl, by decide +kernel, rfl, by decide +kernel, by decide +kernel⟩
-- 0 _law_pool_here, 1 _law_functions_here, 2 _law_size, 3 _law_tables_here, 4 _law_k, 5 _law_length, 6 _law_j, 7 _law_table
def sp_ltabs : Sp := fun vs H Q _ => ∃ (p c : Addr) (fs : List Str) (sz : Nat), vs = [.ref p, .ref c, .int sz] ∧ Pl H p ∧ H c = some (.lst (fs.map V.str)) ∧ c ≠ p ∧ fs.length ≤ 5 ∧ fs.Nodup ∧ 1 ≤ sz ∧ sz ≤ 3 ∧
  ∀ d (ls : List (Str × Addr)) (tq : List (Str × List Int)) H', H d = none → H' d = some (.dK (pk ls)) → ls.map (·.1) = fs → TbL H' p ls tq → (∀ j q, tq[j]? = some q → TabAr sz j q.2) → Pl H' p → But p H H' → Q (.ref d) H'
theorem d_ltabs (T : Nm mg) (D : TD K mg "_law_tables" s__law_tables) (d__law_draw : Dn P w K mg base CX0 1 "_law_draw" sp_draw) : Dn P w K mg base CX0 2 "_law_tables" sp_ltabs := by
  refine D.dn sc__law_tables (fun _ _ _ _ _ _ us hl => match us, hl with | [_, _, _], _ => rfl) (fun vs H Q E h => ?_) (fun f cdv A outer s H vs Q E hr h => ?_)
  · obtain ⟨p, c, fs, sz, rfl, _⟩ := h; rfl
  · obtain ⟨p, c, fs, sz, rfl, hp, hc, cp, hfl, hfn, hz1, hz3, q⟩ := h
    refine ⟨_, (pss_cons (ps_set (i := 3) sc__law_tables.nd rfl (Or.inl rfl) pe_dnewK)
      (pss_cons (ps_for PassesOwn.never rfl (pi_range1 (by rfl) T.n_range (pa_cons (pe_callB call_lenA (by rfl) T.n_len (by decide +kernel) (pa_cons (pv 1) pa_nil)) pa_nil)) (pg_name (i := 4) sc__law_tables.nd rfl (Or.inl rfl)) (pss_cons (ps_set (i := 5) sc__law_tables.nd rfl (Or.inl rfl) pe_int)
      (pss_cons (ps_for PassesOwn.never rfl (pi_range1 (by rfl) T.n_range (pa_cons (pe_ix ix_seq (pe_lst (pa_cons pe_int (pa_cons pe_int (pa_cons pe_int (pa_cons pe_int (pa_cons pe_int pa_nil)))))) (pv 4) (fun _ _ => rfl)) pa_nil)) (pg_name (i := 6) sc__law_tables.nd rfl (Or.inl rfl)) (pss_one (ps_set (i := 5) sc__law_tables.nd rfl (Or.inl rfl) (pe_op op_mulA (pv 5) (pv 2)))))
      (pss_cons (ps_set (i := 7) sc__law_tables.nd rfl (Or.inl rfl) (pe_lst pa_nil))
      (pss_cons (ps_for PassesOwn.never rfl (pi_range1 (by rfl) T.n_range (pa_cons (pv 5) pa_nil)) (pg_name (i := 6) sc__law_tables.nd rfl (Or.inl rfl)) (pss_one (ps_expr (pe_bm PySem.F.plainAttrs_list PySem.F.slot_list_append PySem.F.type_list_append mt_append (pv 7) (pa_cons (pe_d d__law_draw hr (by decide) pass0 (by rfl) (pa_cons (pv 0) (pa_cons (pv 2) pa_nil))) pa_nil)))))
      (pss_one (ps_dput (un1 hr.units) (pv 3) (pe_ix ix_seq (pv 1) (pv 4) (fun _ _ => rfl)) (pv 7) rfl)))))))
      (pss_one (ps_ret (pv 3))))), ?_⟩
    walk_at "rd"
    intro d hd
    have dp : d ≠ p := fun e => by obtain ⟨ns, z⟩ := hp; rw [e, z] at hd; cases hd
    have dc : d ≠ c := fun e => by rw [e, hc] at hd; cases hd
    refine lenL (.inl (.inl ((upd_ne (Ne.symm dc)).trans hc))) ⟨_, rfl, by omega, by rw [List.length_map]; omega, FJ.rangeI (fun i σ Hi => ∃ (ls : List (Str × Addr)) (tq : List (Str × List Int)), ls.map (·.1) = fs.take i ∧ TbL Hi p ls tq ∧ (∀ j q, tq[j]? = some q → TabAr sz j q.2) ∧ Hi d = some (.dK (pk ls)) ∧ Pl Hi p ∧ But p H Hi ∧ ∃ z1 z2 z3 z4, σ = [some (.ref p), some (.ref c), some (.int sz), some (.ref d), z1, z2, z3, z4]) (by omega) ⟨[], [], rfl, .nil, (fun j q e => by cases e), upd_same, ?_, ?_, _, _, _, _, rfl⟩ (fun i σ Hi hi inv => ?_) fun σ Hi inv => ?_⟩
    · obtain ⟨ns, e⟩ := hp
      exact ⟨ns, (upd_ne (Ne.symm dp)).trans e⟩
    · exact fun b o e _ => (upd_ne (fun z => by rw [z, hd] at e; cases e)).trans e
    · obtain ⟨ls, tq, i1, i2, i3, i4, i5, i6, z1, z2, z3, z4, rfl⟩ := inv
      rw [List.length_map] at hi
      have il : i < fs.length := by omega
      walk_at "rd"
      refine ⟨by rw [sizeLine_eq]; omega, fun q1 hq1 => ?_⟩
      have sq1 : Same Hi (upd Hi q1 (.lst [V.int 1, V.int 0, V.int 2, V.int 1, V.int 3])) := UL.Same.new hq1
      have eq1 : upd Hi q1 (.lst [V.int 1, V.int 0, V.int 2, V.int 1, V.int 3]) q1 = some (.lst [V.int 1, V.int 0, V.int 2, V.int 1, V.int 3]) := upd_same
      generalize upd Hi q1 (.lst [V.int 1, V.int 0, V.int 2, V.int 1, V.int 3]) = H1 at sq1 eq1 ⊢
      have ea : atI [V.int 1, V.int 0, V.int 2, V.int 1, V.int 3] (i : Int) = some (V.int (ar5 i : Nat)) := by
        match i, (show i < 5 by omega) with
        | 0, _ | 1, _ | 2, _ | 3, _ | 4, _ => rfl
      have a3 := ar5_le i
      refine ixL (.inl (.inl eq1)) ea ⟨_, rfl, by omega, by omega, FJ.rangeI (fun j σ' H' => H' = H1 ∧ ∃ z, σ' = [some (.ref p), some (.ref c), some (.int sz), some (.ref d), some (.int i), some (.int ((sz ^ j : Nat) : Int)), z, z4]) (by omega) ⟨rfl, _, rfl⟩ (fun j σ' H' hj inv => ?_) fun σ' H' inv => ?_⟩
      · obtain ⟨rfl, z, rfl⟩ := inv
        walk_at "rd"
        have pj : sz ^ j ≤ 27 := pow_le hz3 (by omega)
        exact ⟨.inl ⟨by omega, by omega⟩, by rw [Nat.pow_succ, Int.natCast_mul], _, rfl⟩
      · obtain ⟨rfl, z, rfl⟩ := inv
        rw [Int.toNat_natCast]
        walk_at "rd"
        intro l hl
        have pj : sz ^ ar5 i ≤ 27 := pow_le hz3 a3
        have lp : l ≠ p := fun e => by obtain ⟨ns, z⟩ := i5; rw [e, sq1 _ _ z] at hl; cases hl
        have ld : l ≠ d := fun e => by rw [e, sq1 _ _ i4] at hl; cases hl
        refine ⟨by omega, by omega, FJ.rangeI (fun j σ' H2 => ∃ zs : List Int, zs.length = j ∧ (∀ v ∈ zs, InR sz v) ∧ H2 l = some (.lst (zs.map V.int)) ∧ Pl H2 p ∧ (∀ b o, H' b = some o → b ≠ p → b ≠ l → H2 b = some o) ∧ ∃ z, σ' = [some (.ref p), some (.ref c), some (.int sz), some (.ref d), some (.int i), some (.int ((sz ^ ar5 i : Nat) : Int)), z, some (.ref l)]) (by omega) ⟨[], rfl, (fun v hv => by cases hv), upd_same, ?_, (fun b o e _ n => (upd_ne n).trans e), _, rfl⟩ (fun j σ' H2 hj inv => ?_) fun σ' H2 inv => ?_⟩
        · obtain ⟨ns, e⟩ := i5
          exact ⟨ns, (upd_ne (Ne.symm lp)).trans (sq1 _ _ e)⟩
        · obtain ⟨zs, y1, y2, y3, y4, y5, z, rfl⟩ := inv
          walk_at "rd"
          refine ⟨.inl ⟨rfl, _, .inl (.inl y3)⟩, drawI (by omega) y4 fun r H3 r0 r1 hp3 b3 => ⟨l, _, _, rfl, rfl, b3 _ _ y3 lp, by rw [List.length_map, sizeLine_eq]; omega, zs ++ [r], by rw [List.length_append, y1]; rfl, fun v hv => ?_, ?_, ?_, fun b o e n1 n2 => (upd_ne n2).trans (b3 _ _ (y5 _ _ e n1 n2) n1), _, rfl⟩⟩
          · rcases List.mem_append.mp hv with h | h
            · exact y2 v h
            · rw [List.mem_singleton.mp h]; exact ⟨r0, r1⟩
          · rw [upd_same, List.map_append]; rfl
          · obtain ⟨ns, e⟩ := hp3
            exact ⟨ns, (upd_ne (Ne.symm lp)).trans e⟩
        · obtain ⟨zs, y1, y2, y3, y4, y5, z, rfl⟩ := inv
          rw [Int.toNat_natCast] at y1
          unfold sDPut
          walk_at "rd"
          have keep : ∀ {b : Addr} {o : HO}, Hi b = some o → b ≠ p → H2 b = some o := fun {b o} e n => y5 _ _ (sq1 _ _ e) n (fun z => by subst z; rw [sq1 _ _ e] at hl; cases hl)
          have kd : H2 d = some (.dK (pk ls)) := keep i4 dp
          have hfi : fs[i]? = some fs[i] := List.getElem?_eq_getElem il
          have hcx : H2 c = some (.lst (fs.map V.str)) := keep (i6 _ _ hc cp) cp
          have nk : fs[i] ∉ ls.map (·.1) := by
            rw [i1]
            intro hm
            obtain ⟨j, hj⟩ := List.mem_iff_getElem?.mp hm
            rw [List.getElem?_take] at hj
            split at hj
            · have := (List.getElem?_inj il hfn).mp (hfi.trans hj.symm)
              omega
            · cases hj
          have vn := valA_no nk
          have ll : ls.length = i := by have := congrArg List.length i1; rw [List.length_map, List.length_take] at this; omega
          have tl : tq.length = i := by rw [← ll]; exact (plenQ i2).symm
          have off : ∀ {b : Addr} {zs : List V} {u : HO}, H2 b = some (.lst zs) → upd H2 d u b = some (.lst zs) := fun e => (upd_ne (fun z => by rw [z, kd] at e; cases e)).trans e
          refine ixL (.inl (.inl hcx)) (atN (by rw [List.getElem?_map, hfi]; rfl)) ⟨_, DPut.k (k := Sum.inr fs[i]) (v := .ref l) kd (by unfold pk; rw [List.length_map, sizeLine_eq]; omega), ls ++ [(fs[i], l)], ?_, tq ++ [(fs[i], zs)], ?_, ?_, ?_, ?_, ?_, _, rfl⟩
          · rw [List.take_add_one, hfi, List.map_append, i1]; rfl
          · refine pappQ (L2.Paired.mapP i2 fun a b ⟨e1, e2, e3⟩ => ⟨e1, e2, off (keep e3 e2)⟩) (.cons ⟨rfl, lp, off y3⟩ .nil)
          · intro j q hq
            by_cases hj : j < tq.length
            · rw [List.getElem?_append_left hj] at hq
              exact i3 j q hq
            · rw [List.getElem?_append_right (by omega)] at hq
              have jt : j - tq.length = 0 := by
                cases e : j - tq.length with
                | zero => rfl
                | succ n => rw [e] at hq; cases hq
              rw [jt] at hq
              cases hq
              have : j = i := by omega
              rw [this]
              exact ⟨y1, y2⟩
          · rw [upd_same, putK_new (by rw [valV_pk, vn]; rfl)]
            unfold pk
            rw [List.map_append]
            rfl
          · obtain ⟨ns, e⟩ := y4
            exact ⟨ns, (upd_ne (Ne.symm dp)).trans e⟩
          · exact fun b o e n => (upd_ne (fun z => by rw [z, hd] at e; cases e)).trans (keep (i6 _ _ e n) n)
    · obtain ⟨ls, tq, i1, i2, i3, i4, i5, i6, z1, z2, z3, z4, rfl⟩ := inv
      rw [List.length_map, Int.toNat_natCast, List.take_length] at i1
      walk_at "rd"
      exact q d ls tq Hi hd i4 i1 i2 i3 i5 i6
end
end U
set_option Elab.async false
set_option linter.all false
set_option maxRecDepth 100000
set_option maxHeartbeats 4000000
set_option pp.deepTerms true
set_option pp.maxSteps 400000
namespace U
open PySem PySem.Spec PyProof.Rows L2 UL UX
local macro_rules | `(tactic| walk_at "rd") => `(tactic| simp only [sMatch, tJs, tFmt, tBC, tMethA, tMakeL, iEnumS, tSeq, tAsg, tOp, tCB, tCons, tNil, tVar, tC, tB, tTest, tNot, tIfS, tNext, tYes, tUn, rU, tM0, tGFrom, tGThen, tG0, tYfLst, gcxK, tSubO, tProp, tListG, tMethG, tBMF, tFld, sFld, tMeth, tMake, tSl, tNoPart, tPart, tM1, gTup, gCons, gNil, tDrop, tFor_eq, tLc_eq, tLc2_eq, iRng1_eq, StX.tStar, iList, iTup, iStr, iAny_var, iZipB, tLenSetS, wipe, tVar, tAndV, tOrV, tNotV, tOr, tAnd, tLst, tTup, tBM, tBM0, tChain, tCall, cxK, noxK, addII, addSS, mulII, eqII, neII, neSS, cIntI, cAbsI, rI, rI0, rLt, rLe, rGt_, rGe_, rSub_, rMod, rPow, rDivW, rNeg, gName, tRet, L2.start, List.length_cons, List.length_nil, List.map_cons, List.map_nil, List.replicate, List.cons_append, List.nil_append, List.getElem?_cons_zero, List.getElem?_cons_succ, List.set_cons_zero, List.set_cons_succ, Option.some.injEq, exists_eq_left', exists_eq_left, V.int.injEq, V.bl.injEq, V.str.injEq, V.ref.injEq, V.ty.injEq, List.cons.injEq, and_true, true_and, reduceCtorEq, false_and, exists_false, or_false, false_or, exists_and_left, exists_and_right, List.append_nil, forall_eq, decide_eq_true_eq, Bool.not_eq_true, Nat.reduceAdd, Nat.reduceSub, List.replicate_zero, List.replicate_succ, Nat.zero_le, ite_true, ite_false, if_true, if_false])
section
variable {P : Program} {w : World} {K : PySem.W.Frag} {mg : Str → Option Value} {base : Heap}
open UV UW NdefX ClX LamX
/-! helpers of the laws: numbers, equal tuples, drawn values, strange words -/
abbrev s__law_is_number : Stmt := top 51
abbrev sc__law_is_number_N : List Str := ["_law_actual"]
theorem sc__law_is_number : FnScope sc__law_is_number_N ["_law_actual"] (defScope s__law_is_number) := ⟨rfl, rfl, rfl, by decide +kernel, rfl, by decide +kernel, by decide +kernel⟩
-- 0 _law_actual
def sp_isnum : Sp := fun vs H Q _ => ∃ i : Int, vs = [.int i] ∧ Q (.bl true) H
theorem d_isnum (T : Nm mg) (D : TD K mg "_law_is_number" s__law_is_number) : Dn P w K mg base CX0 1 "_law_is_number" sp_isnum := by
  refine D.dn sc__law_is_number (fun _ _ _ _ _ _ us hl => match us, hl with | [_], _ => rfl) (fun vs H Q E h => ?_) (fun f cdv A outer s H vs Q E hr h => ?_)
  · obtain ⟨i, rfl, _⟩ := h; rfl
  · obtain ⟨i, rfl, q⟩ := h
    refine ⟨_, (pss_one (ps_ret (pe_and (pe_callB call_isi (by rfl) T.n_isinstance (by decide +kernel) (pa_cons (pv 0) (pa_cons (pe_bltn (v := .ty "int") (by rfl) T.n_int (by decide +kernel) rfl) pa_nil))) (pe_one (pe_not (pe_callB call_isi (by rfl) T.n_isinstance (by decide +kernel) (pa_cons (pv 0) (pa_cons (pe_bltn (v := .ty "bool") (by rfl) T.n_bool (by decide +kernel) rfl) pa_nil)))))))), ?_⟩
    walk_at "rd"
    refine isiI (r := true) (by rfl) ⟨true, rfl, ?_⟩
    rw [if_pos rfl]
    exact isiI (r := false) (by rfl) ⟨false, rfl, q⟩
theorem isTup {H : Hp} {t : Addr} {xs : List V} {Q : VK} (ht : H t = some (.tup xs)) (q : Q (.bl true) H) : rIsi K [.ref t, .ty "tuple"] H Q := ⟨_, _, _, _, _, rfl, .ty "tuple", .base (.tup ht), by rfl, q⟩
theorem isLst {H : Hp} {t : Addr} {xs : List V} {Q : VK} (ht : H t = some (.lst xs)) (q : Q (.bl true) H) : rIsi K [.ref t, .ty "list"] H Q := ⟨_, _, _, _, _, rfl, .ty "list", .base (.lst ht), by rfl, q⟩
abbrev s__law_same : Stmt := top 68
abbrev sc__law_same_N : List Str := ["_law_actual", "_law_due", "_law_k"]
theorem sc__law_same : FnScope sc__law_same_N ["_law_actual", "_law_due"] (defScope s__law_same) := ⟨rfl, rfl, rfl, by decide +kernel, rfl, by decide +kernel, by decide +kernel⟩
-- 0 _law_actual, 1 _law_due, 2 _law_k
/-- two tuples of the same ints -/
def sp_same : Sp := fun vs H Q _ => ∃ (t u : Addr) (s : List Int), vs = [.ref t, .ref u] ∧ H t = some (.tup (s.map V.int)) ∧ H u = some (.tup (s.map V.int)) ∧ s.length ≤ 1000 ∧ Q (.bl true) H
theorem d_same (T : Nm mg) (D : TD K mg "_law_same" s__law_same) (d__law_is_number : Dn P w K mg base CX0 1 "_law_is_number" sp_isnum) : Dn P w K mg base CX0 2 "_law_same" sp_same := by
  refine D.dn sc__law_same (fun _ _ _ _ _ _ us hl => match us, hl with | [_, _], _ => rfl) (fun vs H Q E h => ?_) (fun f cdv A outer s H vs Q E hr h => ?_)
  · obtain ⟨t, u, s, rfl, _⟩ := h; rfl
  · obtain ⟨t, u, s0, rfl, ht, hu, hl, q⟩ := h
    refine ⟨_, (pss_cons (ps_if (pw_or (pt_not (pt_val (pe_callB call_isi (by rfl) T.n_isinstance (by decide +kernel) (pa_cons (pv 0) (pa_cons (pe_bltn (v := .ty "tuple") (by rfl) T.n_tuple (by decide +kernel) rfl) pa_nil))))) (pw_or1 (pt_cmpR (op_neA (hr.units)) (pe_callB call_lenA (by rfl) T.n_len (by decide +kernel) (pa_cons (pv 0) pa_nil)) (pe_callB call_lenA (by rfl) T.n_len (by decide +kernel) (pa_cons (pv 1) pa_nil)) (nomark _)))).pt (pss_one (ps_ret pe_bl)) pss_nil)
      (pss_cons (ps_for PassesOwn.never rfl (pi_range1 (by rfl) T.n_range (pa_cons (pe_callB call_lenA (by rfl) T.n_len (by decide +kernel) (pa_cons (pv 1) pa_nil)) pa_nil)) (pg_name (i := 2) sc__law_same.nd rfl (Or.inl rfl)) (pss_one (ps_if (pw_or (pt_not (pt_val (pe_d d__law_is_number hr (by decide) pass0 (by rfl) (pa_cons (pe_ix ix_seq (pv 0) (pv 2) (fun _ _ => rfl)) pa_nil)))) (pw_or1 (pt_cmpR (op_neA (hr.units)) (pe_ix ix_seq (pv 0) (pv 2) (fun _ _ => rfl)) (pe_ix ix_seq (pv 1) (pv 2) (fun _ _ => rfl)) (nomark _)))).pt (pss_one (ps_ret pe_bl)) pss_nil)))
      (pss_one (ps_ret pe_bl)))), ?_⟩
    walk_at "rd"
    refine isTup ht (q := ⟨true, rfl, ?_⟩)
    rw [if_neg (by decide)]
    refine lenT (.inl (.inl ht)) (lenT (.inl (.inl hu)) (neII.mpr ⟨_, rfl, ?_⟩))
    rw [if_neg (by simp)]
    refine lenT (.inl (.inl hu)) ⟨_, rfl, by omega, by rw [List.length_map]; omega, FJ.rangeI (fun i σ' H' => (∃ z, σ' = [some (.ref t), some (.ref u), z]) ∧ H' = H) (by omega) ⟨⟨_, rfl⟩, rfl⟩ (fun i σ' H' hi inv => ?_) fun σ' H' inv => ?_⟩
    · obtain ⟨⟨z, rfl⟩, rfl⟩ := inv
      walk_at "rd"
      rw [List.length_map] at hi
      have i1 : i < s0.length := by omega
      have e : (s0.map V.int)[i]? = some (V.int s0[i]) := by rw [List.getElem?_map, List.getElem?_eq_getElem i1]; rfl
      refine ixT (.inl (.inl ht)) (atN e) ⟨_, rfl, true, rfl, ?_⟩
      rw [if_neg (by decide)]
      refine ixT (.inl (.inl ht)) (atN e) (ixT (.inl (.inl hu)) (atN e) (neII.mpr ⟨_, rfl, ?_⟩))
      rw [if_neg (by simp)]
      exact ⟨⟨_, rfl⟩, rfl⟩
    · obtain ⟨⟨z, rfl⟩, rfl⟩ := inv
      walk_at "rd"
      exact q
theorem inV_yes {z : Str} {xs : List Str} (h : z ∈ xs) : inV (.str z) (xs.map V.str) = true := by
  unfold inV
  rw [List.any_eq_true]
  exact ⟨.str z, List.mem_map_of_mem h, by simp [eqV]⟩
end
end U
set_option Elab.async false
set_option linter.all false
set_option maxRecDepth 100000
set_option maxHeartbeats 4000000
set_option pp.deepTerms true
set_option pp.maxSteps 400000
namespace U
open PySem PySem.Spec PyProof.Rows L2 UL UX
local macro_rules | `(tactic| walk_at "rd") => `(tactic| simp only [sMatch, tJs, tFmt, tBC, tMethA, tMakeL, iEnumS, tSeq, tAsg, tOp, tCB, tCons, tNil, tVar, tC, tB, tTest, tNot, tIfS, tNext, tYes, tUn, rU, tM0, tGFrom, tGThen, tG0, tYfLst, gcxK, tSubO, tProp, tListG, tMethG, tBMF, tFld, sFld, tMeth, tMake, tSl, tNoPart, tPart, tM1, gTup, gCons, gNil, tDrop, tFor_eq, tLc_eq, tLc2_eq, iRng1_eq, StX.tStar, iList, iTup, iStr, iAny_var, iZipB, tLenSetS, wipe, tVar, tAndV, tOrV, tNotV, tOr, tAnd, tLst, tTup, tBM, tBM0, tChain, tCall, cxK, noxK, addII, addSS, mulII, eqII, neII, neSS, cIntI, cAbsI, rI, rI0, rLt, rLe, rGt_, rGe_, rSub_, rMod, rPow, rDivW, rNeg, gName, tRet, L2.start, List.length_cons, List.length_nil, List.map_cons, List.map_nil, List.replicate, List.cons_append, List.nil_append, List.getElem?_cons_zero, List.getElem?_cons_succ, List.set_cons_zero, List.set_cons_succ, Option.some.injEq, exists_eq_left', exists_eq_left, V.int.injEq, V.bl.injEq, V.str.injEq, V.ref.injEq, V.ty.injEq, List.cons.injEq, and_true, true_and, reduceCtorEq, false_and, exists_false, or_false, false_or, exists_and_left, exists_and_right, List.append_nil, forall_eq, decide_eq_true_eq, Bool.not_eq_true, Nat.reduceAdd, Nat.reduceSub, List.replicate_zero, List.replicate_succ, Nat.zero_le, ite_true, ite_false, if_true, if_false])
section
variable {P : Program} {w : World} {K : PySem.W.Frag} {mg : Str → Option Value} {base : Heap}
open UV UW NdefX ClX LamX
/-! a program alone, as the law runs it -/
/-- the place of a name in a list -/
theorem idxL {ca : Addr} {H : Hp} {cs : List Str} {z : Str} {R : VK} (h : H ca = some (.lst (cs.map V.str))) (hz : z ∈ cs) (q : R (.int (cs.idxOf z : Nat)) H) : rIndex K (.ref ca) [.str z] H R := by
  obtain ⟨i1, i2, i3⟩ := idx_ok hz
  refine ⟨ca, cs.map V.str, .str z, cs.idxOf z, .str z, rfl, rfl, .inl (.inl h), rfl, flat_strs cs, by rw [List.getElem?_map, i1]; rfl, by simp [eqV], fun m z' hm e => ?_, q⟩
  rw [List.getElem?_map] at e
  obtain ⟨y, hy, rfl⟩ := Option.map_eq_some_iff.mp e
  have : y ≠ z := fun h => i2 m hm (h ▸ hy)
  simpa [eqV] using this
abbrev s__law_do : Stmt := top 65
abbrev sc__law_do_N : List Str := ["_law_step_here", "_law_cells_here", "_law_store", "_law_own", "_law_tables_here", "_law_size", "_law_at", "_law_name"]
theorem sc__law_do : FnScope sc__law_do_N ["_law_step_here", "_law_cells_here", "_law_store", "_law_own", "_law_tables_here", "_law_size"] (defScope s__law_do) := ⟨rfl, rfl, rfl, by decide +kernel, rfl, by decide +kernel, by decide +kernel⟩
-- 0 _law_step_here, 1 _law_cells_here, 2 _law_store, 3 _law_own, 4 _law_tables_here, 5 _law_size, 6 _law_at, 7 _law_name
def sp_ldo : Sp := fun vs H Q _ => ∃ (t ca so vd td : Addr) (sz : Nat) (k : Sk) (cs : List Str) (st : List Int) (vr : Str → Option Int) (n : Nat) (tv : Str → Option (List Int)) (G : Hp) (tk : List (Str × Addr)), vs = [.ref t, .ref ca, .ref so, .ref vd, .ref td, .int sz] ∧ RowA H t k ∧ H ca = some (.lst (cs.map V.str)) ∧ H so = some (.lst (st.map V.int)) ∧ ca ≠ so ∧ td ≠ vd ∧ VrH H vd n vr ∧ TdH H td tv ∧ n ≤ 1000 ∧ sz ≤ 3 ∧ st.length = cs.length ∧ cs.length ≤ 1000 ∧ stepOk (ApM G sz tk fun f => (tv f).getD []) cs k st vr () ∧
  ∀ H', H' so = some (.lst ((stepS (ApM G sz tk fun f => (tv f).getD []) cs k st vr ()).1.map V.int)) → VrH H' vd (n + 1) (stepS (ApM G sz tk fun f => (tv f).getD []) cs k st vr ()).2.1 → UX.SmS [so, vd] H H' → Q .non H'
theorem d_ldo (T : Nm mg) (D : TD K mg "_law_do" s__law_do) : Dn P w K mg base CX0 1 "_law_do" sp_ldo := by
  refine D.dn sc__law_do (fun _ _ _ _ _ _ us hl => match us, hl with | [_, _, _, _, _, _], _ => rfl) (fun vs H Q E h => ?_) (fun f cdv A outer s H vs Q E hr h => ?_)
  · obtain ⟨t, ca, so, vd, td, sz, k, cs, st, vr, n, tv, G, tk, rfl, _⟩ := h; rfl
  · obtain ⟨t, ca, so, vd, td, sz, k, cs, st, vr, n, tv, G, tk, rfl, hrow, hca, hso, nco, ntd, hvr, htd, hn, hsz, hl, hcs, hok, q⟩ := h
    refine ⟨_, (pss_cons (ps_if (pt_cmpR op_notNone (pe_ix ix_seq (pv 0) pe_int (fun _ _ => rfl)) pe_non (nomark _)) (pss_one (ps_dput (un1 hr.units) (pv 3) (pe_ix ix_seq (pv 0) pe_int (fun _ _ => rfl)) (pe_ix ix_seq (pv 2) (pe_bm PySem.F.plainAttrs_list PySem.F.slot_list_index PySem.F.type_list_index mt_index (pv 1) (pa_cons (pe_ix ix_seq (pv 0) pe_int (fun _ _ => rfl)) pa_nil)) (fun _ _ => rfl)) rfl)) pss_nil)
      (pss_one (ps_if (pt_cmpR op_notNone (pe_ix ix_seq (pv 0) pe_int (fun _ _ => rfl)) pe_non (nomark _)) (pss_cons (ps_set (i := 6) sc__law_do.nd rfl (Or.inl rfl) pe_int)
      (pss_cons (ps_for PassesOwn.never rfl (pi_tup (pe_ix ix_seq (pv 0) pe_int (fun _ _ => rfl))) (pg_name (i := 7) sc__law_do.nd rfl (Or.inl rfl)) (pss_one (ps_set (i := 6) sc__law_do.nd rfl (Or.inl rfl) (pe_op op_addA (pe_op op_mulA (pv 6) (pv 5)) (pe_dget (un1 hr.units) (pv 3) (pv 7) (fun _ _ => rfl))))))
      (pss_one (ps_asg (pe_ix ix_seq (pe_dget (un1 hr.units) (pv 4) (pe_ix ix_seq (pv 0) pe_int (fun _ _ => rfl)) (fun _ _ => rfl)) (pv 6) (fun _ _ => rfl)) (pg_sub (pv 2) (pe_bm PySem.F.plainAttrs_list PySem.F.slot_list_index PySem.F.type_list_index mt_index (pv 1) (pa_cons (pe_ix ix_seq (pv 0) pe_int (fun _ _ => rfl)) pa_nil)) set_list))))) pss_nil))), ?_⟩
    obtain ⟨e, ht, he⟩ := hrow
    obtain ⟨kvs, hv1, hv2, hv3⟩ := hvr
    have nv : ∀ {b : Addr} {o : HO}, H b = some o → (∀ kvs, o ≠ .dK kvs) → b ∉ [vd] := fun {b o} e h z => by
      rw [List.mem_singleton.mp z, hv1] at e
      cases e
      exact h _ rfl
    have iv0 : VrH H vd (n + 1) vr := ⟨kvs, hv1, by omega, hv3⟩
    refine UX.seq_cut (fun σ1 H1 => σ1 = [some (.ref t), some (.ref ca), some (.ref so), some (.ref vd), some (.ref td), some (.int (sz : Nat)), none, none] ∧ VrH H1 vd (n + 1) (vrS cs st vr k) ∧ UX.SmS [vd] H H1) (fun tl htl => ?_) fun σ1 H1 hm => ?_
    · walk_at "rd"
      simp only [sDPut]
      walk_at "rd"
      have go : ∀ (s0 l : Str), atI (rowV k e) ((0 : Nat) : Int) = some (.str s0) → atI (rowV k e) ((1 : Nat) : Int) = some (.str l) → s0 ∈ cs → vrS cs st vr k = updV vr l (st[cs.idxOf s0]?.getD 0) → (rIx K (V.ref t) (V.int 0) H fun x H1 => rNotNone x V.non H1 fun x H' => ∃ k, x = V.bl k ∧ if k = true then tyV K "list" (V.ref ca) H' ∧ rIx K (V.ref t) (V.int 0) H' fun x H1 => rIndex K (V.ref ca) [x] H1 fun y H2 => rIx K (V.ref so) y H2 fun v H1 => rIx K (V.ref t) (V.int 1) H1 fun y H3 => ∃ x, DPut H3 vd y v x ∧ tl [some (V.ref t), some (V.ref ca), some (V.ref so), some (V.ref vd), some (V.ref td), some (V.int (sz : Nat)), none, none] x else tl [some (V.ref t), some (V.ref ca), some (V.ref so), some (V.ref vd), some (V.ref td), some (V.int (sz : Nat)), none, none] H') := fun s0 l e0 e1 hs ev => by
        have i3 : cs.idxOf s0 < cs.length := List.idxOf_lt_length_iff.mpr hs
        have es : (st.map V.int)[cs.idxOf s0]? = some (.int (st[cs.idxOf s0]?.getD 0)) := by rw [List.getElem?_map, List.getElem?_eq_getElem (by omega)]; rfl
        refine ixT (.inl (.inl ht)) e0 ⟨rfl, true, rfl, ?_⟩
        rw [if_pos rfl]
        refine ⟨.inl ⟨rfl, _, .inl (.inl hca)⟩, ixT (.inl (.inl ht)) e0 (idxL hca hs (ixL (.inl (.inl hso)) (atN es) (ixT (.inl (.inl ht)) e1 ⟨_, DPut.k (k := Sum.inr l) hv1 (by rw [sizeLine_eq]; omega), htl _ _ ⟨rfl, ?_, SmS.at_ List.mem_cons_self⟩⟩)))⟩
        rw [ev]
        exact VrH.put hv2 hv3 l _
      cases k with
      | rd s0 l => exact go s0 l rfl rfl hok rfl
      | wr tg f0 xs =>
        refine ixT (.inl (.inl ht)) (show atI _ ((0 : Nat) : Int) = some V.non from atN rfl) ⟨rfl, false, rfl, ?_⟩
        rw [if_neg (by decide)]
        exact htl _ _ ⟨rfl, iv0, SmS.refl⟩
      | rw s0 l tg f0 xs => exact go s0 l rfl rfl hok.1 rfl
    · obtain ⟨rfl, hvr1, sm1⟩ := hm
      have ht1 := sm1 _ _ ht (nv ht fun _ z => nomatch z)
      have he1 := sm1 _ _ he (nv he fun _ z => nomatch z)
      have hca1 := sm1 _ _ hca (nv hca fun _ z => nomatch z)
      have hso1 := sm1 _ _ hso (nv hso fun _ z => nomatch z)
      obtain ⟨tkv, la, d1, d2, d3⟩ := id htd
      have hd1 : Rd H1 td (.dK tkv) := by
        rcases (show H td = some (.dK tkv) ∨ ∃ o, H td = some (.frz o (.dK tkv)) from d1) with z | ⟨o, z⟩
        · exact .inl (sm1 _ _ z fun h => ntd (List.mem_singleton.mp h))
        · exact .inr ⟨o, sm1 _ _ z (nv z fun _ z => nomatch z)⟩
      have kk : (∃ s0 l, k = .rd s0 l) ∨ ∃ (tg f0 : Str) (xs : List Str), atI (rowV k e) ((2 : Nat) : Int) = some (.str tg) ∧ atI (rowV k e) ((3 : Nat) : Int) = some (.str f0) ∧ atI (rowV k e) ((4 : Nat) : Int) = some (.ref e) ∧ k.args = xs ∧ tg ∈ cs ∧ (∀ x ∈ xs, (vrS cs st vr k x).isSome = true) ∧ xs.length ≤ 3 ∧ (ApM G sz tk fun f => (tv f).getD []).dom () f0 (xs.map fun x => (vrS cs st vr k x).getD 0) ∧ stepS (ApM G sz tk fun f => (tv f).getD []) cs k st vr () = (st.set (cs.idxOf tg) (fnM sz (fun f => (tv f).getD []) f0 (xs.map fun x => (vrS cs st vr k x).getD 0)), vrS cs st vr k, ()) := by
        cases k with
        | rd s0 l => exact .inl ⟨_, _, rfl⟩
        | wr tg f0 xs => exact .inr ⟨tg, f0, xs, rfl, rfl, rfl, rfl, hok.1, hok.2.1, hok.2.2.1, hok.2.2.2, rfl⟩
        | rw s0 l tg f0 xs => exact .inr ⟨tg, f0, xs, rfl, rfl, rfl, rfl, hok.2.1, hok.2.2.1, hok.2.2.2.1, hok.2.2.2.2, rfl⟩
      walk_at "rd"
      rcases kk with ⟨s0, l, rfl⟩ | ⟨tg, f0, xs, a2, a3, a4, rfl, htg, hxs, hx3, hdom, hstep⟩
      · refine ixT (.inl (.inl ht1)) (show atI _ ((2 : Nat) : Int) = some V.non from atN rfl) ⟨rfl, false, rfl, ?_⟩
        rw [if_neg (by decide)]
        exact q H1 hso1 hvr1 (fun b o eb nb => sm1 _ _ eb fun z => nb (List.mem_cons_of_mem _ z))
      · refine ixT (.inl (.inl ht1)) a2 ⟨rfl, true, rfl, ?_⟩
        rw [if_pos rfl]
        obtain ⟨⟨t9, ht9⟩, hho⟩ := id hdom
        obtain ⟨kvs1, w1, w2, w3⟩ := id hvr1
        refine ixT (.inl (.inl ht1)) a4 ⟨e, rfl, ⟨_, .inl (.inl he1)⟩, FJ.tup (xs := k.args.map V.str) (fun i σ' H' => H' = H1 ∧ ∃ z, σ' = [some (.ref t), some (.ref ca), some (.ref so), some (.ref vd), some (.ref td), some (.int (sz : Nat)), some (.int (hor sz ((k.args.take i).map fun x => (vrS cs st vr k x).getD 0))), z]) ⟨rfl, _, rfl⟩ (fun i σ' H' _ inv => by rw [inv.1]; exact .inl (.inl he1)) (fun i x σ' H' hx inv => ?_) fun σ' H' inv => ?_⟩
        · obtain ⟨rfl, z, rfl⟩ := inv
          obtain ⟨x0, rfl, hx0⟩ := map_at hx
          walk_at "rd"
          simp only [tDGet]
          walk_at "rd"
          have hv := hxs x0 (List.mem_of_getElem? hx0)
          obtain ⟨v, hv⟩ := Option.isSome_iff_exists.mp hv
          have dg := DGet.k (k := (Sum.inr x0 : Key)) w1
          rw [w3 x0, hv] at dg
          refine ⟨.inr ⟨by omega, by omega⟩, _, dg, addII.mpr ⟨rfl, ?_, _, rfl⟩⟩
          rw [List.take_add_one, hx0, List.map_append]
          show V.int _ = V.int (hor sz (_ ++ [(vrS cs st vr k x0).getD 0]))
          rw [hor_snoc, hv]
          rfl
        · obtain ⟨rfl, z, rfl⟩ := inv
          rw [List.length_map, List.take_length]
          walk_at "rd"
          simp only [tDGet, gSub]
          walk_at "rd"
          have hne : ∃ zs, tv f0 = some zs := by
            cases e0 : tv f0 with
            | some zs => exact ⟨zs, rfl⟩
            | none =>
              have h2 := hho.2
              dsimp only at h2
              rw [e0] at h2
              have h1 := hho.1
              simp only [Option.getD_none, List.length_nil] at h2
              omega
          obtain ⟨zs, hzs⟩ := hne
          have dg := UX.DGet.kr (k := (Sum.inr f0 : Key)) hd1
          rw [d2 f0, hzs] at dg
          have hz1 := sm1 _ _ (d3 f0 zs hzs) (nv (d3 f0 zs hzs) fun _ z => nomatch z)
          have fv : fnM sz (fun f => (tv f).getD []) f0 (k.args.map fun x => (vrS cs st vr k x).getD 0) = zs[(hor sz (k.args.map fun x => (vrS cs st vr k x).getD 0)).toNat]?.getD 0 := by unfold fnM; dsimp only; rw [hzs]; rfl
          rw [fv] at hstep
          have h1 := hho.1
          have h2 := hho.2
          dsimp only at h2
          rw [hzs] at h2
          simp only [Option.getD_some] at h2
          generalize hor sz (k.args.map fun x => (vrS cs st vr k x).getD 0) = hh at h1 h2 hstep ⊢
          obtain ⟨m, rfl⟩ := Int.eq_ofNat_of_zero_le h1
          rw [Int.toNat_natCast] at hstep
          have ml : m < zs.length := by omega
          have i3 : cs.idxOf tg < cs.length := List.idxOf_lt_length_iff.mpr htg
          refine ixT (.inl (.inl ht1)) a3 ⟨_, dg, ixL (.inl (.inl hz1)) (atN (by rw [List.getElem?_map, List.getElem?_eq_getElem ml]; rfl)) ⟨.inl ⟨rfl, _, .inl (.inl hca1)⟩, ixT (.inl (.inl ht1)) a2 (idxL hca1 htg ⟨so, _, _, cs.idxOf tg, rfl, rfl, hso1, ?_, ?_⟩)⟩⟩
          · unfold ixN
            rw [if_pos (by omega), if_pos (by rw [List.length_map]; omega)]
            rfl
          · rw [hstep, List.getElem?_eq_getElem ml] at q
            have nso : vd ≠ so := fun z => by rw [z, hso1] at w1; cases w1
            refine q _ (by rw [upd_same, List.map_set]; rfl) ⟨kvs1, (upd_ne nso).trans w1, w2, w3⟩ fun b o eb nb => ?_
            simp only [List.mem_cons, List.not_mem_nil, or_false, not_or] at nb
            exact (upd_ne nb.1).trans (sm1 _ _ eb (by simpa using nb.2))
abbrev s__law_alone : Stmt := top 66
abbrev sc__law_alone_N : List Str := ["_law_steps_here", "_law_cells_here", "_law_state", "_law_tables_here", "_law_size", "_law_store", "_law_own", "_law_step_here"]
theorem sc__law_alone : FnScope sc__law_alone_N ["_law_steps_here", "_law_cells_here", "_law_state", "_law_tables_here", "_law_size"] (defScope s__law_alone) := ⟨rfl, rfl, rfl, by decide +kernel, rfl, by decide +kernel, by decide +kernel⟩
-- 0 _law_steps_here, 1 _law_cells_here, 2 _law_state, 3 _law_tables_here, 4 _law_size, 5 _law_store, 6 _law_own, 7 _law_step_here
def sp_lalone : Sp := fun vs H Q _ => ∃ (sl ca t td : Addr) (sz : Nat) (rs : List Addr) (ks : List Sk) (cs : List Str) (st : List Int) (tv : Str → Option (List Int)) (tk : List (Str × Addr)), vs = [.ref sl, .ref ca, .ref t, .ref td, .int sz] ∧ H sl = some (.lst (rs.map V.ref)) ∧ Paired (fun t k => RowA H t k) rs ks ∧ H ca = some (.lst (cs.map V.str)) ∧ H t = some (.tup (st.map V.int)) ∧ TdH H td tv ∧ sz ≤ 3 ∧ st.length = cs.length ∧ cs.length ≤ 1000 ∧ ks.length ≤ 100 ∧ runOk (ApM (fun _ => none) sz tk fun f => (tv f).getD []) cs ks st (fun _ => none) () ∧
  ∀ r H', H' r = some (.tup ((endM sz (fun f => (tv f).getD []) cs ks st).map V.int)) → Same H H' → Q (.ref r) H'
theorem d_lalone (T : Nm mg) (D : TD K mg "_law_alone" s__law_alone) (d__law_do : Dn P w K mg base CX0 1 "_law_do" sp_ldo) : Dn P w K mg base CX0 2 "_law_alone" sp_lalone := by
  refine D.dn sc__law_alone (fun _ _ _ _ _ _ us hl => match us, hl with | [_, _, _, _, _], _ => rfl) (fun vs H Q E h => ?_) (fun f cdv A outer s H vs Q E hr h => ?_)
  · obtain ⟨sl, ca, t, td, sz, rs, ks, cs, st, tv, tk, rfl, _⟩ := h; rfl
  · obtain ⟨sl, ca, t, td, sz, rs, ks, cs, st, tv, tk, rfl, hsl, hrs, hca, ht, htd, hsz, hl, hcs, hks, hok, q⟩ := h
    refine ⟨_, (pss_cons (ps_set (i := 5) sc__law_alone.nd rfl (Or.inl rfl) (pe_callTy call_listA (by rfl) T.n_list (by decide +kernel) (pa_cons (pv 2) pa_nil)))
      (pss_cons (ps_set (i := 6) sc__law_alone.nd rfl (Or.inl rfl) pe_dnewK)
      (pss_cons (ps_for PassesOwn.never rfl (pi_list (pv 0)) (pg_name (i := 7) sc__law_alone.nd rfl (Or.inl rfl)) (pss_one (ps_expr (pe_d d__law_do hr (by decide) pass0 (by rfl) (pa_cons (pv 7) (pa_cons (pv 1) (pa_cons (pv 5) (pa_cons (pv 6) (pa_cons (pv 3) (pa_cons (pv 4) pa_nil))))))))))
      (pss_one (ps_ret (pe_callTy call_tupA (by rfl) T.n_tuple (by decide +kernel) (pa_cons (pv 5) pa_nil))))))), ?_⟩
    walk_at "rd"
    refine ⟨t, _, rfl, .inr (.inl (.inl ht)), fun l hl0 => ?_⟩
    simp only [tDNewK]
    intro d hd
    have s1 : Same H (upd H l (.lst (st.map V.int))) := UL.Same.new hl0
    have s2 := Same.tr s1 (UL.Same.new (o := .dK []) hd)
    have nld : l ≠ d := fun z => by rw [← z, upd_same] at hd; cases hd
    have e1 : upd (upd H l (.lst (st.map V.int))) d (.dK []) l = some (.lst (st.map V.int)) := (upd_ne nld).trans upd_same
    have e2 : upd (upd H l (.lst (st.map V.int))) d (.dK []) d = some (.dK []) := upd_same
    have hd0 : H d = none := Same.free s1 hd
    generalize upd (upd H l (.lst (st.map V.int))) d (.dK []) = H1 at s2 e1 e2 ⊢
    have lrs := plenQ hrs
    refine ⟨⟨_, .inl (.inl (s2 _ _ hsl))⟩, FJ.list (xs := rs.map V.ref) (fun i σ' H' => ∃ z : Option V, σ' = [some (.ref sl), some (.ref ca), some (.ref t), some (.ref td), some (.int (sz : Nat)), some (.ref l), some (.ref d), z] ∧ H' l = some (.lst ((runS (ApM (fun _ => none) sz tk fun f => (tv f).getD []) cs (ks.take i) st (fun _ => none) ()).1.map V.int)) ∧ VrH H' d i (runS (ApM (fun _ => none) sz tk fun f => (tv f).getD []) cs (ks.take i) st (fun _ => none) ()).2.1 ∧ Same H H') ⟨_, rfl, e1, VrH.new e2, s2⟩ (fun i σ' H' _ inv => ?_) (fun i x σ' H' hx inv => ?_) fun σ' H' inv => ?_⟩
    · obtain ⟨z, _, _, _, sm⟩ := inv
      exact .inl (.inl (sm _ _ hsl))
    · obtain ⟨z, rfl, hl1, hvr, sm⟩ := inv
      obtain ⟨t0, ht0, rfl⟩ := ratQ hx
      obtain ⟨k, hk, hkA⟩ := patQ hrs ht0
      have il : i < ks.length := (List.getElem?_eq_some_iff.mp hk).1
      have et : ks.take (i + 1) = ks.take i ++ [k] := by rw [List.take_add_one, hk]; rfl
      walk_at "rd"
      refine ⟨t0, ca, l, d, td, sz, k, cs, _, _, i, tv, fun _ => none, tk, rfl, RowA.same sm hkA, sm _ _ hca, hl1, ne_of_none hca hl0, fun z => ?_, hvr, htd.same sm, by omega, hsz, runS_len.trans hl, hcs, runOk_at hok hk, fun H2 hl2 hvr2 sm2 => ?_⟩
      · rw [z] at htd
        obtain ⟨kv, _, d1, _⟩ := htd
        rcases (show H d = some (.dK kv) ∨ ∃ o, H d = some (.frz o (.dK kv)) from d1) with z | ⟨o, z⟩ <;> (rw [hd0] at z; cases z)
      · refine ⟨?_, ?_, fun c o e => sm2 _ _ (sm _ _ e) fun z => ?_⟩
        · rw [et, runS_app]; exact hl2
        · rw [et, runS_app]; exact hvr2
        · simp only [List.mem_cons, List.not_mem_nil, or_false] at z
          rcases z with rfl | rfl
          · rw [hl0] at e; cases e
          · rw [hd0] at e; cases e
    · obtain ⟨z, rfl, hl1, hvr, sm⟩ := inv
      rw [List.length_map, lrs, List.take_length, runS_G (G' := fun _ => none) (tk' := [])] at hl1
      walk_at "rd"
      refine ⟨l, _, rfl, .inl ⟨.inl (.inl hl1), fun r hr => q r _ upd_same (Same.tr sm (UL.Same.new hr))⟩⟩
end
end U
set_option Elab.async false
set_option linter.all false
set_option maxRecDepth 100000
set_option maxHeartbeats 4000000
set_option pp.deepTerms true
set_option pp.maxSteps 400000
namespace U
open PySem PySem.Spec PyProof.Rows L2 UL UX
local macro_rules | `(tactic| walk_at "rd") => `(tactic| simp only [sMatch, tJs, tFmt, tBC, tMethA, tMakeL, iEnumS, tSeq, tAsg, tOp, tCB, tCons, tNil, tVar, tC, tB, tTest, tNot, tIfS, tNext, tYes, tUn, rU, tM0, tGFrom, tGThen, tG0, tYfLst, gcxK, tSubO, tProp, tListG, tMethG, tBMF, tFld, sFld, tMeth, tMake, tSl, tNoPart, tPart, tM1, gTup, gCons, gNil, tDrop, tFor_eq, tLc_eq, tLc2_eq, iRng1_eq, StX.tStar, iList, iTup, iStr, iAny_var, iZipB, tLenSetS, wipe, tVar, tAndV, tOrV, tNotV, tOr, tAnd, tLst, tTup, tBM, tBM0, tChain, tCall, cxK, noxK, addII, addSS, mulII, eqII, neII, neSS, cIntI, cAbsI, rI, rI0, rLt, rLe, rGt_, rGe_, rSub_, rMod, rPow, rDivW, rNeg, gName, tRet, L2.start, List.length_cons, List.length_nil, List.map_cons, List.map_nil, List.replicate, List.cons_append, List.nil_append, List.getElem?_cons_zero, List.getElem?_cons_succ, List.set_cons_zero, List.set_cons_succ, Option.some.injEq, exists_eq_left', exists_eq_left, V.int.injEq, V.bl.injEq, V.str.injEq, V.ref.injEq, V.ty.injEq, List.cons.injEq, and_true, true_and, reduceCtorEq, false_and, exists_false, or_false, false_or, exists_and_left, exists_and_right, List.append_nil, forall_eq, decide_eq_true_eq, Bool.not_eq_true, Nat.reduceAdd, Nat.reduceSub, List.replicate_zero, List.replicate_succ, Nat.zero_le, ite_true, ite_false, if_true, if_false])
section
variable {P : Program} {w : World} {K : PySem.W.Frag} {mg : Str → Option Value} {base : Heap}
open UV UW NdefX ClX
variable {R Wr B Pg Sy IC UC IS UP WE IP C : Addr}
/-- the rows of programs -/
def PrL (H : Hp) (r : Addr) (qs : List Rw) : Prop := H r = some (.lst (qs.map fun q => V.ref q.r)) ∧ ∀ q ∈ qs, RwH H q
theorem PrL.same {H H' : Hp} {r : Addr} {qs : List Rw} (h : PrL H r qs) (s : Same H H') : PrL H' r qs := ⟨s _ _ h.1, fun q hq => (h.2 q hq).same s⟩
theorem PrL.at {H : Hp} {r : Addr} {qs : List Rw} (_ : PrL H r qs) {i : Nat} {y : V} (h : (qs.map fun q => V.ref q.r)[i]? = some y) : ∃ q0, qs[i]? = some q0 ∧ y = V.ref q0.r ∧ q0 ∈ qs ∧ i < qs.length := by
  rw [List.getElem?_map] at h
  cases e : qs[i]? with
  | none => rw [e] at h; cases h
  | some q0 => rw [e] at h; exact ⟨q0, rfl, (Option.some.inj h).symm, List.mem_of_getElem? e, (List.getElem?_eq_some_iff.mp e).1⟩
abbrev s__law_made : Stmt := top 64
abbrev sc__law_made_N : List Str := ["_law_cells_here", "_law_programs_here", ".0", "_law_row"]
theorem sc__law_made : FnScope sc__law_made_N ["_law_cells_here", "_law_programs_here"] (defScope s__law_made) := ⟨rfl, rfl, rfl, by decide +kernel, rfl, by decide +kernel, by decide +kernel⟩
-- 0 _law_cells_here, 1 _law_programs_here, 2 .0, 3 _law_row
/-- a system is made of rows -/
def sp_lmade (R Wr B Pg Sy : Addr) : Sp := fun vs H Q _ => ∃ (ca r : Addr) (cs fs : List Str) (qs : List Rw), vs = [.ref ca, .ref r] ∧ H ca = some (.lst (cs.map V.str)) ∧ PrL H r qs ∧ 1 ≤ cs.length ∧ cs.length ≤ 3 ∧ (∀ z ∈ cs, isNm z) ∧ cs.Nodup ∧ fs.Nodup ∧ (∀ q ∈ qs, RwG cs fs q) ∧ qs.length ≤ 4 ∧ (qs.map (·.n)).Nodup ∧
  ∀ y pd ad nn ccl dx (ms : List (Addr × Rw)) H', ms.map (·.2) = qs → (∀ m ∈ ms, PgA H' R Wr B Pg m.1 m.2.n m.2.ks) → H' y = some (.ins Sy dx (fsS ccl pd ad nn)) → Yo H' Sy y cs pd ad (ms.map fun q => (q.2.n, q.1)) (cntQ [] qs) → FT H' ccl (cs.map V.str) → FT H' nn (qs.map fun q => V.str q.n) → Same H H' → H y = none → Q (.ref y) H'
theorem d_lmade (T : SyX K mg R Wr B Pg Sy IS UC UP) (D : TD K mg "_law_made" s__law_made) (d__law_text : Dn P w K mg base CX0 2 "_law_text" sp_ltext) (CM_read : CMn P w K mg base 7 Pg "Program" "read" (sp_pread K R Wr B Pg)) (k_System : Kn P w K mg base (L2.CX P w) 9 Sy "System" (sp_sinit K R Wr B Pg Sy IC IS UC)) : Dn P w K mg base CX0 12 "_law_made" (sp_lmade R Wr B Pg Sy) := by
  refine D.dn sc__law_made (fun _ _ _ _ _ _ us hl => match us, hl with | [_, _], _ => rfl) (fun vs H Q E h => ?_) (fun f cdv A outer s H vs Q E hr h => ?_)
  · obtain ⟨ca, r, cs, fs, qs, rfl, _⟩ := h; rfl
  · obtain ⟨ca, r, cs, fs, qs, rfl, hca, hr0, c1, c3, icn, cnd, fnd, gq, hql, hqn, q⟩ := h
    refine ⟨_, (pss_one (ps_ret (pe_k k_System hr (by decide) passL (by rfl) (pa_cons (pe_callTy call_listA (by rfl) T.n_list (by decide +kernel) (pa_cons (pv 0) pa_nil)) (pa_cons (pe_lc (own := [(".0", 2), ("_law_row", 3)]) (g := (gName 3)) (tt := tYes) rfl sc__law_made.nd (pi_list (pv 1)) (blkOk_by (N := sc__law_made_N) (sc := defScope s__law_made) (by decide +kernel)) (fun _ _ _ _ _ => pg_name (i := 3) sc__law_made.nd rfl (Or.inl rfl)) (fun _ _ _ _ _ => pts_nil) (fun _ _ _ _ _ => (pe_cm CM_read hr (by decide) (by rfl) (pa_cons (pe_d d__law_text hr (by decide) pass0 (by rfl) (pa_cons (pe_ix (ix_seqK K rfl) (pv 3) pe_int (fun _ _ => rfl)) (pa_cons (pe_ix (ix_seqK K rfl) (pv 3) pe_int (fun _ _ => rfl)) pa_nil))) pa_nil)))) pa_nil))))), ?_⟩
    walk_at "rd"
    refine ⟨ca, _, rfl, .inl (.inl (.inl hca)), fun pl hpl => ?_⟩
    have spl : Same H (upd H pl (.lst (cs.map V.str))) := UL.Same.new hpl
    have hplA : (upd H pl (.lst (cs.map V.str))) pl = some (.lst (cs.map V.str)) := upd_same
    generalize upd H pl (.lst (cs.map V.str)) = H5 at spl hplA ⊢
    have hr5 := hr0.same spl
    refine ⟨⟨_, .inl (.inl hr5.1)⟩, fun D1 hD1 => LJ.it (walk_list (xs := qs.map fun q => V.ref q.r)) (fun i H' => ∃ ms : List (Addr × Rw), ms.map (·.2) = qs.take i ∧ H' D1 = some (.lst (ms.map fun m => V.ref m.1)) ∧ (∀ m ∈ ms, PgA H' R Wr B Pg m.1 m.2.n m.2.ks) ∧ Same H5 H') ⟨[], rfl, upd_same, (fun m h => absurd h (by simp)), UL.Same.new hD1⟩ (fun i H' _ inv => ?_) (fun i y H' H'' hi inv yy => ?_) fun H6 inv => ?_⟩
    · obtain ⟨ms, m1, m2, m3, s5⟩ := inv
      exact .inl (.inl (s5 _ _ hr5.1))
    · obtain ⟨rfl, hx⟩ := yy
      obtain ⟨ms, m1, m2, m3, s5⟩ := inv
      obtain ⟨q0, hq0, rfl, qm, il⟩ := hr5.at hx
      refine ⟨rfl, ?_⟩
      walk_at "rd"
      have g1 := (hr5.2 q0 qm).same s5
      have gg := gq q0 qm
      have lm : ms.length = i := by
        have := congrArg List.length m1
        rw [List.length_map, List.length_take] at this
        omega
      refine ixT (.inl (.inl g1.1)) (show atI _ ((0 : Nat) : Int) = some (V.str q0.n) from atN rfl) (ixT (.inl (.inl g1.1)) (show atI _ ((1 : Nat) : Int) = some (V.ref q0.sl) from atN rfl) (row_text gg g1 fun H6 s6 => row_read gg fun a0 H7 pg s7 => ?_))
      have s67 := Same.tr s6 s7
      refine ⟨_, s67 _ _ m2, by rw [List.length_map, sizeLine_eq]; omega, ms ++ [(a0, q0)], by rw [List.map_append, m1, List.take_add_one, hq0]; rfl, by rw [upd_same, List.map_append]; rfl, fun m5 hm5 => ?_, UL.Same.put (Same.tr s5 s67) hD1⟩
      have off : ∀ c o, H7 c = some o → (∀ xs, o ≠ .lst xs) → (upd H7 D1 (.lst (ms.map (fun m => V.ref m.1) ++ [V.ref a0]))) c = some o := fun c o e n => by
        rw [upd_ne fun z => by
          have h1 := s67 _ _ m2
          rw [z, h1] at e
          exact n _ (Option.some.inj e).symm]
        exact e
      rcases List.mem_append.mp hm5 with h | h
      · exact ((m3 m5 h).same s67).keep3 off
      · rw [List.mem_singleton.mp h]; exact pg.keep3 off
    obtain ⟨ms, m1, m2, m3, s56⟩ := inv
    rw [List.length_map, List.take_length] at m1
    have lms : ms.length = qs.length := by have := congrArg List.length m1; rw [List.length_map] at this; exact this
    intro x dx hx hdx ne
    have sA : Same H6 (upd (upd H6 dx (.own x)) x (.ins Sy dx [])) := UL.Same.put (UL.Same.new hdx) hx
    have inq : ∀ m ∈ ms, m.2 ∈ qs := fun m h => by
      have : m.2 ∈ ms.map (·.2) := List.mem_map_of_mem h
      rw [m1] at this; exact this
    have tk := takePs_ok (cs := cs) fnd (qs := ms) (ps := []) (as := []) (fun q0 h k hk => (gq _ (inq q0 h)).2.2.1 k hk) (fun q0 h => absurd h (by simp)) (by simp only [List.length_nil]; omega) (by
      have e : ms.map (·.2.n) = qs.map (·.n) := by rw [← m1, List.map_map]; rfl
      simp only [List.map_nil, List.nil_append]
      rw [e]; exact hqn)
    rw [List.nil_append, m1] at tk
    refine ⟨x, pl, D1, dx, cs, ms.map fun q => (q.1, q.2.n, q.2.ks), rfl, upd_same, .inl (.inl (sA _ _ (s56 _ _ hplA))), ?_, by omega, fun z hz => Nat.le_trans (nm_len (icn z hz)) (by decide), by rw [List.length_map]; omega, fun q0 h => ?_, fun hb => ?_, fun _ => ⟨fun e he => ?_, fun ps as ht HB ccl pd ad nn h1 h2 h2f h3 h4 h5 h6 h7 => ⟨rfl, ?_⟩⟩⟩
    · have := sA _ _ m2
      rw [List.map_map]; exact .inl (.inl this)
    · obtain ⟨m0, hm0, rfl⟩ := List.mem_map.mp h
      have g := gq _ (inq m0 hm0)
      exact ⟨(m3 m0 hm0).same sA, fun k hk => (g.each k hk).1, by have := g.2.2.2; show m0.2.ks.length ≤ 8; omega, Nat.le_trans (nm_len g.1) (by decide)⟩
    · rw [nms_right c1 c3 icn cnd] at hb; cases hb
    · rw [tk] at he; cases he
    rw [tk] at ht
    have ht := Except.ok.inj ht
    obtain ⟨rfl, rfl⟩ := Prod.mk.inj ht
    have sAB : Same H6 HB := fun c o e => h7 c o (sA _ _ e) (ne_of_none e hx)
    have hx0 : H x = none := by
      cases e : H x with
      | none => rfl
      | some o => rw [s56 _ _ (spl _ _ e)] at hx; cases hx
    refine q x pd ad nn ccl dx ms HB m1 (fun m hm => (m3 m hm).same sAB) h1 ⟨⟨dx, ccl, _, h1, rfl, h2, rfl, rfl, fun m hm => ?_⟩, h3, h4, h6⟩ ?_ ?_ (Same.tr spl (Same.tr s56 sAB)) hx0
    · simp only [sysM, List.mem_cons, List.not_mem_nil, or_false] at hm
      rcases hm with rfl | rfl | rfl | rfl | rfl | rfl | rfl <;> rfl
    · exact h2f (.inl (sA _ _ (s56 _ _ hplA)))
    · rw [List.map_map] at h5
      have e : (ms.map ((fun q => V.str q.1) ∘ fun q => (q.2.n, q.1))) = qs.map fun q => V.str q.n := by rw [← m1, List.map_map]; rfl
      rw [e] at h5
      exact h5
end
end U
set_option Elab.async false
set_option linter.all false
set_option maxRecDepth 100000
set_option maxHeartbeats 4000000
set_option pp.deepTerms true
set_option pp.maxSteps 400000
namespace U
open PySem PySem.Spec PyProof.Rows L2 UL UX
local macro_rules | `(tactic| walk_at "rd") => `(tactic| simp only [sMatch, tJs, tFmt, tBC, tMethA, tMakeL, iEnumS, tSeq, tAsg, tOp, tCB, tCons, tNil, tVar, tC, tB, tTest, tNot, tIfS, tNext, tYes, tUn, rU, tM0, tGFrom, tGThen, tG0, tYfLst, gcxK, tSubO, tProp, tListG, tMethG, tBMF, tFld, sFld, tMeth, tMake, tSl, tNoPart, tPart, tM1, gTup, gCons, gNil, tDrop, tFor_eq, tLc_eq, tLc2_eq, iRng1_eq, StX.tStar, iList, iTup, iStr, iAny_var, iZipB, tLenSetS, wipe, tVar, tAndV, tOrV, tNotV, tOr, tAnd, tLst, tTup, tBM, tBM0, tChain, tCall, cxK, noxK, addII, addSS, mulII, eqII, neII, neSS, cIntI, cAbsI, rI, rI0, rLt, rLe, rGt_, rGe_, rSub_, rMod, rPow, rDivW, rNeg, gName, tRet, L2.start, List.length_cons, List.length_nil, List.map_cons, List.map_nil, List.replicate, List.cons_append, List.nil_append, List.getElem?_cons_zero, List.getElem?_cons_succ, List.set_cons_zero, List.set_cons_succ, Option.some.injEq, exists_eq_left', exists_eq_left, V.int.injEq, V.bl.injEq, V.str.injEq, V.ref.injEq, V.ty.injEq, List.cons.injEq, and_true, true_and, reduceCtorEq, false_and, exists_false, or_false, false_or, exists_and_left, exists_and_right, List.append_nil, forall_eq, decide_eq_true_eq, Bool.not_eq_true, Nat.reduceAdd, Nat.reduceSub, List.replicate_zero, List.replicate_succ, Nat.zero_le, ite_true, ite_false, if_true, if_false])
section
variable {P : Program} {w : World} {K : PySem.W.Frag} {mg : Str → Option Value} {base : Heap}
open UV UW NdefX ClX
variable {R Wr B Pg Sy IC IS UC UP Mc IT Iv OR WE : Addr}
/-! the rows of a law are the programs of its machine -/
/-- the rows of the law are the programs of the machine -/
structure DueOk (u : Mw) (qs : List Rw) (tv : Str → Option (List Int)) : Prop where
  ps : u.ps.map (·.1) = qs.map (·.n)
  nd : (qs.map (·.n)).Nodup
  pr : ∀ q ∈ qs, u.progs q.n = q.ks ∧ q.ks.length ≤ 100
  tb : u.tabs = fun f => (tv f).getD []
  s3 : u.sz ≤ 3
  c3 : u.cs.length ≤ 3
  run : ∀ q ∈ qs, ∀ st ∈ sts u.sz u.cs.length, runOk (ApM (fun _ => none) u.sz u.tk u.tabs) u.cs q.ks st (fun _ => none) () ∧ u.endS q.n st ∈ sts u.sz u.cs.length
theorem valA_none_iff {α : Type} {ps : List (Str × α)} {n : Str} : valA ps n = none ↔ n ∉ ps.map (·.1) := by
  refine ⟨fun h hm => ?_, valA_no⟩
  obtain ⟨q, hq, e⟩ := List.mem_map.mp hm
  unfold valA at h
  rw [Option.map_eq_none_iff, List.find?_eq_none] at h
  exact h q hq (by simpa using e)
theorem DueOk.mem {u : Mw} {qs : List Rw} {tv : Str → Option (List Int)} (h : DueOk u qs tv) {n : Str} (hn : valA u.ps n ≠ none) : n ∈ qs.map (·.n) := by
  by_cases c : n ∈ qs.map (·.n)
  · exact c
  · exact absurd (valA_none_iff.mpr (by rw [h.ps]; exact c)) hn
theorem rw_idx {qs : List Rw} {n : Str} (h : n ∈ qs.map (·.n)) : ∃ q, qs[(qs.map (·.n)).idxOf n]? = some q ∧ q.n = n ∧ q ∈ qs := by
  obtain ⟨i1, _, i3⟩ := idx_ok h
  rw [List.getElem?_map] at i1
  obtain ⟨q, h1, h2⟩ := Option.map_eq_some_iff.mp i1
  exact ⟨q, h1, h2, List.mem_of_getElem? h1⟩
end
end U
set_option Elab.async false
set_option linter.all false
set_option maxRecDepth 100000
set_option maxHeartbeats 4000000
set_option pp.deepTerms true
set_option pp.maxSteps 400000
namespace U
open PySem PySem.Spec PyProof.Rows L2 UL UX
local macro_rules | `(tactic| walk_at "rd") => `(tactic| simp only [sMatch, tJs, tFmt, tBC, tMethA, tMakeL, iEnumS, tSeq, tAsg, tOp, tCB, tCons, tNil, tVar, tC, tB, tTest, tNot, tIfS, tNext, tYes, tUn, rU, tM0, tGFrom, tGThen, tG0, tYfLst, gcxK, tSubO, tProp, tListG, tMethG, tBMF, tFld, sFld, tMeth, tMake, tSl, tNoPart, tPart, tM1, gTup, gCons, gNil, tDrop, tFor_eq, tLc_eq, tLc2_eq, iRng1_eq, StX.tStar, iList, iTup, iStr, iAny_var, iZipB, tLenSetS, wipe, tVar, tAndV, tOrV, tNotV, tOr, tAnd, tLst, tTup, tBM, tBM0, tChain, tCall, cxK, noxK, addII, addSS, mulII, eqII, neII, neSS, cIntI, cAbsI, rI, rI0, rLt, rLe, rGt_, rGe_, rSub_, rMod, rPow, rDivW, rNeg, gName, tRet, L2.start, List.length_cons, List.length_nil, List.map_cons, List.map_nil, List.replicate, List.cons_append, List.nil_append, List.getElem?_cons_zero, List.getElem?_cons_succ, List.set_cons_zero, List.set_cons_succ, Option.some.injEq, exists_eq_left', exists_eq_left, V.int.injEq, V.bl.injEq, V.str.injEq, V.ref.injEq, V.ty.injEq, List.cons.injEq, and_true, true_and, reduceCtorEq, false_and, exists_false, or_false, false_or, exists_and_left, exists_and_right, List.append_nil, forall_eq, decide_eq_true_eq, Bool.not_eq_true, Nat.reduceAdd, Nat.reduceSub, List.replicate_zero, List.replicate_succ, Nat.zero_le, ite_true, ite_false, if_true, if_false])
section
variable {P : Program} {w : World} {K : PySem.W.Frag} {mg : Str → Option Value} {base : Heap}
open UV UW NdefX ClX
variable {R Wr B Pg Sy IC IS UC UP Mc IT WE : Addr}
/-! what laws draw ahead of a machine, and the machine made of it -/
theorem ArOk.mem {fs : List Str} {q : Str × Nat} (h : ArOk fs q) : q.1 ∈ fs := by
  obtain ⟨i, i0, a1, _⟩ := h
  have a1 := atI_nat i0 a1
  rw [List.getElem?_map] at a1
  cases e : fs[i.toNat]? with
  | none => rw [e] at a1; cases a1
  | some x =>
    rw [e] at a1
    have := V.str.inj (Option.some.inj a1)
    rw [← this]; exact List.mem_of_getElem? e
theorem ArOk.le3 {fs : List Str} {q : Str × Nat} (h : ArOk fs q) : q.2 ≤ 3 := by
  obtain ⟨i, i0, _, a2⟩ := h
  have a2 := atI_nat i0 a2
  have il : i.toNat < 5 := (List.getElem?_eq_some_iff.mp a2).1
  match hh : i.toNat, il with
  | 0, _ | 1, _ | 2, _ | 3, _ | 4, _ =>
    rw [hh] at a2
    have := V.int.inj (Option.some.inj a2)
    omega
/-- pairs with the same keys -/
theorem paired_valA {α β : Type} {G : α → β → Prop} {f : Str} : ∀ {ls : List (Str × α)} {tq : List (Str × β)}, Paired (fun (a : Str × α) (b : Str × β) => a.1 = b.1 ∧ G a.2 b.2) ls tq → (valA ls f = none ∧ valA tq f = none) ∨ ∃ x z, valA ls f = some x ∧ valA tq f = some z ∧ G x z
  | [], [], _ => .inl ⟨rfl, rfl⟩
  | (k, a) :: r, (k', b) :: r', .cons ⟨e, g⟩ t => by
    obtain rfl : k = k' := e
    by_cases h : k = f
    · exact .inr ⟨a, b, by simp [valA, h], by simp [valA, h], g⟩
    · have e1 : valA ((k, a) :: r) f = valA r f := by unfold valA; rw [List.find?_cons_of_neg (by simpa using h)]
      have e2 : valA ((k, b) :: r') f = valA r' f := by unfold valA; rw [List.find?_cons_of_neg (by simpa using h)]
      rw [e1, e2]
      exact paired_valA t
theorem TdH.of {H : Hp} {td : Addr} {ls : List (Str × Addr)} {tq : List (Str × List Int)} (h : Rd H td (.dK (pk ls))) (t : Paired (fun (a : Str × Addr) (b : Str × List Int) => a.1 = b.1 ∧ H a.2 = some (.lst (b.2.map V.int))) ls tq) : TdH H td (valA tq) := by
  refine ⟨pk ls, fun f => (valA ls f).getD 0, h, fun f => ?_, fun f zs e => ?_⟩
  · rw [valV_pk]
    rcases paired_valA (G := fun (a : Addr) (b : List Int) => H a = some (.lst (b.map V.int))) (f := f) t with ⟨a, b⟩ | ⟨x, z, a, b, _⟩ <;> simp [a, b]
  · rcases paired_valA (G := fun (a : Addr) (b : List Int) => H a = some (.lst (b.map V.int))) (f := f) t with ⟨a, b⟩ | ⟨x, z, a, b, g⟩
    · rw [b] at e; cases e
    · rw [b] at e
      cases e
      show H ((valA ls f).getD 0) = _
      rw [a]
      exact g
theorem tabs_pl {T : List NdefX.NTab} {H H' : Hp} {p : Addr} (h : NdefX.TabsN T H) (pl : Pl H p) (b : But p H H') : NdefX.TabsN T H' := fun q hq => by
  obtain ⟨ns, e⟩ := pl
  obtain ⟨ps, h1, h2, h3⟩ := h q hq
  refine ⟨ps, b _ _ h1 (fun z => by rw [z, e] at h1; cases h1), h2, fun pos cv hc => ?_⟩
  obtain ⟨c, e1, e2⟩ := h3 pos cv hc
  exact ⟨c, e1, b _ _ e2 (fun z => by rw [z, e] at e2; cases e2)⟩
/-- what is drawn ahead of the tables -/
structure S10 (Ts : List NdefX.NTab) (H : Hp) (p ca fa r : Addr) (cs fs : List Str) (qs : List Rw) : Prop where
  pl : Pl H p
  hca : H ca = some (.lst (cs.map V.str))
  cap : ca ≠ p
  hfa : H fa = some (.lst (fs.map V.str))
  fap : fa ≠ p
  pr : PrL H r qs
  rp : r ≠ p
  sp : ∀ q ∈ qs, q.sl ≠ p
  c1 : 1 ≤ cs.length
  c3 : cs.length ≤ 3
  icn : ∀ z ∈ cs, isNm z
  cnd : cs.Nodup
  f2 : 2 ≤ fs.length
  f5 : fs.length ≤ 5
  ifn : ∀ z ∈ fs, isNm z
  fnd : fs.Nodup
  qg : ∀ q ∈ qs, RwG cs fs q
  ql : qs.length ≤ 4
  qn : (qs.map (·.n)).Nodup
  tb : NdefX.TabsN Ts H
theorem S10.but {Ts : List NdefX.NTab} {H H' : Hp} {p ca fa r : Addr} {cs fs : List Str} {qs : List Rw} (h : S10 Ts H p ca fa r cs fs qs) (b : But p H H') (pl : Pl H' p) : S10 Ts H' p ca fa r cs fs qs :=
  { h with pl := pl, tb := tabs_pl h.tb h.pl b, hca := b _ _ h.hca h.cap, hfa := b _ _ h.hfa h.fap, pr := ⟨b _ _ h.pr.1 h.rp, fun q hq => (h.pr.2 q hq).but h.pl (h.sp q hq) b⟩ }
/-- the programs of a right machine run to their ends -/
theorem tabs_run {cs fs : List Str} {qs : List Rw} {tv : Str → Option (List Int)} {sz : Nat} {tk : List (Str × Addr)} {G : Hp} (nd : fs.Nodup) (hg : ∀ q ∈ qs, RwG cs fs q) (hb : badTab sz tv (cntQ [] qs) = none) (hk : tk.map (·.1) = (cntQ [] qs).map (·.1)) (c1 : 1 ≤ cs.length) {q : Rw} (hm : q ∈ qs) {st : List Int} (hst : st ∈ sts sz cs.length) :
    runOk (ApM G sz tk fun f => (tv f).getD []) cs q.ks st (fun _ => none) () ∧ ∀ v ∈ (runS (ApM G sz tk fun f => (tv f).getD []) cs q.ks st (fun _ => none) ()).1, InR sz v := by
  obtain ⟨sl, sr⟩ := sts_item sz cs.length st hst
  have hz : 1 ≤ sz := by
    cases st with
    | nil => simp only [List.length_nil] at sl; omega
    | cons v r => have := sr v List.mem_cons_self; omega
  have ins : ∀ q ∈ qs, ∀ k ∈ q.ks, InS cs fs k := fun q hq => (hg q hq).2.2.1
  refine run_good hz (kn := []) (hg q hm).2.1 (fun k hk1 => ⟨(ins q hm k hk1).1, fun f n hf => ?_⟩) sl sr (fun x hx => nomatch hx)
  have hv := cntQ_val nd ins hm hk1 hf
  obtain ⟨m, hm2, hmem⟩ := valA_some (cntQ_in (acc := []) hm hk1 hf)
  rw [hv] at hm2
  obtain rfl : n = m := Option.some.inj hm2
  have hok : okTab sz n (tv f) = true := by
    unfold badTab at hb
    have := List.find?_eq_none.mp hb (f, n) hmem
    simpa using this
  refine ⟨?_, ?_⟩
  · cases e : tv f with
    | none => rw [e] at hok; cases hok
    | some zs =>
      rw [e] at hok
      unfold okTab at hok
      simp only [Bool.and_eq_true, decide_eq_true_eq, List.all_eq_true] at hok
      unfold TabOk
      dsimp only
      rw [e]
      exact ⟨hok.1, fun v hv => hok.2 v hv⟩
  · obtain ⟨t, ht, _⟩ := valA_some (as := tk) (f := f) (by rw [hk]; exact List.mem_map_of_mem (f := (·.1)) hmem)
    exact ⟨t, ht⟩
/-- a program's steps, by its name -/
def progsQ (qs : List Rw) (f : Str) : List Sk := (valA (qs.map fun q => (q.n, q.ks)) f).getD []
theorem progsQ_at {qs : List Rw} (nd : (qs.map (·.n)).Nodup) {q : Rw} (h : q ∈ qs) : progsQ qs q.n = q.ks := by
  unfold progsQ
  have := valA_in (xs := qs.map fun q => (q.n, q.ks)) (q := (q.n, q.ks)) (by rw [List.map_map]; exact nd) (List.mem_map_of_mem (f := fun q : Rw => (q.n, q.ks)) h)
  rw [this]
  rfl
/-- what a machine is made of -/
structure InitH (Ts : List NdefX.NTab) (R Wr B Pg Sy : Addr) (H : Hp) (y cl nn td pd ad : Addr) (n : Int) (cs : List Str) (ps : List (Str × Addr)) (as : List (Str × Nat)) (tv : Str → Option (List Int)) (progs : Str → List Sk) : Prop where
  yo : Yo H Sy y cs pd ad ps as
  ins : ∃ dy, H y = some (.ins Sy dy (fsS cl pd ad nn))
  cl : FT H cl (cs.map V.str)
  nn : FT H nn (ps.map fun q => V.str q.1)
  td : TdH H td tv
  tb : NdefX.TabsN Ts H
  c3 : cs.length ≤ 3
  al : as.length ≤ 100
  pl : ps.length ≤ 100
  and_ : (as.map (·.1)).Nodup
  pnd : (ps.map (·.1)).Nodup
  has : ∀ q ∈ as, q.1.length ≤ 1000 ∧ q.2 ≤ 3
  htv : ∀ f zs, tv f = some zs → zs.length ≤ 1000
  hps : ∀ q ∈ ps, PgA H R Wr B Pg q.2 q.1 (progs q.1) ∧ (progs q.1).length ≤ 100 ∧ q.1.length ≤ 1000
  run : ∀ (sz : Nat), n = (sz : Int) → badTab sz tv as = none → ∀ tk : List (Str × Addr), tk.map (·.1) = as.map (·.1) → ∀ q ∈ ps, ∀ st ∈ sts sz cs.length, runOk (ApM (fun _ => none) sz tk fun f => (tv f).getD []) cs (progs q.1) st (fun _ => none) ()
theorem InitH.same {Ts : List NdefX.NTab} {H H' : Hp} {y cl nn td pd ad : Addr} {n : Int} {cs : List Str} {ps : List (Str × Addr)} {as : List (Str × Nat)} {tv : Str → Option (List Int)} {progs : Str → List Sk} (h : InitH Ts R Wr B Pg Sy H y cl nn td pd ad n cs ps as tv progs) (s : Same H H') : InitH Ts R Wr B Pg Sy H' y cl nn td pd ad n cs ps as tv progs :=
  { h with yo := h.yo.same s, ins := (let ⟨dy, e⟩ := h.ins; ⟨dy, s _ _ e⟩), cl := FT.kpx h.cl (fun b o e _ _ => s b o e), nn := FT.kpx h.nn (fun b o e _ _ => s b o e), td := h.td.same s, tb := NdefX.TabsN.ext h.tb s, hps := fun q hq => ⟨PgA.kpx (h.hps q hq).1 (fun b o e _ _ => s b o e), (h.hps q hq).2⟩ }
/-- all but lists and tables stays -/
def KpL (H H' : Hp) : Prop := ∀ b o, H b = some o → (∀ xs, o ≠ .lst xs) → (∀ ps, o ≠ .tbl ps) → H' b = some o
theorem KpL.but {H H' : Hp} {p : Addr} (pl : Pl H p) (b : But p H H') : KpL H H' := fun c o e n _ => b _ _ e fun z => by
  obtain ⟨ns, h⟩ := pl
  rw [z, h] at e
  exact n _ (Option.some.inj e).symm
theorem KpL.ext {H H' : Hp} (s : LamX.ExtN H H') : KpL H H' := fun b o e _ n => s b o e n
theorem MW.kp {H H' : Hp} {u : Mw} (h : MW Mc Sy H u) (s : KpL H H') : MW Mc Sy H' u := by
  have ft : ∀ {p : Addr} {xs : List V}, FT H p xs → FT H' p xs := fun ⟨o, e, r⟩ => ⟨o, s _ _ e (fun _ z => nomatch z) (fun _ z => nomatch z), r⟩
  refine { h with mac := ?_, yo := ?_, nms := (let ⟨dy, fs, nn, a, b, c⟩ := h.nms; ⟨dy, fs, nn, s _ _ a (fun _ z => nomatch z) (fun _ z => nomatch z), b, ft c⟩) }
  · obtain ⟨⟨dx', m1⟩, ⟨dy, fs, m2, m3⟩, m4, m5, m6, m7, m8⟩ := h.mac
    refine ⟨⟨dx', s _ _ m1 (fun _ z => nomatch z) (fun _ z => nomatch z)⟩, ⟨dy, fs, s _ _ m2 (fun _ z => nomatch z) (fun _ z => nomatch z), m3⟩, ft m4, s _ _ m5 (fun _ z => nomatch z) (fun _ z => nomatch z), fun f t z => s _ _ (m6 f t z) (fun _ z => nomatch z) (fun _ z => nomatch z), s _ _ m7 (fun _ z => nomatch z) (fun _ z => nomatch z), fun q hq => ?_⟩
    obtain ⟨kvs, h1, h2⟩ := m8 q hq
    exact ⟨kvs, s _ _ h1 (fun _ z => nomatch z) (fun _ z => nomatch z), L2.Paired.mapP h2 fun _ _ ⟨a, t, b, g⟩ => ⟨a, t, b, s _ _ g (fun _ z => nomatch z) (fun _ z => nomatch z)⟩⟩
  · obtain ⟨⟨dy, c, fs, h1, h2, h3, h4, h5, h9⟩, h6, h7, h8⟩ := h.yo
    refine ⟨⟨dy, c, fs, s _ _ h1 (fun _ z => nomatch z) (fun _ z => nomatch z), h2, ?_, h4, h5, h9⟩, s _ _ h6 (fun _ z => nomatch z) (fun _ z => nomatch z), s _ _ h7 (fun _ z => nomatch z) (fun _ z => nomatch z), h8⟩
    rcases h3 with e | ⟨o, e⟩
    · exact .inl (s _ _ e (fun _ z => nomatch z) (fun _ z => nomatch z))
    · exact .inr ⟨o, s _ _ e (fun _ z => nomatch z) (fun _ z => nomatch z)⟩
/-- what a law holds behind the making of its machine -/
structure LS (Ts : List NdefX.NTab) (Mc Sy : Addr) (H : Hp) (p ca fa r td : Addr) (fs : List Str) (qs : List Rw) (ls : List (Str × Addr)) (tq : List (Str × List Int)) (u : Mw) : Prop where
  s : S10 Ts H p ca fa r u.cs fs qs
  mw : MW Mc Sy H u
  due : DueOk u qs (valA tq)
  htd : H td = some (.dK (pk ls))
  tl : TbL H p ls tq
  z1 : 1 ≤ u.sz
section
variable {Ts : List NdefX.NTab} {H H' : Hp} {p ca fa r td : Addr} {fs : List Str} {qs : List Rw} {ls : List (Str × Addr)} {tq : List (Str × List Int)} {u : Mw}
theorem LS.tdp (h : LS Ts Mc Sy H p ca fa r td fs qs ls tq u) : td ≠ p := fun e => by obtain ⟨ns, z⟩ := h.s.pl; have := h.htd; rw [e, z] at this; cases this
theorem LS.but (h : LS Ts Mc Sy H p ca fa r td fs qs ls tq u) (b : But p H H') (pl : Pl H' p) : LS Ts Mc Sy H' p ca fa r td fs qs ls tq u :=
  { h with s := h.s.but b pl, mw := h.mw.kp (.but h.s.pl b), htd := b _ _ h.htd h.tdp, tl := TbL.but h.tl b }
theorem LS.same (h : LS Ts Mc Sy H p ca fa r td fs qs ls tq u) (s : Same H H') : LS Ts Mc Sy H' p ca fa r td fs qs ls tq u :=
  h.but (fun b o e _ => s b o e) (let ⟨ns, e⟩ := h.s.pl; ⟨ns, s _ _ e⟩)
theorem LS.tdh (h : LS Ts Mc Sy H p ca fa r td fs qs ls tq u) : TdH H td (valA tq) := TdH.of (.inl h.htd) (L2.Paired.mapP h.tl fun _ _ ⟨a, _, b⟩ => ⟨a, b⟩)
theorem LS.new (h : LS Ts Mc Sy H p ca fa r td fs qs ls tq u) {l : Addr} {o : HO} (hl : H l = none) : LS Ts Mc Sy (upd H l o) p ca fa r td fs qs ls tq u := h.same (UL.Same.new hl)
theorem LS.npl (h : LS Ts Mc Sy H p ca fa r td fs qs ls tq u) {l : Addr} (hl : H l = none) : l ≠ p := fun e => by obtain ⟨ns, z⟩ := h.s.pl; rw [e, z] at hl; cases hl
end
/-- drawn tables are right -/
theorem tabs_right {fs : List Str} {qs : List Rw} {cs : List Str} {sz : Nat} {tq : List (Str × List Int)} (hk : tq.map (·.1) = fs) (nd : fs.Nodup) (hg : ∀ q ∈ qs, RwG cs fs q) (hta : ∀ j q, tq[j]? = some q → TabAr sz j q.2) : badTab sz (valA tq) (cntQ [] qs) = none := by
  unfold badTab
  rw [List.find?_eq_none]
  intro q0 hq0
  obtain ⟨i, i0, a1, a2⟩ := cntQ_ar (acc := []) nd (fun q hq => (hg q hq).2.2.1) (fun q hq => nomatch hq) q0 hq0
  have a1 := atI_nat i0 a1
  have a2 := atI_nat i0 a2
  rw [List.getElem?_map] at a1
  obtain ⟨x, hx, ex⟩ := Option.map_eq_some_iff.mp a1
  have ex : x = q0.1 := V.str.inj ex
  subst ex
  have il : i.toNat < 5 := (List.getElem?_eq_some_iff.mp a2).1
  have ar : ar5 i.toNat = q0.2 := by
    unfold ar5
    match hh : i.toNat, il with
    | 0, _ | 1, _ | 2, _ | 3, _ | 4, _ =>
      rw [hh] at a2
      have := V.int.inj (Option.some.inj a2)
      simp
      omega
  rw [← hk, List.getElem?_map] at hx
  obtain ⟨b, hb, eb⟩ := Option.map_eq_some_iff.mp hx
  obtain ⟨t1, t2⟩ := hta _ _ hb
  have hv : valA tq q0.1 = some b.2 := by rw [← eb]; exact valA_in (hk ▸ nd) (List.mem_of_getElem? hb)
  rw [hv]
  unfold okTab
  simp only
  rw [decide_eq_true (by rw [t1, ar]), Bool.true_and]
  have : (b.2.all fun v => decide (0 ≤ v) && decide (v < (sz : Int))) = true := by
    rw [List.all_eq_true]
    intro v hv
    have := t2 v hv
    unfold InR at this
    simp only [Bool.and_eq_true, decide_eq_true_eq]
    exact this
  rw [this]; decide
theorem nodup_len {α : Type} [DecidableEq α] : ∀ {xs ys : List α}, xs.Nodup → (∀ x ∈ xs, x ∈ ys) → xs.length ≤ ys.length
  | [], _, _, _ => Nat.zero_le _
  | x :: r, ys, h, hs => by
    have hx := hs x List.mem_cons_self
    have hn := List.nodup_cons.mp h
    have := nodup_len (xs := r) (ys := ys.erase x) hn.2 fun z hz => (List.mem_erase_of_ne fun e => hn.1 (by rw [← e]; exact hz)).mpr (hs z (List.mem_cons_of_mem _ hz))
    rw [List.length_erase_of_mem hx] at this
    have : 0 < ys.length := List.length_pos_of_mem hx
    simp only [List.length_cons]
    omega
section
variable {Ts : List NdefX.NTab} {H : Hp} {p ca fa r td : Addr} {cs fs : List Str} {qs : List Rw} {ls : List (Str × Addr)} {tq : List (Str × List Int)} {sz : Nat}
/-- a machine is made of what is drawn: System(..) of the rows, then Machine(..) -/
theorem mach_made (S : S10 Ts H p ca fa r cs fs qs) (htd : H td = some (.dK (pk ls))) (hk : ls.map (·.1) = fs) (htl : TbL H p ls tq) (hta : ∀ j q, tq[j]? = some q → TabAr sz j q.2) (hz1 : 1 ≤ sz) (hz3 : sz ≤ 3) {R0 : Addr → Hp → Prop} {E1 E2 : XK}
    (k : ∀ (u : Mw) H', u.sz = sz → u.cs = cs → LS Ts Mc Sy H' p ca fa r td fs qs ls tq u → LamX.ExtN H H' → R0 u.m H') :
    sp_lmade R Wr B Pg Sy [.ref ca, .ref r] H (fun y H1 => ∀ x dx, H1 x = none → H1 dx = none → dx ≠ x → sp_minit Ts R Wr B Pg Mc Sy IC IT [.ref x, y, .int (sz : Nat), .ref td] (upd (upd H1 dx (.own x)) x (.ins Mc dx [])) (fun v H2 => v = .non ∧ R0 x H2) E1) E2 := by
  refine ⟨ca, r, cs, fs, qs, rfl, S.hca, S.pr, S.c1, S.c3, S.icn, S.cnd, S.fnd, S.qg, S.ql, S.qn, fun y pd ad nn ccl dy ms H4 hms hpg hy1 hyo hccl hnn s4 hy0 x dx hx hdx ndx => ?_⟩
  have s0 : Same H4 (upd (upd H4 dx (.own x)) x (.ins Mc dx [])) := Same.tr (UL.Same.new hdx) (UL.Same.new (by rw [upd_ne (Ne.symm ndx)]; exact hx))
  have ex : upd (upd H4 dx (.own x)) x (.ins Mc dx []) x = some (.ins Mc dx []) := upd_same
  generalize upd (upd H4 dx (.own x)) x (.ins Mc dx []) = H5 at s0 ex ⊢
  have s5 := Same.tr s4 s0
  have nda := cntQ_nodup (qs := qs) (acc := []) List.nodup_nil
  have arq := cntQ_ar (acc := []) S.fnd (fun q hq => (S.qg q hq).2.2.1) (fun q hq => nomatch hq)
  have hasq : ∀ q ∈ cntQ [] qs, q.1.length ≤ 1000 ∧ q.2 ≤ 3 := fun q hq => ⟨Nat.le_trans (nm_len (S.ifn _ (ArOk.mem (arq q hq)))) (by decide), ArOk.le3 (arq q hq)⟩
  have hal : (cntQ [] qs).length ≤ 100 := by
    have := nodup_len nda (ys := fs) fun z hz => by obtain ⟨q, hq, rfl⟩ := List.mem_map.mp hz; exact ArOk.mem (arq q hq)
    rw [List.length_map] at this
    have := S.f5
    omega
  have tl0 : Paired (fun (a : Str × Addr) (b : Str × List Int) => a.1 = b.1 ∧ H a.2 = some (.lst (b.2.map V.int))) ls tq := L2.Paired.mapP htl fun _ _ ⟨a, _, b⟩ => ⟨a, b⟩
  have tdh := (TdH.of (.inl htd) tl0).same s5
  have hkq : tq.map (·.1) = fs := by
    have aux : ∀ {ls : List (Str × Addr)} {tq : List (Str × List Int)}, Paired (fun (a : Str × Addr) (b : Str × List Int) => a.1 = b.1 ∧ H a.2 = some (.lst (b.2.map V.int))) ls tq → tq.map (·.1) = ls.map (·.1) := by
      intro ls tq h
      induction h with
      | nil => rfl
      | cons a _ ih => simp only [List.map_cons]; rw [ih, a.1]
    rw [aux tl0, hk]
  have hb := tabs_right hkq S.fnd S.qg hta
  have hlen : ∀ q ∈ tq, q.2.length ≤ 27 := fun q hq => by
    obtain ⟨j, hj⟩ := List.mem_iff_getElem?.mp hq
    rw [(hta j q hj).1]
    exact pow_le hz3 (ar5_le j)
  have hzl : ∀ f zs, valA tq f = some zs → zs.length ≤ 1000 := fun f zs e => by
    unfold valA at e
    obtain ⟨q1, h1, h2⟩ := Option.map_eq_some_iff.mp e
    have := hlen q1 (List.mem_of_find?_eq_some h1)
    rw [h2] at this
    omega
  have lms : ms.length = qs.length := by have := congrArg List.length hms; rw [List.length_map] at this; exact this
  have hps1 : (ms.map fun q => (q.2.n, q.1)).map (·.1) = qs.map (·.n) := by rw [← hms, List.map_map, List.map_map]; rfl
  refine ⟨x, y, ccl, nn, td, dx, pd, ad, (sz : Nat), cs, ms.map fun q => (q.2.n, q.1), cntQ [] qs, valA tq, progsQ qs, rfl, ex, hyo.same s0, ⟨dy, s0 _ _ hy1⟩, FT.kpx hccl (fun b o e _ _ => s0 b o e), ?_, tdh, NdefX.TabsN.ext S.tb s5, S.c3, hal, by rw [List.length_map, lms]; have := S.ql; omega, nda, by rw [hps1]; exact S.qn, hasq, hzl, fun q hq => ?_, fun sz' hn' hb' tk htk q hq st hst => ?_, fun hn => absurd (by omega) hn, fun sz' hn' h1 h3 => ⟨fun q0 hq0 => ?_, fun _ tb en tk ek H' hm htk hek keep hT1 => ⟨rfl, ?_⟩⟩⟩
  · have := FT.kpx hnn (fun b o e _ _ => s0 b o e)
    rw [← hms, List.map_map] at this
    rw [List.map_map]
    exact this
  · obtain ⟨m0, hm0, rfl⟩ := List.mem_map.mp hq
    have mq : m0.2 ∈ qs := by rw [← hms]; exact List.mem_map_of_mem hm0
    dsimp only
    rw [progsQ_at S.qn mq]
    exact ⟨PgA.kpx (hpg m0 hm0) (fun b o e _ _ => s0 b o e), by have := (S.qg _ mq).2.2.2; omega, Nat.le_trans (nm_len (S.qg _ mq).1) (by decide)⟩
  · obtain ⟨m0, hm0, rfl⟩ := List.mem_map.mp hq
    have mq : m0.2 ∈ qs := by rw [← hms]; exact List.mem_map_of_mem hm0
    dsimp only
    rw [progsQ_at S.qn mq]
    exact (tabs_run S.fnd S.qg hb' htk S.c1 mq hst).1
  · obtain rfl : sz = sz' := by omega
    rw [hb] at hq0; cases hq0
  · obtain rfl : sz = sz' := by omega
    have xN : LamX.ExtN H H' := fun b o e n => keep _ _ (s5 _ _ e) n fun z => by rw [z] at e; rw [s4 _ _ e] at hx; cases hx
    have kpn : KpL H H' := .ext xN
    have hr : ∀ q ∈ qs, ∀ st ∈ sts sz cs.length, runOk (ApM (fun _ => none) sz tk fun f => (valA tq f).getD []) cs q.ks st (fun _ => none) () ∧ endM sz (fun f => (valA tq f).getD []) cs (progsQ qs q.n) st ∈ sts sz cs.length := fun q hq st hst => by
      obtain ⟨g1, g2⟩ := tabs_run (G := fun _ => none) S.fnd S.qg hb htk S.c1 hq hst
      refine ⟨g1, ?_⟩
      rw [progsQ_at S.qn hq]
      unfold endM
      rw [runS_G (G' := fun _ => none) (tk' := [])] at g2
      refine sts_mem (runS_len.trans (sts_nb hst).1) fun v hv => ?_
      have := g2 v hv
      unfold InR at this
      unfold bad
      omega
    have hpl : Pl H' p := let ⟨ns, e⟩ := S.pl; ⟨ns, xN _ _ e (fun _ z => nomatch z)⟩
    have sL : ∀ {b : Addr} {xs : List V}, H b = some (.lst xs) → H' b = some (.lst xs) := fun e => xN _ _ e (fun _ z => nomatch z)
    have rw' : ∀ q ∈ qs, RwH H' q := fun q hq => by
      obtain ⟨h1, h2, h3⟩ := S.pr.2 q hq
      exact ⟨xN _ _ h1 (fun _ z => nomatch z), sL h2, L2.Paired.mapP h3 fun _ _ ⟨e, a, b⟩ => ⟨e, xN _ _ a (fun _ z => nomatch z), xN _ _ b (fun _ z => nomatch z)⟩⟩
    refine k { m := x, y := y, cl := ccl, tb := tb, en := en, pd := pd, ad := ad, sz := sz, cs := cs, tk := tk, ek := ek, tabs := fun f => (valA tq f).getD [], progs := progsQ qs, ps := ms.map fun q => (q.2.n, q.1), as := cntQ [] qs } H' rfl rfl ?_ xN
    refine { s := { S with pl := hpl, hca := sL S.hca, hfa := sL S.hfa, pr := ⟨sL S.pr.1, rw'⟩, tb := hT1 }, mw := ?_, due := ?_, htd := xN _ _ htd (fun _ z => nomatch z), tl := L2.Paired.mapP htl fun _ _ ⟨a, b, c⟩ => ⟨a, b, sL c⟩, z1 := hz1 }
    · refine { mac := hm, yo := Yo.kpx (hyo.same s0) (fun b o e n1 n2 => keep _ _ e n2 fun z => by rw [z, ex] at e; cases e; exact n1 _ _ rfl), ks := hek, s3 := hz3, c3 := S.c3, cn := fun z hz => Nat.le_trans (nm_len (S.icn z hz)) (by decide), nms := ⟨dy, _, nn, keep _ _ (s0 _ _ hy1) (fun _ z => nomatch z) (fun z => by have z' : y = x := z; rw [z'] at hy1; rw [hy1] at hx; cases hx), rfl, ?_⟩, run := fun n hn st hst => ?_ }
      · have hm0 : n ∈ qs.map (·.n) := by
          by_cases c : n ∈ qs.map (·.n)
          · exact c
          · exact absurd (valA_none_iff.mpr (by rw [hps1]; exact c)) hn
        obtain ⟨q0, hq0, rfl⟩ := List.mem_map.mp hm0
        exact (hr q0 hq0 st hst).2
      · have := FT.kpx hnn (fun b o e _ _ => s0 b o e)
        rw [show ((ms.map fun q => (q.2.n, q.1)).map fun q => V.str q.1) = qs.map fun q => V.str q.n by rw [← hms, List.map_map, List.map_map]; rfl]
        exact FT.kpx this fun b o e n1 n2 => keep _ _ e n2 fun z => by rw [z, ex] at e; cases e; exact n1 _ _ rfl
    · exact { ps := hps1, nd := S.qn, pr := fun q hq => ⟨progsQ_at S.qn hq, by have := (S.qg q hq).2.2.2; omega⟩, tb := rfl, s3 := hz3, c3 := S.c3, run := fun q hq st hst => hr q hq st hst }
end
end
end U
set_option Elab.async false
set_option linter.all false
set_option maxRecDepth 100000
set_option maxHeartbeats 4000000
/-! defs of the top whose last parameters have defaults -/
namespace UX
open PySem PySem.Spec PyProof.Rows L2 UL UV UW ClX
structure TDd (K : PySem.W.Frag) (mg : Str → Option Value) (x : Str) (st : Stmt) (dvs : List V) : Prop where
  ex : ∃ f fd, FunD K x x (defArgs st) (defBody st) (defScope st) dvs [] f fd ∧ mg x = some (.ref f)
structure Dnd (P : Program) (w : World) (K : PySem.W.Frag) (mg : Str → Option Value) (base : Heap) (CX : CXT) (k : Nat) (x : Str) (dvs : List V) (sp : Sp) : Prop where
  ex : ∃ (f : Addr) (fd : FuncData) (ps : List Str) (ds : List Value), FnOk P w K mg base CX k f fd ps sp ∧ mg x = some (.ref f) ∧ PySem.W.keepIn K (.ref f) = true ∧ Binds K fd ps [] ∧ Vals dvs ds ∧ Binds K fd ps ds
section
variable {P : Program} {w : World} {K : PySem.W.Frag} {mg : Str → Option Value} {base : Heap} {x : Str} {st : Stmt} {N ps : List Str} {k n : Nat} {sp : Sp} {dvs : List V}
theorem TDd.dn (D : TDd K mg x st dvs) (S : FnScope N ps (defScope st)) (hd : dvs ≠ []) (hn : n + dvs.length = ps.length) (b0 : BindD x x st dvs ps.length dvs.length ps) (b1 : BindD x x st dvs n 0 ps) (len : ∀ vs H Q E, sp vs H Q E → vs.length = ps.length) (body : Body0 P w K mg base x st N k sp) : Dnd P w K mg base CX0 (k + 1) x dvs sp := by
  obtain ⟨f, fd, F, hm⟩ := D.ex
  obtain ⟨q0, ds, v, q1⟩ := fund_b F hd hn b0 b1
  refine ⟨f, fd, ps, ds, F.ok S len fun cdv A outer s H vs Q E hr h => ?_, hm, F.kp, q0, v, q1⟩
  obtain ⟨t, ht, hq⟩ := body f cdv A outer s H vs Q E hr h
  exact ⟨t, ht.nox, hq⟩
theorem TDd.dx (D : TDd K mg x st dvs) (S : FnScope N ps (defScope st)) (hd : dvs ≠ []) (hn : n + dvs.length = ps.length) (b0 : BindD x x st dvs ps.length dvs.length ps) (b1 : BindD x x st dvs n 0 ps) (len : ∀ vs H Q E, sp vs H Q E → vs.length = ps.length) (body : BodyX P w K mg base x st N k sp) : Dnd P w K mg base (L2.CX P w) (k + 1) x dvs sp := by
  obtain ⟨f, fd, F, hm⟩ := D.ex
  obtain ⟨q0, ds, v, q1⟩ := fund_b F hd hn b0 b1
  exact ⟨f, fd, ps, ds, F.ok S len fun cdv A outer s H vs Q E hr h => body f cdv A outer s H vs Q E hr h, hm, F.kp, q0, v, q1⟩
end
section
variable {X : Cx} {CX : CXT} {k j : Nat} {sp : Sp} {dvs : List V} {E : XK} {x : Str} {p pos : Pos} {e : Expr} {es : List Expr} {t : TA}
/-- f(e, ..): every parameter is written -/
theorem pe_dd (d : Dnd X.prog X.w X.K X.mg X.base CX k x dvs sp) (hr : Room j X.A) (hk : k ≤ j) (hx : Passes CX X E) (hg : Gl X x) (ha : PA X (e :: es) t) (hdb : (x == ("__debug__" : Str)) = false := by decide)
    (he : starEach (e :: es) X.env = (false, eval e X.env) :: starEach es X.env := by rfl) (hpl : (backTo pos (starEach es X.env)).any (·.1) = false := by rfl) : PE X (.Call (.Name x p) (e :: es) [] pos) (tCall sp [] E t) := by
  obtain ⟨f, fd, ps, ds, F, hm, hkp, hb, _, _⟩ := d.ex
  exact pe_call F (hr.mono hk) hg hm hkp hb .nil hx ha hdb he hpl
/-- f(e, ..): the last ones are the defaults -/
theorem pe_ddd (d : Dnd X.prog X.w X.K X.mg X.base CX k x dvs sp) (hr : Room j X.A) (hk : k ≤ j) (hx : Passes CX X E) (hg : Gl X x) (ha : PA X (e :: es) t) (hdb : (x == ("__debug__" : Str)) = false := by decide)
    (he : starEach (e :: es) X.env = (false, eval e X.env) :: starEach es X.env := by rfl) (hpl : (backTo pos (starEach es X.env)).any (·.1) = false := by rfl) : PE X (.Call (.Name x p) (e :: es) [] pos) (tCall sp dvs E t) := by
  obtain ⟨f, fd, ps, ds, F, hm, hkp, _, hv, hb⟩ := d.ex
  exact pe_call F (hr.mono hk) hg hm hkp hb hv hx ha hdb he hpl
end
end UX
set_option Elab.async false
set_option linter.all false
set_option maxRecDepth 100000
set_option maxHeartbeats 4000000
/-! for x in o: o's own __iter__ hands back an iterator over a list, which is tracked -/
namespace UX
open PySem PySem.Spec PyProof.Rows L2 UL UV UW ClX
/-- what a loop over a tracked iterator wants -/
def FO (K : PySem.W.Frag) (g : TG) (tb : TS) (D : Ends) (σ : L2.St) (it l : Addr) (zs : List V) (H : Hp) : Prop := H it = some (ItO l it 0) ∧ ∃ Pv : Nat → L2.St → Hp → Prop, Pv 0 σ H ∧
  (∀ i σ H, i ≤ zs.length → Pv i σ H → H it = some (ItO l it i) ∧ SqL K H l zs) ∧
  (∀ i x σ H, zs[i]? = some x → Pv i σ H → g x σ (upd H it (ItO l it (i + 1))) fun σ2 H3 => tb { D with nx := Pv (i + 1), ct := Pv (i + 1), bk := D.nx } σ2 H3) ∧
  ∀ σ H, Pv zs.length σ H → D.nx σ (upd H it Gone)
end UX
set_option Elab.async false
set_option linter.all false
set_option maxRecDepth 100000
set_option maxHeartbeats 4000000
/-! list(d.items()), d a dict whose keys are tuples -/
namespace UX
open PySem PySem.Spec PyProof.Rows L2 L2.DX UL UV UW ClX
section
variable {X : Cx} {pins : List (Addr × Obj)} {σ : L2.St} {H : Hp} {s : Shared} {d : Addr}
/-- the entries of such a dict -/
theorem dtEnt {kvs : List (List Key × V)} (I : Inv X pins σ H s) (h : H d = some (.dT kvs)) :
    (d == sysModules) = false ∧ kvs.length ≤ sizeLine ∧ ∃ (es : Array DictEntry) (ep : Nat), DT.Raw s.heap d es ep ∧ es.size = kvs.length ∧
      ∀ (i : Nat) (k : List Key) (v : V), kvs[i]? = some (k, v) → ∃ (en : DictEntry) (q : Addr), es[i]? = some en ∧ en.key = .ref q ∧ H q = some (.tup (k.map kV)) ∧ RelV v en.val := by
  obtain ⟨z, hs, xs, pr, o', es, ep, ho, hx, hdt, he, _⟩ := dt_of I.hok h
  refine ⟨hs, z, es, ep, ⟨_, ho, hx, hdt⟩, ?_, fun i k v e => ?_⟩
  · have l1 : es.size = xs.length := size_of_entries he
    have l2 : kvs.length = xs.length := Paired.length pr
    omega
  · obtain ⟨b, hb, e1, e2, e3⟩ := paired_get pr e
    have q := entry_at he i
    rw [hb] at q
    exact ⟨_, b.2.1, q, rfl, e2, e3⟩
def rListItT : List V → Hp → VK → Prop := fun vs H Q => ∃ (p a : Addr) (kvs : List (List Key × V)), vs = [.ref p] ∧ H p = some (itemsO p a) ∧ H a = some (.dT kvs) ∧
  ∀ (l : Addr) (ts : List Addr) (H' : Hp), H l = none → (∀ t ∈ ts, H t = none) → H' l = some (.lst (ts.map V.ref)) → Paired (fun (t : Addr) (kv : List Key × V) => ∃ q, H q = some (.tup (kv.1.map kV)) ∧ H' t = some (.tup [.ref q, kv.2])) ts kvs → Same H H' → Q (.ref l) H'
theorem call_listItT (hc : X.calm = true) : CallR X (.type "list") rListItT := by
  intro pins s σ H xs us Q I rv h
  obtain ⟨p, a, kvs, e, hp, ha, q⟩ := h
  subst e
  obtain rfl := Vals.ref1 rv
  have hv : s.heap.IsItemsView p a := (I.hok p _ hp).1
  obtain ⟨hs, hz, es, ep, raw, hsz, ent⟩ := dtEnt I ha
  have hh : X.A.handled = none := I.ok.hd hc
  refine callType_codes (Q₁ := fun obj s₁ => obj = .ref s.heap.objs.size ∧ s₁ = { s with heap := s.heap.push { cls := .type "list", data := .seq #[] } }) PySem.F.called_list (PySem.F.typeCall_list_1 _) PySem.F.entry_list_init (code_list_new _ ⟨rfl, rfl⟩) fun obj s₁ h₁ => ?_
  obtain ⟨e1, e2⟩ := h₁
  subst e1 e2
  have fr : H s.heap.objs.size = none := I.fresh
  have newS : (s.heap.push { cls := .type "list", data := .seq #[] }).get? s.heap.objs.size = some { cls := .type "list", data := .seq #[] } := Heap.get?_push_size _ rfl
  refine ⟨⟨_, newS, rfl⟩, PySem.F.args_list_init_2 _ _, ?_⟩
  show wpAny _ _ (Builtin.List.listItems (.ref s.heap.objs.size) >>= fun old => Builtin.List.listUpdate (.ref s.heap.objs.size) (fun _ => #[]) >>= fun _ => letGo old.toList.reverse >>= fun _ => Builtin.List.listExtendWith (.ref s.heap.objs.size) (.ref p) .none) _ _ _
  refine wpAny_bind (m := Builtin.List.listItems _) ?_; unfold Builtin.List.listItems; refine wpAny_bind (wpAny_seqItems newS rfl (wpAny_pure ?_))
  refine wpAny_bind (m := updateSeq s.heap.objs.size (fun _ => #[])) (wpAny_updateSeq newS rfl (wpAny_bind (wpAny_letGo ?_)))
  have pu := Heap.get?_update_self (Obj.mapSeq (fun _ => (#[] : Array Value))) newS rfl
  have low : ∀ b o, s.heap.get? b = some o → b ≠ s.heap.objs.size := fun b o g => Nat.ne_of_lt (Heap.lt_size g)
  have upK : ∀ b o, s.heap.get? b = some o → ((s.heap.push { cls := .type "list", data := .seq #[] }).update s.heap.objs.size (Obj.mapSeq (fun _ => (#[] : Array Value)))).get? b = some o := fun b o g =>
    (Heap.get?_update_other _ _ (Ne.symm (low b o g))).trans (Heap.get?_push_of_some _ g)
  obtain ⟨vo, vg, vr⟩ := id hv
  obtain ⟨ro, rg, rr⟩ := id raw
  refine DT.extI (A := X.A.in1) (s := { s with heap := (s.heap.push { cls := .type "list", data := .seq #[] }).update s.heap.objs.size (Obj.mapSeq (fun _ => (#[] : Array Value))) }) (es := es) (ep := ep) (d := a) (r := p) hh ⟨vo, upK _ _ vg, vr⟩ ⟨ro, upK _ _ rg, rr⟩ s.heap.objs.size (Ne.symm (low _ _ vg)) (low _ _ rg) .none _ pu (fun h' tk acc c as keep eS lenA made eacc => ?_) (by omega)
  have keep0 : ∀ b o, s.heap.get? b = some o → h'.get? b = some o := fun b o g => keep b o (low b o g) (upK b o g)
  have lenK : as.length = kvs.length := by omega
  have accV : acc = (as.map Value.ref).toArray := by rw [← eacc, Array.toArray_toList]
  have I1 : Inv X pins σ (upd H s.heap.objs.size (.lst (as.map V.ref))) { s with heap := h', toks := tk } :=
    I.laid (t' := tk) keep0 (Nat.le_refl _) ⟨by rw [List.length_map]; omega, as.map Value.ref, c, LiI.vals_refs as, by rw [accV] at eS; exact eS⟩
  have big : ∀ t ∈ as, s.heap.objs.size < t := fun t ht => by
    have := made.above t ht
    have e0 : ((s.heap.push { cls := .type "list", data := .seq #[] }).update s.heap.objs.size (Obj.mapSeq (fun _ => (#[] : Array Value)))).objs.size = s.heap.objs.size + 1 := by
      rw [Heap.size_update, Heap.size_push]
    dsimp only at this
    rw [e0] at this
    exact Nat.lt_trans (Nat.lt_succ_self _) this
  have nd : as.Nodup := List.Pairwise.imp (fun {a b} (h : a < b) => Nat.ne_of_lt h) made.rise
  have free : ∀ t ∈ as, H t = none := fun t ht => I.hok.fresh (Nat.le_of_lt (big t ht))
  obtain ⟨H2, I2, k2, t2⟩ := takeT (P := fun t vs => ∃ (j : Nat) (k : List Key) (v : V) (q : Addr), as[j]? = some t ∧ kvs[j]? = some (k, v) ∧ H q = some (.tup (k.map kV)) ∧ vs = [.ref q, v]) I as _ I1 nd fun t ht => by
    obtain ⟨j, hj⟩ := List.mem_iff_getElem?.mp ht
    obtain ⟨e, ee, eg⟩ := made.pairs j t hj
    have jl : j < kvs.length := by have := (List.getElem?_eq_some_iff.mp hj).1; omega
    obtain ⟨en, qa, g1, g2, g3, g4⟩ := ent j kvs[j].1 kvs[j].2 (List.getElem?_eq_getElem jl)
    rw [ee] at g1
    cases g1
    refine ⟨Nat.le_of_lt (big t ht), (upd_ne (Nat.ne_of_gt (big t ht))).trans (free t ht), [.ref qa, kvs[j].2], ⟨j, _, _, qa, hj, List.getElem?_eq_getElem jl, g3, rfl⟩, fun H2 => ⟨by show 2 ≤ sizeLine; decide, [e.key, e.val], .cons g2 (.cons g4 .nil), ⟨_, eg, rfl, _, rfl⟩⟩⟩
  have sH : Same H H2 := fun b o e => k2 b o ((upd_ne (ne_of_none e fr)).trans e)
  refine ⟨rfl, .ref s.heap.objs.size, H2, I2, rfl, q s.heap.objs.size as H2 fr free (k2 _ _ upd_same) ?_ sH⟩
  have pr : ∀ (as' : List Addr) (kvs' : List (List Key × V)), as'.length = kvs'.length → (∀ (j : Nat) (t : Addr), as'[j]? = some t → ∃ (k : List Key) (v : V) (q : Addr), kvs'[j]? = some (k, v) ∧ H q = some (.tup (k.map kV)) ∧ H2 t = some (.tup [.ref q, v])) → Paired (fun (t : Addr) (kv : List Key × V) => ∃ q, H q = some (.tup (kv.1.map kV)) ∧ H2 t = some (.tup [.ref q, kv.2])) as' kvs' := by
    intro as'
    induction as' with
    | nil => intro kvs' hl _; cases kvs' with | nil => exact .nil | cons _ _ => cases hl
    | cons t r ih =>
      intro kvs' hl hx
      cases kvs' with
      | nil => cases hl
      | cons kv r' =>
        obtain ⟨k, v, q', e1, e2, e3⟩ := hx 0 t rfl
        cases e1
        exact .cons ⟨q', e2, e3⟩ (ih r' (by simpa using hl) fun j t' hj => by simpa using hx (j + 1) t' (by simpa using hj))
  refine pr as kvs lenK fun j t hj => ?_
  obtain ⟨vs, ⟨j', k, v, q', f1, f2, f3, f4⟩, f5⟩ := t2 t (List.mem_of_getElem? hj)
  have ej : j' = j := (List.getElem?_inj (by have := (List.getElem?_eq_some_iff.mp f1).1; exact this) nd).mp (f1.trans hj.symm)
  subst ej f4
  exact ⟨k, v, q', f2, f3, f5⟩
end
end UX
set_option Elab.async false
set_option linter.all false
set_option maxRecDepth 100000
set_option maxHeartbeats 4000000
/-! list(d) and {k: v}, dicts whose keys are tuples -/
namespace UX
open PySem PySem.Spec PyProof.Rows L2 L2.DX UL UV UW ClX
section
variable {X : Cx}
/-- {k: v}, k a tuple -/
def tDisp1T (tk tv : TE) : TE := fun σ H Q => ∀ p, H p = none → tk σ (upd H p (.dT [])) fun x H1 => tv σ H1 fun y H2 => H2 p = some (.dT []) ∧ ∃ (b : Addr) (ks : List Key), x = .ref b ∧ H2 b = some (.tup (ks.map kV)) ∧ Q (.ref p) (upd H2 p (.dT [(ks, y)]))
theorem pe_disp1T {k v : Expr} {pos : Pos} {tk tv : TE} (hu : X.A.units + 1 < cLine) (hk : PE X k tk) (hv : PE X v tv) : PE X (.Dict [some k] [v] pos) (tDisp1T tk tv) := by
  refine ⟨fun pins s σ H Q I q => ?_⟩
  have hn := I.hok.fresh (Nat.le_refl s.heap.objs.size)
  have I1 := I.laid (a := s.heap.objs.size) (o := .dT []) (h' := s.heap.push { cls := .type "dict", data := .dict #[] }) (t' := s.toks) (fun _ _ q => Heap.get?_push_of_some _ q) (Nat.le_refl _) (dt_empty s.heap I.big)
  rw [arm_eval_Dict, show (evalEachOpt [some k] X.env).zip ((evalEach [v] X.env).map fun v => do let x ← v; standAt pos; pure x) = ([(eval k X.env, do let x ← eval v X.env; standAt pos; pure x)] : List (Sem Value × Sem Value)).map (fun p => (some p.1, p.2)) from rfl, dictDisplay_pairs _ (by simp) (by simp)]
  refine wpAny_bind (wpAny_standAt (wpAny_bind (wpAny_subDictH (knd := tupleKind (mixKind X.prog X.w)) (Q := fun d s' => wpAny (model X.prog X.w) X.A (pure (Value.ref d)) (EP X pins σ Q) X.xe s') (show X.A.units < cLine by omega) (by simp) ?_)))
  refine thn ((pps_cons hk hv pps_nil).run pins _ σ _ (fun ps H2 => match ps with
    | [(x, y)] => H2 s.heap.objs.size = some (.dT []) ∧ ∃ (b : Addr) (ks : List Key), x = .ref b ∧ H2 b = some (.tup (ks.map kV)) ∧ Q (.ref s.heap.objs.size) (upd H2 s.heap.objs.size (.dT [(ks, y)]))
    | _ => False) I1 (q _ hn)) fun vs s1 ⟨ps, H2, I2, rel, q2⟩ => ?_
  rcases ps with _ | ⟨⟨x, y⟩, _ | ⟨p2, r2⟩⟩
  · exact q2.elim
  · obtain ⟨ed, b, ks, ex, eb, q3⟩ := q2
    obtain ⟨kv, rfl, rk⟩ : ∃ kv, vs = [kv] ∧ (RelV x kv.1 ∧ RelV y kv.2) := by
      cases rel with
      | cons h t => cases t; exact ⟨_, rfl, h⟩
    obtain ⟨key, val⟩ := kv
    obtain ⟨rx, ry⟩ := rk
    subst ex
    obtain rfl : key = Value.ref b := rx
    obtain ⟨z, hd, xs, kt, dd⟩ := dt_of I2.hok ed
    obtain rfl : xs = [] := by cases kt; rfl
    refine ⟨[(ks, b, val)], ⟨rfl, rfl, key_of I2.hok eb, trivial⟩, dd, fun h' tk' dd' hs => ?_⟩
    have nb : b ≠ s.heap.objs.size := fun z => by rw [z, ed] at eb; cases eb
    have dd2 : h'.DictOfH (tupleKind (mixKind X.prog X.w)) s.heap.objs.size [(ks, b, val)] := dd'
    obtain ⟨o, es, ep, h1, h2, h3, h4, _, h5⟩ := dd2
    have kt : KT (upd H2 s.heap.objs.size (.dT [(ks, y)])) [(ks, y)] [(ks, b, val)] := .cons ⟨rfl, (upd_ne nb).trans eb, ry⟩ .nil
    have ok : ObjOk X.prog X.w (upd H2 s.heap.objs.size (.dT [(ks, y)])) h' s.heap.objs.size (.dT [(ks, y)]) := ⟨by rw [sizeLine_eq]; exact Nat.le_of_ble_eq_true rfl, hd, _, kt, o, es, ep, h1, h2, h3, h4, h5⟩
    have I3 : Inv X pins σ (upd H2 s.heap.objs.size (.dT [(ks, y)])) { s1 with heap := h', toks := tk' } := d_write I2 (by rw [ed]; exact True.intro) hs ⟨o, h1⟩ ok
    exact wpAny_pure ⟨.ref s.heap.objs.size, _, I3, rfl, q3⟩
  · exact q2.elim
end
end UX
set_option Elab.async false
set_option linter.all false
set_option maxRecDepth 100000
set_option maxHeartbeats 4000000
set_option pp.deepTerms true
set_option pp.maxSteps 400000
namespace U
open PySem PySem.Spec PyProof.Rows L2 UL UX
local macro_rules | `(tactic| walk_at "rd") => `(tactic| simp only [sMatch, tJs, tFmt, tBC, tMethA, tMakeL, iEnumS, tSeq, tAsg, tOp, tCB, tCons, tNil, tVar, tC, tB, tTest, tNot, tIfS, tNext, tYes, tUn, rU, tM0, tGFrom, tGThen, tG0, tYfLst, gcxK, tSubO, tProp, tListG, tMethG, tBMF, tFld, sFld, tMeth, tMake, tSl, tNoPart, tPart, tM1, gTup, gCons, gNil, tDrop, tFor_eq, tLc_eq, tLc2_eq, iRng1_eq, StX.tStar, iList, iTup, iStr, iAny_var, iZipB, tLenSetS, wipe, tVar, tAndV, tOrV, tNotV, tOr, tAnd, tLst, tTup, tBM, tBM0, tChain, tCall, cxK, noxK, addII, addSS, mulII, eqII, neII, neSS, cIntI, cAbsI, rI, rI0, rLt, rLe, rGt_, rGe_, rSub_, rMod, rPow, rDivW, rNeg, gName, tRet, L2.start, List.length_cons, List.length_nil, List.map_cons, List.map_nil, List.replicate, List.cons_append, List.nil_append, List.getElem?_cons_zero, List.getElem?_cons_succ, List.set_cons_zero, List.set_cons_succ, Option.some.injEq, exists_eq_left', exists_eq_left, V.int.injEq, V.bl.injEq, V.str.injEq, V.ref.injEq, V.ty.injEq, List.cons.injEq, and_true, true_and, reduceCtorEq, false_and, exists_false, or_false, false_or, exists_and_left, exists_and_right, List.append_nil, forall_eq, decide_eq_true_eq, Bool.not_eq_true, Nat.reduceAdd, Nat.reduceSub, List.replicate_zero, List.replicate_succ, Nat.zero_le, ite_true, ite_false, if_true, if_false])
section
variable {P : Program} {w : World} {K : PySem.W.Frag} {mg : Str → Option Value} {base : Heap}
open UV UW NdefX ClX LamX
variable {R Wr B Pg Sy IC IS UC UP Mc IT Iv OR : Addr}
/-! rows of programs, found layer by layer -/
/-- the row that leads to a state -/
def rowAt (R : List (List Int × List Str)) (s : List Int) : Option (List Str) := (R.find? fun r => decide (r.1 = s)).map (·.2)
def visN (f : Str → List Int → List Int) (s : List Int) (acc : List (List Int × List Str) × List (List Int)) (n : Str) : List (List Int × List Str) × List (List Int) :=
  if (rowAt acc.1 (f n s)).isSome = true then acc else (acc.1 ++ [(f n s, (rowAt acc.1 s).getD [] ++ [n])], acc.2 ++ [f n s])
def visS (f : Str → List Int → List Int) (kn : List Str) (acc : List (List Int × List Str) × List (List Int)) (s : List Int) : List (List Int × List Str) × List (List Int) := kn.foldl (visN f s) acc
def layer (f : Str → List Int → List Int) (kn : List Str) (R : List (List Int × List Str)) (nw : List (List Int)) : List (List Int × List Str) × List (List Int) := nw.foldl (visS f kn) (R, [])
def bfs (f : Str → List Int → List Int) (kn : List Str) : Nat → List (List Int × List Str) → List (List Int) → List (List Int × List Str)
  | 0, R, _ => R
  | _ + 1, R, [] => R
  | k + 1, R, s :: r => bfs f kn k (layer f kn R (s :: r)).1 (layer f kn R (s :: r)).2
/-- what stays true of the rows and of the newest states -/
structure RwsOk (S : List (List Int)) (R : List (List Int × List Str)) (nw : List (List Int)) : Prop where
  nd : (R.map (·.1)).Nodup
  mem : ∀ r ∈ R, r.1 ∈ S
  nw : ∀ s ∈ nw, s ∈ R.map (·.1)
  le : ∀ r ∈ R, r.2.length + 1 ≤ R.length
theorem rowAt_none {R : List (List Int × List Str)} {s : List Int} : rowAt R s = none ↔ s ∉ R.map (·.1) := by
  unfold rowAt
  rw [Option.map_eq_none_iff, List.find?_eq_none]
  exact ⟨fun h hm => by obtain ⟨q, hq, e⟩ := List.mem_map.mp hm; exact h q hq (by simpa using e), fun h q hq e => h (List.mem_map.mpr ⟨q, hq, by simpa using e⟩)⟩
theorem rowAt_some {R : List (List Int × List Str)} {s : List Int} {w : List Str} (h : rowAt R s = some w) : (s, w) ∈ R := by
  unfold rowAt at h
  obtain ⟨q, hq, e⟩ := Option.map_eq_some_iff.mp h
  have h1 := List.mem_of_find?_eq_some hq
  have h2 : q.1 = s := by simpa using List.find?_some hq
  rw [← h2, ← e]; exact h1
theorem RwsOk.vis {f : Str → List Int → List Int} {S : List (List Int)} {R : List (List Int × List Str)} {nw : List (List Int)} {s : List Int} {n : Str} (h : RwsOk S R nw) (hs : s ∈ R.map (·.1)) (hf : f n s ∈ S) : RwsOk S (visN f s (R, nw) n).1 (visN f s (R, nw) n).2 := by
  unfold visN
  split
  · exact h
  · rename_i hn
    have hn2 : rowAt R (f n s) = none := by
      cases e : rowAt R (f n s) with
      | none => rfl
      | some _ => exact absurd (by show (rowAt R (f n s)).isSome = true; rw [e]; rfl) hn
    obtain ⟨w, hw⟩ : ∃ w, rowAt R s = some w := by
      cases e : rowAt R s with
      | none => exact absurd hs (rowAt_none.mp e)
      | some w => exact ⟨w, rfl⟩
    refine ⟨?_, fun r hr => ?_, fun t ht => ?_, fun r hr => ?_⟩
    · rw [List.map_append]
      refine List.nodup_append.mpr ⟨h.nd, by simp, fun a ha b hb e => rowAt_none.mp hn2 ?_⟩
      have : b = f n s := by simpa using hb
      exact this ▸ e ▸ ha
    · rcases List.mem_append.mp hr with z | z
      · exact h.mem r z
      · rw [List.mem_singleton.mp z]; exact hf
    · rw [List.map_append]
      rcases List.mem_append.mp ht with z | z
      · exact List.mem_append_left _ (h.nw t z)
      · rw [List.mem_singleton.mp z]; exact List.mem_append_right _ (by simp)
    · rw [List.length_append]
      rcases List.mem_append.mp hr with z | z
      · exact Nat.le_trans (h.le r z) (Nat.le_add_right _ _)
      · have := h.le _ (rowAt_some hw)
        rw [List.mem_singleton.mp z]
        dsimp only
        rw [hw, Option.getD_some, List.length_append]
        simp only [List.length_cons, List.length_nil] at this ⊢
        exact Nat.succ_le_succ this
theorem visN_sub {f : Str → List Int → List Int} {acc : List (List Int × List Str) × List (List Int)} {s t : List Int} {n : Str} (h : t ∈ acc.1.map (·.1)) : t ∈ (visN f s acc n).1.map (·.1) := by
  unfold visN
  split
  · exact h
  · rw [List.map_append]; exact List.mem_append_left _ h
theorem visN_len {f : Str → List Int → List Int} {acc : List (List Int × List Str) × List (List Int)} {s : List Int} {n : Str} {c : Nat} (h : acc.1.length = c + acc.2.length) : (visN f s acc n).1.length = c + (visN f s acc n).2.length := by
  unfold visN
  split
  · exact h
  · rw [List.length_append, List.length_append, h]; simp only [List.length_cons, List.length_nil]; omega
end
end U
set_option Elab.async false
set_option linter.all false
set_option maxRecDepth 100000
set_option maxHeartbeats 4000000
set_option pp.deepTerms true
set_option pp.maxSteps 400000
namespace U
open PySem PySem.Spec PyProof.Rows L2 UL UX
local macro_rules | `(tactic| walk_at "rd") => `(tactic| simp only [sMatch, tJs, tFmt, tBC, tMethA, tMakeL, iEnumS, tSeq, tAsg, tOp, tCB, tCons, tNil, tVar, tC, tB, tTest, tNot, tIfS, tNext, tYes, tUn, rU, tM0, tGFrom, tGThen, tG0, tYfLst, gcxK, tSubO, tProp, tListG, tMethG, tBMF, tFld, sFld, tMeth, tMake, tSl, tNoPart, tPart, tM1, gTup, gCons, gNil, tDrop, tFor_eq, tLc_eq, tLc2_eq, iRng1_eq, StX.tStar, iList, iTup, iStr, iAny_var, iZipB, tLenSetS, wipe, tVar, tAndV, tOrV, tNotV, tOr, tAnd, tLst, tTup, tBM, tBM0, tChain, tCall, cxK, noxK, addII, addSS, mulII, eqII, neII, neSS, cIntI, cAbsI, rI, rI0, rLt, rLe, rGt_, rGe_, rSub_, rMod, rPow, rDivW, rNeg, gName, tRet, L2.start, List.length_cons, List.length_nil, List.map_cons, List.map_nil, List.replicate, List.cons_append, List.nil_append, List.getElem?_cons_zero, List.getElem?_cons_succ, List.set_cons_zero, List.set_cons_succ, Option.some.injEq, exists_eq_left', exists_eq_left, V.int.injEq, V.bl.injEq, V.str.injEq, V.ref.injEq, V.ty.injEq, List.cons.injEq, and_true, true_and, reduceCtorEq, false_and, exists_false, or_false, false_or, exists_and_left, exists_and_right, List.append_nil, forall_eq, decide_eq_true_eq, Bool.not_eq_true, Nat.reduceAdd, Nat.reduceSub, List.replicate_zero, List.replicate_succ, Nat.zero_le, ite_true, ite_false, if_true, if_false])
section
variable {P : Program} {w : World} {K : PySem.W.Frag} {mg : Str → Option Value} {base : Heap}
open UV UW NdefX ClX LamX
variable {R Wr B Pg Sy IC IS UC UP Mc IT Iv OR : Addr}
/-! known programs of a system -/
abbrev s_System_known : Stmt := inClass (top 47) 6
abbrev sc_System_known_N : List Str := ["self", "names", ".0", "name"]
theorem sc_System_known : FnScope sc_System_known_N ["self", "names"] (defScope s_System_known) := ⟨rfl, rfl, rfl, by decide +kernel, rfl, by decide +kernel, by decide +kernel⟩
-- 0 self, 1 names, 2 .0, 3 name
/-- names of programs as they are handed in: None, or a list or tuple -/
def NmA (K : PySem.W.Frag) (H : Hp) (v : V) (o : Option (List Str)) : Prop := (v = .non ∧ o = none) ∨ ∃ l ns, v = .ref l ∧ o = some ns ∧ SqA K H l (ns.map V.str)
/-- the known names -/
def knN (ps : List Str) : Option (List Str) → List Str
  | none => ps
  | some ns => ps.filter fun n => decide (n ∈ ns)
def unkO (ps : List (Str × Addr)) (o : Option (List Str)) : Option Str := unkN ps (o.getD [])
def sp_known (K : PySem.W.Frag) (Sy UP : Addr) : Sp := fun vs H Q E => ∃ (y pd ad nn dy : Addr) (v : V) (cs : List Str) (ps : List (Str × Addr)) (as : List (Str × Nat)) (fs : List (Str × V)) (o : Option (List Str)), vs = [.ref y, v] ∧ Yo H Sy y cs pd ad ps as ∧ H y = some (.ins Sy dy fs) ∧ fs.lookup ("names" : Str) = some (.ref nn) ∧ FT H nn (ps.map fun q => V.str q.1) ∧ ps.length ≤ 4 ∧ (∀ q ∈ ps, q.1.length ≤ 1000) ∧
  NmA K H v o ∧ (∀ n ∈ o.getD [], n.length ≤ 1000) ∧ (o.getD []).length ≤ 1000 ∧ (∀ n, unkO ps o = some n → X1 UP "name" (.str n) H E) ∧ (unkO ps o = none → ∀ l H', Same H H' → H' l = some (.lst ((knN (ps.map (·.1)) o).map V.str)) → Q (.ref l) H')
theorem m_known (T : SyX K mg R Wr B Pg Sy IS UC UP) (D : MD K Sy "known" "System.known" s_System_known) (m_check_programs : Mn P w K mg base (L2.CX P w) 4 Sy "check_programs" (sp_chkps K Sy UP)) : Mn P w K mg base (L2.CX P w) 5 Sy "known" (sp_known K Sy UP) := by
  refine D.mx sc_System_known (fun _ _ _ _ _ _ us hl => match us, hl with | [_, _], _ => rfl) (fun vs H Q E h => ?_) (fun f cdv A outer s H vs Q E hr h => ?_)
  · obtain ⟨y, pd, ad, nn, dy, v, cs, ps, as, fs, o, rfl, _⟩ := h; rfl
  · obtain ⟨y, pd, ad, nn, dy, v, cs, ps, as, fs, o, rfl, hy, hd, hf, hn, p4, pn, hv, on, ol, qx, q⟩ := h
    refine ⟨_, (pss_cons (ps_if (pt_cmpR op_isNone (pv 1) pe_non (nomark _)) (pss_one (ps_ret (pe_callTy call_listA (by rfl) T.n_list (by decide +kernel) (pa_cons (pe_fld (pv 0) (by rfl)) pa_nil)))) pss_nil)
      (pss_cons (ps_expr (pe_m m_check_programs T.cls hr (by decide) (passes_call (takes_of rfl rfl rfl rfl) (fun _ _ _ _ h => h)) (pv 0) (pa_cons (pv 1) pa_nil)))
      (pss_one (ps_ret (pe_lc (own := [(".0", 2), ("name", 3)]) (g := (gName 3)) (tt := _) rfl sc_System_known.nd (pi_tup (pe_fldK K rfl (pv 0) (by rfl))) (blkOk_by (N := sc_System_known_N) (sc := defScope s_System_known) (by decide +kernel)) (fun _ _ _ _ _ => pg_name (i := 3) sc_System_known.nd rfl (Or.inl rfl)) (fun _ _ _ _ _ => pts_one (pt_cmpR (op_inK K rfl) (pv 3) (pv 1) (by with_unfolding_all rfl))) (fun _ _ _ _ _ => (pv 3))))))), ?_⟩
    walk_at "rd"
    have hm : (ps.map fun q => V.str q.1) = (ps.map (·.1)).map V.str := by rw [List.map_map]; rfl
    rcases hv with ⟨rfl, rfl⟩ | ⟨l, ns, rfl, rfl, kd, hl⟩
    · refine ⟨rfl, true, rfl, ?_⟩
      rw [if_pos rfl]
      refine ⟨Sy, dy, fs, hd, T.cls, T.s_names, .ref nn, hf, nn, _, rfl, .inr (FT.sq hn), fun D hD => q rfl D _ (UL.Same.new hD) ?_⟩
      rw [upd_same, hm]; rfl
    · refine ⟨rfl, false, rfl, ?_⟩
      rw [if_neg (by decide)]
      obtain ⟨⟨dy2, cc, fy, y1, y2, y3, y4, y5, y9⟩, y6, y7, y8⟩ := id hy
      refine ⟨dy2, fy, y1, y9 _ (by simp), y, pd, ad, l, cs, ps, as, ns, rfl, hy, ⟨kd, hl⟩, on, qx, fun hk => ?_⟩
      refine ⟨Sy, dy, fs, hd, T.cls, T.s_names, .ref nn, hf, nn, rfl, ⟨_, FT.sq hn⟩, fun D hD => ?_⟩
      refine LJ.it (walk_tup (xs := (ps.map (·.1)).map V.str)) (fun i H' => H' D = some (.lst ((((ps.map (·.1)).take i).filter fun n => decide (n ∈ ns)).map V.str)) ∧ Same H H') ⟨upd_same, UL.Same.new hD⟩ (fun i H' _ inv => UL.Same.sqT inv.2 (hm ▸ FT.sq hn)) (fun i x H' H2 hi inv y => ?_) fun H' inv => q hk D H' inv.2 ?_
      · obtain ⟨rfl, hx⟩ := y
        obtain ⟨z, rfl, hz⟩ := map_at hx
        obtain ⟨e, s1⟩ := inv
        refine ⟨rfl, ?_⟩
        walk_at "rd"
        refine .inr ⟨l, _, rfl, Kd.or (Kd.same s1 hl), rfl, flat_strs ns, ?_⟩
        rw [if_neg (by decide), inV_str]
        refine ⟨_, rfl, ?_⟩
        rw [List.take_add_one, hz, List.filter_append]
        by_cases c : z ∈ ns
        · rw [decide_eq_true c, if_pos rfl]
          refine ⟨_, e, ?_, ?_⟩
          · have := List.length_filter_le (fun n => decide (n ∈ ns)) ((ps.map (·.1)).take i)
            rw [List.length_take, List.length_map] at this
            rw [List.length_map, sizeLine_eq]
            omega
          · have e2 : (List.filter (fun n => decide (n ∈ ns)) (some z).toList) = [z] := by simp [c]
            rw [e2, List.map_append]
            exact ⟨upd_same, fun b o hb => (upd_ne (fun z => by rw [z, hD] at hb; cases hb)).trans (s1 b o hb)⟩
        · rw [decide_eq_false c, if_neg (by decide)]
          have e2 : (List.filter (fun n => decide (n ∈ ns)) (some z).toList) = [] := by simp [c]
          rw [e2, List.append_nil]
          exact ⟨e, s1⟩
      · rw [List.length_map, List.take_length] at inv
        exact inv.1
end
end U
set_option Elab.async false
set_option linter.all false
set_option maxRecDepth 100000
set_option maxHeartbeats 4000000
set_option pp.deepTerms true
set_option pp.maxSteps 400000
namespace U
open PySem PySem.Spec PyProof.Rows L2 UL UX
local macro_rules | `(tactic| walk_at "rd") => `(tactic| simp only [sMatch, tJs, tFmt, tBC, tMethA, tMakeL, iEnumS, tSeq, tAsg, tOp, tCB, tCons, tNil, tVar, tC, tB, tTest, tNot, tIfS, tNext, tYes, tUn, rU, tM0, tGFrom, tGThen, tG0, tYfLst, gcxK, tSubO, tProp, tListG, tMethG, tBMF, tFld, sFld, tMeth, tMake, tSl, tNoPart, tPart, tM1, gTup, gCons, gNil, tDrop, tFor_eq, tLc_eq, tLc2_eq, iRng1_eq, StX.tStar, iList, iTup, iStr, iAny_var, iZipB, tLenSetS, wipe, tVar, tAndV, tOrV, tNotV, tOr, tAnd, tLst, tTup, tBM, tBM0, tChain, tCall, cxK, noxK, addII, addSS, mulII, eqII, neII, neSS, cIntI, cAbsI, rI, rI0, rLt, rLe, rGt_, rGe_, rSub_, rMod, rPow, rDivW, rNeg, gName, tRet, L2.start, List.length_cons, List.length_nil, List.map_cons, List.map_nil, List.replicate, List.cons_append, List.nil_append, List.getElem?_cons_zero, List.getElem?_cons_succ, List.set_cons_zero, List.set_cons_succ, Option.some.injEq, exists_eq_left', exists_eq_left, V.int.injEq, V.bl.injEq, V.str.injEq, V.ref.injEq, V.ty.injEq, List.cons.injEq, and_true, true_and, reduceCtorEq, false_and, exists_false, or_false, false_or, exists_and_left, exists_and_right, List.append_nil, forall_eq, decide_eq_true_eq, Bool.not_eq_true, Nat.reduceAdd, Nat.reduceSub, List.replicate_zero, List.replicate_succ, Nat.zero_le, ite_true, ite_false, if_true, if_false])
section
variable {P : Program} {w : World} {K : PySem.W.Frag} {mg : Str → Option Value} {base : Heap}
open UV UW NdefX ClX LamX
local macro_rules | `(tactic| walk_at "rq") => `(tactic| (simp only [tDGet, tDIn, tDNotIn, sDPut, tTest, tB, StX.tStar]; walk_at "rd"))
variable {R Wr B Pg Sy IC IS UC UP Mc IT Iv OR : Addr}
/-! find_rows -/
abbrev s_find_rows : Stmt := top 11
abbrev sc_find_rows_N : List Str := ["run_alone", "known", "start", "rows", "newest", "reached", "state", "name", "end"]
theorem sc_find_rows : FnScope sc_find_rows_N ["run_alone", "known", "start"] (defScope s_find_rows) := ⟨rfl, rfl, rfl, by decide +kernel, rfl, by decide +kernel, by decide +kernel⟩
-- 0 run_alone, 1 known, 2 start, 3 rows, 4 newest, 5 reached, 6 state, 7 name, 8 end
/-- the rows as a dict holds them -/
def RowsH (H : Hp) (kvs : List (List Key × V)) (Rs : List (List Int × List Str)) : Prop := Paired (fun (kv : List Key × V) (r : List Int × List Str) => kv.1 = r.1.map Sum.inl ∧ ∃ t, kv.2 = .ref t ∧ H t = some (.tup (r.2.map V.str))) kvs Rs
theorem key_inj {a b : List Int} (h : (a.map Sum.inl : List Key) = b.map Sum.inl) : a = b := by
  have := congrArg (List.map fun k : Key => match k with | .inl i => i | .inr _ => 0) h
  simpa [List.map_map, Function.comp_def] using this
theorem RowsH.get {H : Hp} {s : List Int} : ∀ {kvs : List (List Key × V)} {Rs : List (List Int × List Str)}, RowsH H kvs Rs → (rowAt Rs s = none → valV kvs (s.map Sum.inl : List Key) = none) ∧ ∀ w, rowAt Rs s = some w → ∃ t, valV kvs (s.map Sum.inl : List Key) = some (.ref t) ∧ H t = some (.tup (w.map V.str))
  | _, _, .nil => ⟨fun _ => rfl, fun w h => nomatch h⟩
  | kv :: kr, r :: Rr, .cons f g => by
    obtain ⟨h1, h2⟩ := RowsH.get (s := s) g
    obtain ⟨f1, t, f2, f3⟩ := f
    by_cases e : r.1 = s
    · have a1 : rowAt (r :: Rr) s = some r.2 := by unfold rowAt; rw [List.find?_cons_of_pos (by simpa using e)]; rfl
      have a2 : valV (kv :: kr) (s.map Sum.inl : List Key) = some kv.2 := by unfold valV; rw [List.find?_cons_of_pos (by simpa using f1.trans (by rw [e]))]; rfl
      rw [a1, a2]
      refine ⟨fun h => (by cases h), fun w h => ?_⟩
      cases h
      exact ⟨t, by rw [f2], f3⟩
    · have a1 : rowAt (r :: Rr) s = rowAt Rr s := by unfold rowAt; rw [List.find?_cons_of_neg (by simpa using e)]
      have a2 : valV (kv :: kr) (s.map Sum.inl : List Key) = valV kr (s.map Sum.inl) := by unfold valV; rw [List.find?_cons_of_neg (by simp only [decide_eq_true_eq]; intro z; rw [f1] at z; exact e (key_inj z))]
      rw [a1, a2]
      exact ⟨h1, h2⟩
theorem RowsH.keep {H H' : Hp} {kvs : List (List Key × V)} {Rs : List (List Int × List Str)} (h : RowsH H kvs Rs) (k : ∀ b xs, H b = some (.tup xs) → H' b = some (.tup xs)) : RowsH H' kvs Rs := L2.Paired.mapP h fun _ _ ⟨a, t, b, c⟩ => ⟨a, t, b, k _ _ c⟩
/-- states as tuples -/
def TS (H : Hp) (ws : List Addr) (L : List (List Int)) : Prop := Paired (fun (t : Addr) (s : List Int) => H t = some (.tup (s.map V.int))) ws L
theorem TS.keep {H H' : Hp} {ws : List Addr} {L : List (List Int)} (h : TS H ws L) (k : ∀ b xs, H b = some (.tup xs) → H' b = some (.tup xs)) : TS H' ws L := L2.Paired.mapP h fun _ _ c => k _ _ c
theorem paired_at {α β : Type} {F : α → β → Prop} : ∀ {xs : List α} {ys : List β} {i : Nat} {x : α}, Paired F xs ys → xs[i]? = some x → ∃ y, ys[i]? = some y ∧ F x y
  | _, _, _, _, .nil, h => nomatch h
  | _, _, 0, _, .cons f g, h => by cases h; exact ⟨_, rfl, f⟩
  | _, _, i + 1, _, .cons f g, h => paired_at (i := i) g h
theorem paired_snoc {α β : Type} {F : α → β → Prop} {x : α} {y : β} (f : F x y) : ∀ {xs : List α} {ys : List β}, Paired F xs ys → Paired F (xs ++ [x]) (ys ++ [y])
  | _, _, .nil => .cons f .nil
  | _, _, .cons a b => .cons a (paired_snoc f b)
/-- what stays true while a layer is walked -/
structure AccOk (S nw : List (List Int)) (c : Nat) (acc : List (List Int × List Str) × List (List Int)) : Prop where
  ok : RwsOk S acc.1 acc.2
  sub : ∀ s ∈ nw, s ∈ acc.1.map (·.1)
  len : acc.1.length = c + acc.2.length
theorem AccOk.vis {f : Str → List Int → List Int} {S nw : List (List Int)} {c : Nat} {acc : List (List Int × List Str) × List (List Int)} {s : List Int} {n : Str} (h : AccOk S nw c acc) (hs : s ∈ nw) (hf : f n s ∈ S) : AccOk S nw c (visN f s acc n) :=
  ⟨h.ok.vis (h.sub s hs) hf, fun t ht => visN_sub (h.sub t ht), visN_len h.len⟩
theorem sub_len {α : Type} [DecidableEq α] : ∀ {a S : List α}, a.Nodup → (∀ x ∈ a, x ∈ S) → a.length ≤ S.length
  | [], _, _, _ => Nat.zero_le _
  | x :: r, S, nd, h => by
    have hx := h x List.mem_cons_self
    have nd' := List.nodup_cons.mp nd
    have h1 := sub_len (a := r) (S := S.erase x) nd'.2 fun y hy => (List.mem_erase_of_ne (fun e : y = x => nd'.1 (e ▸ hy))).mpr (h y (List.mem_cons_of_mem _ hy))
    rw [List.length_erase_of_mem hx] at h1
    have h2 := List.length_pos_of_mem hx
    rw [List.length_cons]
    omega
theorem RwsOk.size {S : List (List Int)} {Rs : List (List Int × List Str)} {nw : List (List Int)} (h : RwsOk S Rs nw) : Rs.length ≤ S.length := by
  have h1 := sub_len h.nd fun s hs => by
    obtain ⟨r, hr, rfl⟩ := List.mem_map.mp hs
    exact h.mem r hr
  rwa [List.length_map] at h1
theorem sts27 {s n : Nat} (h1 : s ≤ 3) (h2 : n ≤ 3) : (sts s n).length ≤ 1000 := by
  rw [sts_len]
  exact Nat.le_trans (Nat.pow_le_pow_left h1 n) (Nat.le_trans (Nat.pow_le_pow_right (by decide) h2) (by decide))
def AccH (H H' : Hp) (d r c : Addr) (ws0 : List Addr) (nw : List (List Int)) (acc : List (List Int × List Str) × List (List Int)) : Prop :=
  Same H H' ∧ H' c = some (.lst (ws0.map V.ref)) ∧ TS H' ws0 nw ∧ (∃ kvs, H' d = some (.dT kvs) ∧ RowsH H' kvs acc.1) ∧ ∃ ws, H' r = some (.lst (ws.map V.ref)) ∧ TS H' ws acc.2
theorem AccH.same {H H' H2 : Hp} {d r c : Addr} {ws0 : List Addr} {nw : List (List Int)} {acc : List (List Int × List Str) × List (List Int)} (h : AccH H H' d r c ws0 nw acc) (s : Same H' H2) : AccH H H2 d r c ws0 nw acc :=
  let ⟨a, b, e, ⟨kvs, f, g⟩, ws, i, j⟩ := h
  ⟨Same.tr a s, s _ _ b, e.keep fun _ _ z => s _ _ z, ⟨kvs, s _ _ f, g.keep fun _ _ z => s _ _ z⟩, ws, s _ _ i, j.keep fun _ _ z => s _ _ z⟩
/-- the rows that a start leads to -/
def Mw.rows (u : Mw) (kn : List Str) (st : List Int) : List (List Int × List Str) := bfs u.endS kn (sts u.sz u.cs.length).length [(st, [])] [st]
/-- what stays true of the walk over layers -/
def FrW (H : Hp) (u : Mw) (l b d : Addr) (kn : List Str) (st : List Int) (m : Nat) (σ' : L2.St) (H' : Hp) : Prop := ∃ (z5 z6 z7 z8 : Option V) (nl : Addr) (ws : List Addr) (Rs : List (List Int × List Str)) (nw : List (List Int)), σ' = [some (.ref u.m), some (.ref l), some (.ref b), some (.ref d), some (.ref nl), z5, z6, z7, z8] ∧ Same H H' ∧ H' nl = some (.lst (ws.map V.ref)) ∧ TS H' ws nw ∧ (∃ kvs, H' d = some (.dT kvs) ∧ RowsH H' kvs Rs) ∧ RwsOk (sts u.sz u.cs.length) Rs nw ∧ bfs u.endS kn m Rs nw = u.rows kn st ∧ (nw ≠ [] → (sts u.sz u.cs.length).length + 1 ≤ m + Rs.length)
def sp_frows (K : PySem.W.Frag) (Mc Sy : Addr) : Sp := fun vs H Q _ => ∃ (u : Mw) (l b : Addr) (kn : List Str) (st : List Int), vs = [.ref u.m, .ref l, .ref b] ∧ MW Mc Sy H u ∧ H l = some (.lst (kn.map V.str)) ∧ kn.length ≤ 4 ∧ (∀ n ∈ kn, valA u.ps n ≠ none ∧ n.length ≤ 1000) ∧ H b = some (.tup (st.map V.int)) ∧ st ∈ sts u.sz u.cs.length ∧
  (∀ d kvs H', Same H H' → H' d = some (.dT kvs) → RowsH H' kvs (u.rows kn st) → Q (.ref d) H')
theorem d_frows (T : Nm mg) (D : TD K mg "find_rows" s_find_rows) (Co_M : UX.Con P w K mg base (L2.CX P w) 5 Mc (sp_mcall K Mc Sy UP Iv)) : Dn P w K mg base (L2.CX P w) 6 "find_rows" (sp_frows K Mc Sy) := by
  refine D.dx sc_find_rows (fun _ _ _ _ _ _ us hl => match us, hl with | [_, _, _], _ => rfl) (fun vs H Q E h => ?_) (fun f cdv A outer s H vs Q E hr h => ?_)
  · obtain ⟨u, l, b, kn, st, rfl, _⟩ := h; rfl
  · obtain ⟨u, l, b, kn, st, rfl, hM, hl, hk4, hkn, hb, hst, q⟩ := h
    refine ⟨_, (pss_cons (ps_set (i := 3) sc_find_rows.nd rfl (Or.inl rfl) (UX.pe_disp1T (un1 hr.units) (pv 2) (pe_tup pa_nil)))
      (pss_cons (ps_set (i := 4) sc_find_rows.nd rfl (Or.inl rfl) (pe_lst (pa_cons (pv 2) pa_nil)))
      (pss_cons (ps_while (passes_of rfl) (pt_truth (pv 4) (fun _ => rfl)) (pss_cons (ps_set (i := 5) sc_find_rows.nd rfl (Or.inl rfl) (pe_lst pa_nil))
      (pss_cons (ps_for (passes_of rfl) rfl (pi_list (pe_callTy call_listA (by rfl) T.n_list (by decide +kernel) (pa_cons (pv 4) pa_nil))) (pg_name (i := 6) sc_find_rows.nd rfl (Or.inl rfl)) (pss_one (ps_for (passes_of rfl) rfl (pi_list (pv 1)) (pg_name (i := 7) sc_find_rows.nd rfl (Or.inl rfl)) (pss_cons (ps_set (i := 8) sc_find_rows.nd rfl (Or.inl rfl) (pe_callO (E := fun _ => E) Co_M hr (by decide) (i := 0) rfl (Or.inl rfl) (fun σ pins H s e s' I c => passes_call (takes_of rfl rfl rfl rfl) (fun _ _ _ _ h => h) pins σ H s e s' I c) (pa_cons (pv 7) (pa_cons (pv 6) pa_nil))))
      (pss_one (ps_if (pt_cmp (pc_dnotin (un1 hr.units) (pv 8) (pv 3)) (by with_unfolding_all rfl)) (pss_cons (ps_dput (un1 hr.units) (pv 3) (pv 8) (pe_tup (pa_starK K rfl (pe_dget (un1 hr.units) (pv 3) (pv 6) (fun _ _ => rfl)) (pa_cons (pv 7) pa_nil))) rfl)
      (pss_one (ps_expr (pe_bm PySem.F.plainAttrs_list PySem.F.slot_list_append PySem.F.type_list_append mt_append (pv 5) (pa_cons (pv 8) pa_nil))))) pss_nil))))))
      (pss_one (ps_set (i := 4) sc_find_rows.nd rfl (Or.inl rfl) (pv 5))))))
      (pss_one (ps_ret (pv 3)))))), ?_⟩
    walk_at "rd"
    have hone : 1 ≤ sizeLine := by rw [sizeLine_eq]; decide
    intro d hd
    have s1 : Same H (upd H d (.dT [])) := UL.Same.new hd
    have ekey : ∀ s : List Int, (s.map Sum.inl : List Key).map kV = s.map V.int := fun s => by rw [List.map_map]; rfl
    refine ⟨.ref b, rfl, ?_⟩
    walk_at "rd"
    intro tp htp
    have dtp : d ≠ tp := fun e => by rw [← e, upd_same] at htp; cases htp
    have btp : b ≠ tp := fun e => by rw [← e, s1 _ _ hb] at htp; cases htp
    have s2 : Same H (upd (upd H d (.dT [])) tp (.tup [])) := Same.tr s1 (UL.Same.new htp)
    refine ⟨(upd_ne dtp).trans upd_same, st.map Sum.inl, ?_, hone, fun nl hnl => ?_⟩
    · rw [ekey]; exact s2 _ _ hb
    have s3 : Same H (upd (upd (upd H d (.dT [])) tp (.tup [])) d (.dT [(st.map Sum.inl, .ref tp)])) := fun c o e => (upd_ne (fun z => by rw [z, hd] at e; cases e)).trans (s2 c o e)
    have s4 := Same.tr s3 (UL.Same.new (o := .lst [V.ref b]) hnl)
    have ed0 : upd (upd (upd (upd H d (.dT [])) tp (.tup [])) d (.dT [(st.map Sum.inl, .ref tp)])) nl (.lst [V.ref b]) d = some (.dT [(st.map Sum.inl, .ref tp)]) := (upd_ne (fun z => by rw [← z, upd_same] at hnl; cases hnl)).trans upd_same
    have et0 : upd (upd (upd (upd H d (.dT [])) tp (.tup [])) d (.dT [(st.map Sum.inl, .ref tp)])) nl (.lst [V.ref b]) tp = some (.tup []) := by
      rw [upd_ne (fun z => by rw [← z, upd_ne (Ne.symm dtp), upd_same] at hnl; cases hnl), upd_ne (Ne.symm dtp), upd_same]
    have en0 : upd (upd (upd (upd H d (.dT [])) tp (.tup [])) d (.dT [(st.map Sum.inl, .ref tp)])) nl (.lst [V.ref b]) nl = some (.lst [V.ref b]) := upd_same
    generalize upd (upd (upd (upd H d (.dT [])) tp (.tup [])) d (.dT [(st.map Sum.inl, .ref tp)])) nl (.lst [V.ref b]) = H0 at s4 ed0 et0 en0 ⊢
    clear s1 s2 s3 hnl htp
    have hN : (sts u.sz u.cs.length).length ≤ 1000 := sts27 hM.s3 hM.c3
    refine ⟨FrW H u l b d kn st,
      ⟨(sts u.sz u.cs.length).length, _, _, _, _, nl, [b], [(st, [])], [st], rfl, s4, en0, .cons (s4 _ _ hb) .nil, ⟨_, ed0, .cons ⟨rfl, tp, rfl, et0⟩ .nil⟩, ⟨by simp, fun r hr => by rw [List.mem_singleton.mp hr]; exact hst, fun s hs => by simpa using hs, fun r hr => by rw [List.mem_singleton.mp hr]; exact Nat.le_refl 1⟩, rfl, fun _ => Nat.le_refl _⟩, fun m σ' H' inv => ?_⟩
    obtain ⟨z5, z6, z7, z8, nl, ws, Rs, nw, rfl, sH, hnl, hws, ⟨kvs, hdk, hrows⟩, hok, hbfs, hfu⟩ := inv
    refine ⟨.ref nl, rfl, !(ws.map V.ref).isEmpty, .inl ⟨_, .inl (.inl hnl), rfl⟩, ?_⟩
    have lw := plenQ hws
    by_cases hw : nw = []
    · subst hw
      obtain rfl := List.length_eq_zero_iff.mp lw
      show ite _ _ _
      rw [if_neg (by decide)]
      walk_at "rd"
      exact q d kvs H' sH hdk (by rw [← hbfs]; cases m <;> exact hrows)
    have hsz := hok.size
    have h1 := hfu hw
    obtain ⟨m, rfl⟩ : ∃ k, m = k + 1 := ⟨m - 1, by omega⟩
    have hwne : (!(ws.map V.ref).isEmpty) = true := by
      cases ws with
      | nil => exact absurd (List.length_eq_zero_iff.mp lw.symm) hw
      | cons _ _ => rfl
    show ite _ _ _
    rw [if_pos hwne]
    refine ⟨_, fun σ2 H2 h2 => ⟨m, Nat.lt_succ_self m, h2⟩, ?_⟩
    walk_at "rd"
    intro r hr
    have hdr : d ≠ r := fun e => by rw [← e, hdk] at hr; cases hr
    have s5 : Same H' (upd H' r (.lst [])) := UL.Same.new hr
    refine ⟨nl, _, rfl, .inl (.inl (.inl (s5 _ _ hnl))), fun c hc => ?_⟩
    have s6 : Same H' (upd (upd H' r (.lst [])) c (.lst (ws.map V.ref))) := Same.tr s5 (UL.Same.new hc)
    have her : upd (upd H' r (.lst [])) c (.lst (ws.map V.ref)) r = some (.lst []) := (upd_ne (fun z => by rw [← z, upd_same] at hc; cases hc)).trans upd_same
    have hec : upd (upd H' r (.lst [])) c (.lst (ws.map V.ref)) c = some (.lst (ws.map V.ref)) := upd_same
    have hdc : d ≠ c := fun e => by rw [← e, s5 _ _ hdk] at hc; cases hc
    have hrc : r ≠ c := fun e => by rw [← e, upd_same] at hc; cases hc
    generalize upd (upd H' r (.lst [])) c (.lst (ws.map V.ref)) = H2 at s6 her hec ⊢
    have hrH : H r = none := by
      cases e : H r with
      | none => rfl
      | some o => rw [sH _ _ e] at hr; cases hr
    have A0 : AccH H H2 d r c ws nw (Rs, []) := ⟨Same.tr sH s6, hec, hws.keep fun _ _ z => s6 _ _ z, ⟨kvs, s6 _ _ hdk, hrows.keep fun _ _ z => s6 _ _ z⟩, [], her, .nil⟩
    have O0 : AccOk (sts u.sz u.cs.length) nw Rs.length (Rs, []) := ⟨⟨hok.nd, hok.mem, fun s h => (by cases h), hok.le⟩, hok.nw, rfl⟩
    walk_at "rd"
    refine ⟨⟨_, .inl (.inl hec)⟩, FJ.list (xs := ws.map V.ref) (fun i σ' H' => (∃ z6 z7 z8, σ' = [some (.ref u.m), some (.ref l), some (.ref b), some (.ref d), some (.ref nl), some (.ref r), z6, z7, z8]) ∧ AccH H H' d r c ws nw ((nw.take i).foldl (visS u.endS kn) (Rs, [])) ∧ AccOk (sts u.sz u.cs.length) nw Rs.length ((nw.take i).foldl (visS u.endS kn) (Rs, []))) ⟨⟨_, _, _, rfl⟩, A0, O0⟩ (fun i σ' H' _ inv => .inl (.inl inv.2.1.2.1)) (fun i x σ1 H1 hx inv => ?_) fun σ1 H1 inv => ?_⟩
    · obtain ⟨⟨z6', z7', z8', rfl⟩, A1, O1⟩ := inv
      obtain ⟨wi, rfl, hwi⟩ : ∃ wi, x = .ref wi ∧ ws[i]? = some wi := by
        rw [List.getElem?_map] at hx
        cases e : ws[i]? with
        | none => rw [e] at hx; cases hx
        | some z => rw [e] at hx; cases hx; exact ⟨z, rfl, rfl⟩
      obtain ⟨s, hs, -⟩ := paired_at hws hwi
      have hsm : s ∈ nw := List.mem_of_getElem? hs
      have e1 : (nw.take (i + 1)).foldl (visS u.endS kn) (Rs, []) = visS u.endS kn ((nw.take i).foldl (visS u.endS kn) (Rs, [])) s := by rw [List.take_add_one, hs, List.foldl_append]; rfl
      rw [e1]
      generalize (nw.take i).foldl (visS u.endS kn) (Rs, []) = acc0 at A1 O1 ⊢
      walk_at "rd"
      have hl1 := A1.1 _ _ hl
      refine ⟨⟨_, .inl (.inl hl1)⟩, FJ.list (xs := kn.map V.str) (fun j σ' H' => (∃ z7 z8, σ' = [some (.ref u.m), some (.ref l), some (.ref b), some (.ref d), some (.ref nl), some (.ref r), some (.ref wi), z7, z8]) ∧ AccH H H' d r c ws nw ((kn.take j).foldl (visN u.endS s) acc0) ∧ AccOk (sts u.sz u.cs.length) nw Rs.length ((kn.take j).foldl (visN u.endS s) acc0)) ⟨⟨_, _, rfl⟩, A1, O1⟩ (fun i σ' H' _ inv => .inl (.inl (inv.2.1.1 _ _ hl))) (fun j x σ2 H2 hx inv => ?_) fun σ1 H1 inv => ?_⟩
      · obtain ⟨⟨z7'', z8'', rfl⟩, A2, O2⟩ := inv
        obtain ⟨n, rfl, hn⟩ := map_at hx
        obtain ⟨hkn1, hkn2⟩ := hkn n (List.mem_of_getElem? hn)
        have e2 : (kn.take (j + 1)).foldl (visN u.endS s) acc0 = visN u.endS s ((kn.take j).foldl (visN u.endS s) acc0) n := by rw [List.take_add_one, hn, List.foldl_append]; rfl
        rw [e2]
        generalize (kn.take j).foldl (visN u.endS s) acc0 = acc at A2 O2 ⊢
        walk_at "rd"
        have M2 := hM.same A2.1
        obtain ⟨⟨dx, m1⟩, _⟩ := id M2.mac
        obtain ⟨a1, a2, a3, a4, ws2, a5, a6⟩ := id A2
        obtain ⟨s', hs', hws'⟩ := paired_at a3 hwi
        rw [hs] at hs'
        obtain rfl := Option.some.inj hs'
        have hsS : s ∈ sts u.sz u.cs.length := by
          obtain ⟨q0, hq0, rfl⟩ := List.mem_map.mp (O2.sub s hsm)
          exact O2.ok.mem q0 hq0
        have hfS := M2.run n hkn1 s hsS
        obtain ⟨b1, b2⟩ := sts_nb hsS
        have c3 := M2.c3
        simp only [UX.tCallO]
        walk_at "rq"
        refine ⟨⟨dx, _, m1⟩, u, n, wi, s, rfl, M2, .inr hws', hkn2, fun v hv => ?_, by omega, fun hx => absurd hx hkn1, fun _ => ⟨fun v hv => ?_, fun _ H3 s3 t ht => ?_⟩⟩
        · have h1 := b2 v hv
          have h3 := M2.s3
          unfold bad at h1
          omega
        · rw [sts_ok hsS] at hv; cases hv
        have A3 := A2.same s3
        have O3 := O2.vis hsm hfS
        obtain ⟨a1, a2, a3, ⟨kvs, a41, a42⟩, ws2, a5, a6⟩ := id A3
        obtain ⟨g1, g2⟩ := a42.get (s := u.endS n s)
        have hdg := DGet.t a41 (by rw [ekey]; exact ht : H3 t = some (.tup ((u.endS n s).map Sum.inl |>.map kV)))
        refine ⟨_, hdg, ?_⟩
        cases e : rowAt acc.1 (u.endS n s) with
        | some w =>
          obtain ⟨tw, v1, v2⟩ := g2 w e
          have ev : visN u.endS s acc n = acc := by unfold visN; rw [e]; rfl
          rw [v1, if_neg (by simp), ev]
          exact ⟨⟨_, rfl⟩, A3, O2⟩
        | none =>
          have vn := g1 e
          rw [vn, if_pos (by simp)]
          simp only [tDGet]
          walk_at "rd"
          obtain ⟨w, hw⟩ : ∃ w, rowAt acc.1 s = some w := by
            cases e : rowAt acc.1 s with
            | none => exact absurd (O2.sub s hsm) (rowAt_none.mp e)
            | some w => exact ⟨w, rfl⟩
          obtain ⟨tw, v1, v2⟩ := (a42.get (s := s)).2 w hw
          have hws3 := s3 _ _ hws'
          have hwl : w.length + 1 ≤ 1000 := Nat.le_trans (O2.ok.le _ (rowAt_some hw)) (Nat.le_trans O2.ok.size hN)
          refine ⟨.ref tw, by rw [← v1]; exact DGet.t a41 (by rw [ekey]; exact hws3), tw, rfl, w.map V.str, .inl (.inl (.inl v2)), by rw [List.length_append, List.length_map, sizeLine_eq]; show w.length + 1 ≤ _; omega, fun T hT => ?_⟩
          have sT : Same H3 (upd H3 T (.tup (w.map V.str ++ [V.str n]))) := UL.Same.new hT
          have A4 := A3.same sT
          have eT : upd H3 T (.tup (w.map V.str ++ [V.str n])) T = some (.tup (w.map V.str ++ [V.str n])) := upd_same
          have ht4 := sT _ _ ht
          generalize upd H3 T (.tup (w.map V.str ++ [V.str n])) = H4 at sT A4 eT ht4 ⊢
          obtain ⟨b1', b2', b3', -, -⟩ := id A4
          have d4 := sT _ _ a41
          have r4 := sT _ _ a5
          have lk : kvs.length = acc.1.length := plenQ a42
          have l2 : ws2.length ≤ acc.1.length := by have := plenQ a6; have := O2.len; omega
          have hsz2 := O2.ok.size
          refine ⟨_, DPut.t d4 (by rw [ekey]; exact ht4) (by rw [sizeLine_eq]; omega), .inl ⟨rfl, _, .inl (.inl ((upd_ne (Ne.symm hdr)).trans r4))⟩, r, _, .ref t, rfl, rfl, (upd_ne (Ne.symm hdr)).trans r4, by rw [List.length_map, sizeLine_eq]; omega, ⟨_, rfl⟩, ?_, O3⟩
          have ev : visN u.endS s acc n = (acc.1 ++ [(u.endS n s, w ++ [n])], acc.2 ++ [u.endS n s]) := by unfold visN; rw [e, hw]; rfl
          rw [ev, L2.putK_new _ vn]
          have kt : ∀ x xs, H4 x = some (.tup xs) → upd (upd H4 d (.dT (kvs ++ [((u.endS n s).map Sum.inl, .ref T)]))) r (.lst (ws2.map V.ref ++ [V.ref t])) x = some (.tup xs) := fun x xs hx => by
            rw [upd_ne (fun z => by rw [z, r4] at hx; cases hx), upd_ne (fun z => by rw [z, d4] at hx; cases hx)]; exact hx
          refine ⟨fun x o hx => ?_, ?_, b3'.keep kt, ⟨_, (upd_ne hdr).trans upd_same, ?_⟩, ws2 ++ [t], ?_, ?_⟩
          · rw [upd_ne (fun z => by rw [z, hrH] at hx; cases hx), upd_ne (fun z => by rw [z, hd] at hx; cases hx)]; exact b1' _ _ hx
          · rw [upd_ne (Ne.symm hrc), upd_ne (Ne.symm hdc)]; exact b2'
          · refine paired_snoc ⟨rfl, T, rfl, kt _ _ ?_⟩ (a42.keep fun x xs hx => kt _ _ (sT _ _ hx))
            rw [List.map_append]; exact eT
          · rw [upd_same, List.map_append]; rfl
          · have a7 := a6.keep fun x xs hx => kt _ _ (sT _ _ hx)
            unfold TS at a7 ⊢
            refine paired_snoc ?_ a7
            exact kt _ _ ht4
      · obtain ⟨⟨z7'', z8'', rfl⟩, A2, O2⟩ := inv
        rw [List.length_map, List.take_length] at A2 O2
        exact ⟨⟨_, _, _, rfl⟩, A2, O2⟩
    · obtain ⟨⟨z6', z7', z8', rfl⟩, A1, O1⟩ := inv
      rw [List.length_map, lw, List.take_length] at A1 O1
      walk_at "rd"
      obtain ⟨a1, a2, a3, a4, ws2, a5, a6⟩ := A1
      refine ⟨_, _, _, _, r, ws2, _, _, rfl, a1, a5, a6, a4, O1.ok, ?_, fun hne => ?_⟩
      · rw [← hbfs]
        obtain ⟨s, nr, rfl⟩ : ∃ s nr, nw = s :: nr := by cases nw with | nil => exact absurd rfl hw | cons s r => exact ⟨s, r, rfl⟩
        rfl
      · have := O1.len
        have := List.length_pos_iff.mpr hne
        omega
end
end U
set_option Elab.async false
set_option linter.all false
set_option maxRecDepth 100000
set_option maxHeartbeats 4000000
set_option pp.deepTerms true
set_option pp.maxSteps 400000
namespace U
open PySem PySem.Spec PyProof.Rows L2 UL UX
local macro_rules | `(tactic| walk_at "rd") => `(tactic| simp only [sMatch, tJs, tFmt, tBC, tMethA, tMakeL, iEnumS, tSeq, tAsg, tOp, tCB, tCons, tNil, tVar, tC, tB, tTest, tNot, tIfS, tNext, tYes, tUn, rU, tM0, tGFrom, tGThen, tG0, tYfLst, gcxK, tSubO, tProp, tListG, tMethG, tBMF, tFld, sFld, tMeth, tMake, tSl, tNoPart, tPart, tM1, gTup, gCons, gNil, tDrop, tFor_eq, tLc_eq, tLc2_eq, iRng1_eq, StX.tStar, iList, iTup, iStr, iAny_var, iZipB, tLenSetS, wipe, tVar, tAndV, tOrV, tNotV, tOr, tAnd, tLst, tTup, tBM, tBM0, tChain, tCall, cxK, noxK, addII, addSS, mulII, eqII, neII, neSS, cIntI, cAbsI, rI, rI0, rLt, rLe, rGt_, rGe_, rSub_, rMod, rPow, rDivW, rNeg, gName, tRet, L2.start, List.length_cons, List.length_nil, List.map_cons, List.map_nil, List.replicate, List.cons_append, List.nil_append, List.getElem?_cons_zero, List.getElem?_cons_succ, List.set_cons_zero, List.set_cons_succ, Option.some.injEq, exists_eq_left', exists_eq_left, V.int.injEq, V.bl.injEq, V.str.injEq, V.ref.injEq, V.ty.injEq, List.cons.injEq, and_true, true_and, reduceCtorEq, false_and, exists_false, or_false, false_or, exists_and_left, exists_and_right, List.append_nil, forall_eq, decide_eq_true_eq, Bool.not_eq_true, Nat.reduceAdd, Nat.reduceSub, List.replicate_zero, List.replicate_succ, Nat.zero_le, ite_true, ite_false, if_true, if_false])
section
variable {P : Program} {w : World} {K : PySem.W.Frag} {mg : Str → Option Value} {base : Heap}
open UV UW NdefX ClX LamX
variable {R Wr B Pg Sy IC IS UC UP Mc IT Iv OR : Addr}
/-! rows_from -/
abbrev s_rows_from : Stmt := top 12
abbrev sc_rows_from_N : List Str := ["machine", "start", "names", "known"]
theorem sc_rows_from : FnScope sc_rows_from_N ["machine", "start", "names"] (defScope s_rows_from) := ⟨rfl, rfl, rfl, by decide +kernel, rfl, by decide +kernel, by decide +kernel⟩
-- 0 machine, 1 start, 2 names, 3 known
theorem paired_comp {α β γ : Type} {F : α → β → Prop} {G : β → γ → Prop} : ∀ {xs : List α} {ys : List β} {zs : List γ}, Paired F xs ys → Paired G ys zs → Paired (fun x z => ∃ y, F x y ∧ G y z) xs zs
  | _, _, _, .nil, .nil => .nil
  | _, _, _, .cons a b, .cons c d => .cons ⟨_, a, c⟩ (paired_comp b d)
/-- a list of pairs of a state and its row -/
def PaL (H : Hp) (l : Addr) (Rs : List (List Int × List Str)) : Prop := ∃ ts : List Addr, H l = some (.lst (ts.map V.ref)) ∧ Paired (fun (t : Addr) (r : List Int × List Str) => ∃ a b, H t = some (.tup [.ref a, .ref b]) ∧ H a = some (.tup (r.1.map V.int)) ∧ H b = some (.tup (r.2.map V.str))) ts Rs
def sp_rfrom (K : PySem.W.Frag) (Mc Sy UP Iv : Addr) : Sp := fun vs H Q E => ∃ (u : Mw) (b : Addr) (v : V) (o : Option (List Str)) (ys : List Int), vs = [.ref u.m, .ref b, v] ∧ MW Mc Sy H u ∧ LoT H b (ys.map V.int) ∧ NmA K H v o ∧ u.ps.length ≤ 4 ∧ (∀ q ∈ u.ps, q.1.length ≤ 1000) ∧ (∀ n ∈ o.getD [], n.length ≤ 1000) ∧ (o.getD []).length ≤ 1000 ∧ (∀ v ∈ ys, -(2 ^ 64) < v ∧ v < 2 ^ 64) ∧
  (∀ n, unkO u.ps o = some n → X1 UP "name" (.str n) H E) ∧ (unkO u.ps o = none → stX Iv u.sz u.cs ys H (fun H' => ∀ l H2, Same H' H2 → PaL H2 l (u.rows (knN (u.ps.map (·.1)) o) ys) → Q (.ref l) H2) E)
theorem d_rfrom (T : MaX K mg R Wr B Pg Sy IS UC UP Mc) (D : UX.TDd K mg "rows_from" s_rows_from [.non]) (m_known : Mn P w K mg base (L2.CX P w) 5 Sy "known" (sp_known K Sy UP)) (m_check_start : Mn P w K mg base (L2.CX P w) 4 Mc "check_start" (sp_cstart K Mc Sy Iv)) (d_find_rows : Dn P w K mg base (L2.CX P w) 6 "find_rows" (sp_frows K Mc Sy)) : UX.Dnd P w K mg base (L2.CX P w) 7 "rows_from" [.non] (sp_rfrom K Mc Sy UP Iv) := by
  refine D.dx sc_rows_from (by decide) rfl (n := 2) (fun _ _ _ _ _ _ _ us its hl hi => match us, its, hl, hi with | [_, _, _], [_], _, _ => ⟨_, rfl, rfl⟩) (fun _ _ _ _ _ _ _ us its hl hi => match us, its, hl, hi with | [_, _], [_], _, _ => ⟨_, rfl, rfl⟩) (fun vs H Q E h => ?_) (fun f cdv A outer s H vs Q E hr h => ?_)
  · obtain ⟨u, b, v, o, ys, rfl, _⟩ := h; rfl
  · obtain ⟨u, b, v, o, ys, rfl, hM, hb, hv, p4, pn, on, ol, sm, qx, q⟩ := h
    refine ⟨_, (pss_cons (ps_set (i := 3) sc_rows_from.nd rfl (Or.inl rfl) (pe_m m_known T.cls hr (by decide) (passes_call (takes_of rfl rfl rfl rfl) (fun _ _ _ _ h => h)) (pe_fld (pv 0) (by rfl)) (pa_cons (pv 2) pa_nil)))
      (pss_cons (ps_expr (pe_m m_check_start T.cM hr (by decide) (passes_call (takes_of rfl rfl rfl rfl) (fun _ _ _ _ h => h)) (pv 0) (pa_cons (pv 1) pa_nil)))
      (pss_one (ps_ret (pe_callTy (UX.call_listItT rfl) (by rfl) T.n_list (by decide +kernel) (pa_cons (pe_bm0 PySem.F.plainAttrs_dict PySem.F.slot_dict_items PySem.F.type_dict_items L2.DX.mt_itemsT (pe_d d_find_rows hr (by decide) (passes_call (takes_of rfl rfl rfl rfl) (fun _ _ _ _ h => h)) (by rfl) (pa_cons (pv 0) (pa_cons (pv 3) (pa_cons (pe_callTy call_tupA (by rfl) T.n_tuple (by decide +kernel) (pa_cons (pv 1) pa_nil)) pa_nil))))) pa_nil)))))), ?_⟩
    walk_at "rd"
    obtain ⟨⟨dx, m1⟩, _⟩ := id hM.mac
    obtain ⟨dy, fy, nn, n1, n2, n3⟩ := id hM.nms
    obtain ⟨⟨dy2, cc, fy2, y1, y2, y3, y4, y5, y9⟩, y6, y7, y8⟩ := id hM.yo
    have hm : ∀ n ∈ knN (u.ps.map (·.1)) o, n ∈ u.ps.map (·.1) := fun n h => by
      cases o with
      | none => exact h
      | some ns => exact (List.mem_filter.mp h).1
    have hkl : (knN (u.ps.map (·.1)) o).length ≤ 4 := by
      have : (knN (u.ps.map (·.1)) o).length ≤ (u.ps.map (·.1)).length := by
        cases o with
        | none => exact Nat.le_refl _
        | some ns => exact List.length_filter_le _ _
      rw [List.length_map] at this
      omega
    refine ⟨Mc, dx, _, m1, T.cM, T.m_system, .ref u.y, rfl, u.y, rfl, dy2, fy2, y1, y9 _ (by simp), u.y, u.pd, u.ad, nn, dy, v, u.cs, u.ps, u.as, fy, o, rfl, hM.yo, n1, n2, n3, p4, pn, hv, on, ol, qx, fun hk l H1 s1 el => ?_⟩
    obtain ⟨q1, q2⟩ := q hk
    refine ⟨dx, _, s1 _ _ m1, rfl, u.m, u.y, u.cl, b, u.sz, u.cs, ys, rfl, (hM.same s1).msa, (hb.same s1).sqA, ⟨hM.cn, sm⟩, fun v hv => ?_, fun hok H2 s2 => ?_⟩
    · exact (q1 v hv).same s1
    obtain ⟨hl2, hv2⟩ := badSt_none hok
    have hst := sts_mem hl2.symm hv2
    have s12 := Same.tr s1 s2
    refine (hb.same s12).tup fun t3 H3 s3 e3 => ?_
    have s13 := Same.tr s12 s3
    refine ⟨u, l, t3, _, ys, rfl, hM.same s13, Same.tr s2 s3 _ _ el, hkl, fun n hn => ?_, e3, hst, fun d kvs H4 s4 ed hr => ?_⟩
    · obtain ⟨a, ha, hq⟩ := valA_some (hm n hn)
      exact ⟨fun z => (by rw [z] at ha; cases ha), pn _ hq⟩
    show _ ∧ _
    refine ⟨.inr (.inr (.inl ⟨rfl, .inr ⟨kvs, ed⟩⟩)), d, kvs, rfl, rfl, ed, fun p hp => ?_⟩
    have s5 : Same H4 (upd H4 p (L2.DX.itemsO p d)) := UL.Same.new hp
    refine ⟨p, d, kvs, rfl, upd_same, s5 _ _ ed, fun l2 ts H5 _ _ el2 pr s6 => ?_⟩
    have s46 := Same.tr s5 s6
    refine q2 hok H (fun _ _ z => z) l2 H5 (Same.tr s13 (Same.tr s4 s46)) ⟨ts, el2, ?_⟩
    refine L2.Paired.mapP (paired_comp pr hr) fun t r hx => ?_
    obtain ⟨kv, ⟨qa, h1, h2⟩, h3, tw, h4, h5⟩ := hx
    refine ⟨qa, tw, ?_, ?_, s46 _ _ h5⟩
    · rw [h2, h4]
    · have := s6 _ _ h1
      rw [h3, List.map_map] at this
      exact this
end
end U
set_option Elab.async false
set_option linter.all false
set_option maxRecDepth 100000
set_option maxHeartbeats 4000000
/-! (n, [i, ..]) < (m, [j, ..]) -/
namespace UX
open PySem PySem.Spec PyProof.Rows L2 UL UV UW ClX
section
variable {X : Cx}
def ltK (p q : Int × List Int) : Bool := PySem.W.DatumOrd.lt p q
def keyD (p : Int × List Int) : PyData := .tuple [.int p.1, .list (p.2.map PyData.int)]
def rLtK (K : PySem.W.Frag) : R2 := fun x y H Q => ∃ p q : Int × List Int, Dp K H x (keyD p) ∧ Dp K H y (keyD q) ∧ Q (.bl (ltK p q)) H
theorem op_ltK (K : PySem.W.Frag) (h : X.K = K) (hu : X.A.units + 65 < cLine) : OpR X (compareOp .Lt) (rLtK K) := by
  subst h
  intro pins s σ H x y v u Q I rx ry h
  obtain ⟨p, q, hp, hq, z⟩ := h
  obtain ⟨as, r1⟩ := Dp.reads I _ x v hp rx
  obtain ⟨bs, r2⟩ := Dp.reads I _ y u hq ry
  refine PySem.W.lt_datum (x := p) (y := q) ⟨as, r1⟩ ⟨bs, r2⟩ ?_ ⟨.bl _, H, I, rfl, z⟩
  show X.A.units + PySem.W.Datum.depth (Int × List Int) < cLine
  have : PySem.W.Datum.depth (Int × List Int) ≤ 64 := by decide
  omega
theorem mt_indexK (K : PySem.W.Frag) (h : X.K = K) : MtR X "list.index" (rIndex K) := h ▸ mt_index
theorem pe_bmK (K : PySem.W.Frag) (h : X.K = K) {T name : String} {id : String} {r : V → List V → Hp → VK → Prop} {to : TE} {t : TA} {o e : Expr} {es : List Expr} {cpos apos : Pos} (pa : PlainAttrs T) (slot : Slot T name id) (hty : typeOf (.builtin id) = pure (.type "method_descriptor")) (hm : MtR X id r) (ho : PE X o to) (ha : PA X (e :: es) t)
    (hbase : attributeBase o name X.env (eval o X.env) = eval o X.env := by rfl)
    (hfew : ((backTo cpos (starEach (e :: es) X.env)).all (fun x => !x.1) && (backToKw cpos (keywordEach [] X.env)).all (fun x => x.1.isSome)
      && decide ((e :: es).length + ([] : List Keyword).length + (if ([] : List Keyword).isEmpty then 0 else 1) < 30)) = true := by rfl)
    (hline : (apos.endLine == cpos.line) = true := by rfl) (hs : starEach (e :: es) X.env = (false, eval e X.env) :: starEach es X.env := by rfl) (hplain : (backTo cpos (starEach es X.env)).any (·.1) = false := by rfl) :
    PE X (.Call (.Attribute o name apos) (e :: es) [] cpos) (tBM K T r to t) := h ▸ pe_bm pa slot hty hm ho ha hbase hfew hline hs hplain
end
end UX
set_option Elab.async false
set_option linter.all false
set_option maxRecDepth 100000
set_option maxHeartbeats 4000000
set_option pp.deepTerms true
set_option pp.maxSteps 400000
namespace U
open PySem PySem.Spec PyProof.Rows L2 UL UX
local macro_rules | `(tactic| walk_at "rd") => `(tactic| simp only [sMatch, tJs, tFmt, tBC, tMethA, tMakeL, iEnumS, tSeq, tAsg, tOp, tCB, tCons, tNil, tVar, tC, tB, tTest, tNot, tIfS, tNext, tYes, tUn, rU, tM0, tGFrom, tGThen, tG0, tYfLst, gcxK, tSubO, tProp, tListG, tMethG, tBMF, tFld, sFld, tMeth, tMake, tSl, tNoPart, tPart, tM1, gTup, gCons, gNil, tDrop, tFor_eq, tLc_eq, tLc2_eq, iRng1_eq, StX.tStar, iList, iTup, iStr, iAny_var, iZipB, tLenSetS, wipe, tVar, tAndV, tOrV, tNotV, tOr, tAnd, tLst, tTup, tBM, tBM0, tChain, tCall, cxK, noxK, addII, addSS, mulII, eqII, neII, neSS, cIntI, cAbsI, rI, rI0, rLt, rLe, rGt_, rGe_, rSub_, rMod, rPow, rDivW, rNeg, gName, tRet, L2.start, List.length_cons, List.length_nil, List.map_cons, List.map_nil, List.replicate, List.cons_append, List.nil_append, List.getElem?_cons_zero, List.getElem?_cons_succ, List.set_cons_zero, List.set_cons_succ, Option.some.injEq, exists_eq_left', exists_eq_left, V.int.injEq, V.bl.injEq, V.str.injEq, V.ref.injEq, V.ty.injEq, List.cons.injEq, and_true, true_and, reduceCtorEq, false_and, exists_false, or_false, false_or, exists_and_left, exists_and_right, List.append_nil, forall_eq, decide_eq_true_eq, Bool.not_eq_true, Nat.reduceAdd, Nat.reduceSub, List.replicate_zero, List.replicate_succ, Nat.zero_le, ite_true, ite_false, if_true, if_false])
section
variable {P : Program} {w : World} {K : PySem.W.Frag} {mg : Str → Option Value} {base : Heap}
open UV UW NdefX ClX LamX
/-! the rows ascend, and each of them is least -/
section
variable {f : Str → List Int → List Int} {kn : List Str} {ix : Str → Int}
def kyW (ix : Str → Int) (w : List Str) : Int × List Int := ((w.length : Int), w.map ix)
def RL (ix : Str → Int) (a b : List Int × List Str) : Prop := UX.ltK (kyW ix a.2) (kyW ix b.2) = true
theorem ltK_eq {p q : Int × List Int} : UX.ltK p q = if p.1 = q.1 then PySem.W.listLt p.2 q.2 else decide (p.1 < q.1) := rfl
theorem ll_asym : ∀ {a b : List Int}, PySem.W.listLt a b = true → PySem.W.listLt b a = false
  | [], [], h => nomatch h
  | [], _ :: _, _ => rfl
  | _ :: _, [], h => nomatch h
  | x :: xs, y :: ys, h => by
    rw [PySem.W.listLt] at h ⊢
    by_cases e : x = y
    · rw [if_pos e] at h
      rw [if_pos e.symm]
      exact ll_asym h
    · rw [if_neg e] at h
      rw [if_neg (Ne.symm e)]
      have h1 : x < y := of_decide_eq_true h
      show decide (y < x) = false
      exact decide_eq_false (by omega)
theorem ll_irr : ∀ {a : List Int}, PySem.W.listLt a a = false
  | [] => rfl
  | x :: xs => by rw [PySem.W.listLt, if_pos rfl]; exact ll_irr
theorem ll_app : ∀ {a b : List Int} {x y : List Int}, a.length = b.length → PySem.W.listLt a b = true → PySem.W.listLt (a ++ x) (b ++ y) = true
  | [], [], _, _, _, h => nomatch h
  | [], _ :: _, _, _, h, _ => nomatch h
  | _ :: _, [], _, _, h, _ => nomatch h
  | u :: xs, v :: ys, x, y, hl, h => by
    rw [PySem.W.listLt] at h
    rw [List.cons_append, List.cons_append, PySem.W.listLt]
    by_cases e : u = v
    · rw [if_pos e] at h ⊢
      exact ll_app (Nat.succ.inj hl) h
    · rw [if_neg e] at h ⊢
      exact h
theorem ll_same : ∀ {a : List Int} {x y : Int}, x < y → PySem.W.listLt (a ++ [x]) (a ++ [y]) = true
  | [], x, y, h => by
    rw [List.nil_append, List.nil_append, PySem.W.listLt, if_neg (by omega)]
    exact decide_eq_true h
  | u :: r, x, y, h => by
    rw [List.cons_append, List.cons_append, PySem.W.listLt, if_pos rfl]
    exact ll_same h
theorem ltK_asym {p q : Int × List Int} (h : UX.ltK p q = true) : UX.ltK q p = false := by
  rw [ltK_eq] at h ⊢
  by_cases e : p.1 = q.1
  · rw [if_pos e] at h
    rw [if_pos e.symm]
    exact ll_asym h
  · rw [if_neg e] at h
    rw [if_neg (Ne.symm e)]
    have := of_decide_eq_true h
    exact decide_eq_false (by omega)
theorem ltK_irr {p : Int × List Int} : UX.ltK p p = false := by rw [ltK_eq, if_pos rfl]; exact ll_irr
theorem RL.short {a b : List Int × List Str} (h : a.2.length < b.2.length) : RL ix a b := by
  unfold RL kyW
  rw [ltK_eq, if_neg (by dsimp only; omega)]
  exact decide_eq_true (by dsimp only; omega)
/-- a row, if its state has none -/
def addR (acc : List (List Int × List Str) × List (List Int)) (c : List Int × List Str) : List (List Int × List Str) × List (List Int) := if (rowAt acc.1 c.1).isSome = true then acc else (acc.1 ++ [c], acc.2 ++ [c.1])
def cands (f : Str → List Int → List Int) (kn : List Str) (r : List Int × List Str) : List (List Int × List Str) := kn.map fun n => (f n r.1, r.2 ++ [n])
def Stb (R : List (List Int × List Str)) (acc : List (List Int × List Str) × List (List Int)) : Prop := ∀ r ∈ R, rowAt acc.1 r.1 = some r.2
theorem rowAt_app {A B : List (List Int × List Str)} {s : List Int} {w : List Str} (h : rowAt A s = some w) : rowAt (A ++ B) s = some w := by
  unfold rowAt at h ⊢
  obtain ⟨q, hq, e⟩ := Option.map_eq_some_iff.mp h
  rw [List.find?_append, hq]
  exact congrArg some e
theorem rowAt_mem : ∀ {R : List (List Int × List Str)} {r : List Int × List Str}, (R.map (·.1)).Nodup → r ∈ R → rowAt R r.1 = some r.2
  | [], _, _, h => nomatch h
  | a :: R, r, hn, h => by
    rw [List.map_cons] at hn
    obtain ⟨h1, h2⟩ := List.nodup_cons.mp hn
    unfold rowAt
    rcases List.mem_cons.mp h with rfl | h
    · rw [List.find?_cons_of_pos (by simp)]; rfl
    · rw [List.find?_cons_of_neg (by simp only [decide_eq_true_eq]; exact fun e => h1 (e ▸ List.mem_map_of_mem h))]
      exact rowAt_mem h2 h
theorem Stb.add {R : List (List Int × List Str)} {acc : List (List Int × List Str) × List (List Int)} {c : List Int × List Str} (h : Stb R acc) : Stb R (addR acc c) := fun r hr => by
  unfold addR
  split
  · exact h r hr
  · exact rowAt_app (h r hr)
theorem vis_add {R : List (List Int × List Str)} {acc : List (List Int × List Str) × List (List Int)} {r : List Int × List Str} {n : Str} (h : Stb R acc) (hr : r ∈ R) : visN f r.1 acc n = addR acc (f n r.1, r.2 ++ [n]) := by
  unfold visN addR
  rw [h r hr]; rfl
theorem visS_add {R : List (List Int × List Str)} {r : List Int × List Str} (hr : r ∈ R) : ∀ {ns : List Str} {acc : List (List Int × List Str) × List (List Int)}, Stb R acc → ns.foldl (visN f r.1) acc = (ns.map fun n => (f n r.1, r.2 ++ [n])).foldl addR acc ∧ Stb R (ns.foldl (visN f r.1) acc)
  | [], _, h => ⟨rfl, h⟩
  | n :: ns, acc, h => by
    have e := vis_add (f := f) (n := n) h hr
    have := visS_add hr (ns := ns) (acc := addR acc (f n r.1, r.2 ++ [n])) h.add
    rw [List.foldl_cons, e, List.map_cons, List.foldl_cons]
    exact this
theorem layer_add {R : List (List Int × List Str)} : ∀ {rs : List (List Int × List Str)} {acc : List (List Int × List Str) × List (List Int)}, (∀ r ∈ rs, r ∈ R) → Stb R acc → (rs.map (·.1)).foldl (visS f kn) acc = (rs.flatMap (cands f kn)).foldl addR acc
  | [], _, _, _ => rfl
  | r :: rs, acc, h, hs => by
    obtain ⟨e1, e2⟩ := visS_add (f := f) (h r List.mem_cons_self) (ns := kn) hs
    rw [List.map_cons, List.foldl_cons, List.flatMap_cons, List.foldl_append]
    show (rs.map (·.1)).foldl (visS f kn) (kn.foldl (visN f r.1) acc) = _
    rw [layer_add (fun q hq => h q (List.mem_cons_of_mem _ hq)) e2, e1]; rfl
/-- what adding rows that ascend does -/
theorem add_all : ∀ {cs : List (List Int × List Str)} {acc : List (List Int × List Str) × List (List Int)}, acc.1.Pairwise (RL ix) → cs.Pairwise (RL ix) → (∀ a ∈ acc.1, ∀ c ∈ cs, RL ix a c) →
    (cs.foldl addR acc).1.Pairwise (RL ix) ∧ (∀ c ∈ cs, ∃ r ∈ (cs.foldl addR acc).1, r.1 = c.1 ∧ (r.2 = c.2 ∨ RL ix r c)) ∧ ∃ X : List (List Int × List Str), (∀ x ∈ X, x ∈ cs) ∧ (cs.foldl addR acc).1 = acc.1 ++ X ∧ (cs.foldl addR acc).2 = acc.2 ++ X.map (·.1)
  | [], acc, h, _, _ => ⟨h, fun c hc => (by cases hc), [], fun x h => (by cases h), by simp, by simp⟩
  | c :: cs, acc, h, hc, hx => by
    obtain ⟨c1, c2⟩ := List.pairwise_cons.mp hc
    rw [List.foldl_cons]
    by_cases e : (rowAt acc.1 c.1).isSome = true
    · have e1 : addR acc c = acc := by unfold addR; rw [if_pos e]
      rw [e1]
      obtain ⟨g1, g2, X, g3, g4, g5⟩ := add_all h c2 fun a ha d hd => hx a ha d (List.mem_cons_of_mem _ hd)
      refine ⟨g1, fun d hd => ?_, X, fun x h => List.mem_cons_of_mem _ (g3 x h), g4, g5⟩
      rcases List.mem_cons.mp hd with rfl | hd
      · obtain ⟨w, hw⟩ := Option.isSome_iff_exists.mp e
        have hm := rowAt_some hw
        exact ⟨(d.1, w), by rw [g4]; exact List.mem_append_left _ hm, rfl, .inr (hx _ hm _ List.mem_cons_self)⟩
      · exact g2 d hd
    · have e1 : addR acc c = (acc.1 ++ [c], acc.2 ++ [c.1]) := by unfold addR; rw [if_neg e]
      rw [e1]
      obtain ⟨g1, g2, X, g3, g4, g5⟩ := add_all (cs := cs) (acc := (acc.1 ++ [c], acc.2 ++ [c.1])) (List.pairwise_append.mpr ⟨h, List.pairwise_singleton _ _, fun a ha b hb => by rw [List.mem_singleton.mp hb]; exact hx a ha c List.mem_cons_self⟩) c2 (fun a ha d hd => by
        rcases List.mem_append.mp ha with ha | ha
        · exact hx a ha d (List.mem_cons_of_mem _ hd)
        · rw [List.mem_singleton.mp ha]; exact c1 d hd)
      refine ⟨g1, fun d hd => ?_, c :: X, fun x h => ?_, by rw [g4, List.append_assoc]; rfl, by rw [g5, List.append_assoc]; rfl⟩
      · rcases List.mem_cons.mp hd with rfl | hd
        · exact ⟨d, by rw [g4]; exact List.mem_append_left _ (List.mem_append_right _ (List.mem_singleton.mpr rfl)), rfl, .inl rfl⟩
        · exact g2 d hd
      · rcases List.mem_cons.mp h with rfl | h
        · exact List.mem_cons_self
        · exact List.mem_cons_of_mem _ (g3 x h)
end
end
end U
set_option Elab.async false
set_option linter.all false
set_option maxRecDepth 100000
set_option maxHeartbeats 4000000
set_option pp.deepTerms true
set_option pp.maxSteps 400000
namespace U
open PySem PySem.Spec PyProof.Rows L2 UL UX
local macro_rules | `(tactic| walk_at "rd") => `(tactic| simp only [sMatch, tJs, tFmt, tBC, tMethA, tMakeL, iEnumS, tSeq, tAsg, tOp, tCB, tCons, tNil, tVar, tC, tB, tTest, tNot, tIfS, tNext, tYes, tUn, rU, tM0, tGFrom, tGThen, tG0, tYfLst, gcxK, tSubO, tProp, tListG, tMethG, tBMF, tFld, sFld, tMeth, tMake, tSl, tNoPart, tPart, tM1, gTup, gCons, gNil, tDrop, tFor_eq, tLc_eq, tLc2_eq, iRng1_eq, StX.tStar, iList, iTup, iStr, iAny_var, iZipB, tLenSetS, wipe, tVar, tAndV, tOrV, tNotV, tOr, tAnd, tLst, tTup, tBM, tBM0, tChain, tCall, cxK, noxK, addII, addSS, mulII, eqII, neII, neSS, cIntI, cAbsI, rI, rI0, rLt, rLe, rGt_, rGe_, rSub_, rMod, rPow, rDivW, rNeg, gName, tRet, L2.start, List.length_cons, List.length_nil, List.map_cons, List.map_nil, List.replicate, List.cons_append, List.nil_append, List.getElem?_cons_zero, List.getElem?_cons_succ, List.set_cons_zero, List.set_cons_succ, Option.some.injEq, exists_eq_left', exists_eq_left, V.int.injEq, V.bl.injEq, V.str.injEq, V.ref.injEq, V.ty.injEq, List.cons.injEq, and_true, true_and, reduceCtorEq, false_and, exists_false, or_false, false_or, exists_and_left, exists_and_right, List.append_nil, forall_eq, decide_eq_true_eq, Bool.not_eq_true, Nat.reduceAdd, Nat.reduceSub, List.replicate_zero, List.replicate_succ, Nat.zero_le, ite_true, ite_false, if_true, if_false])
section
variable {P : Program} {w : World} {K : PySem.W.Frag} {mg : Str → Option Value} {base : Heap}
open UV UW NdefX ClX LamX
section
variable {f : Str → List Int → List Int} {kn : List Str} {ix : Str → Int} {S : List (List Int)} {st : List Int}
def endW (f : Str → List Int → List Int) (w : List Str) (st : List Int) : List Int := w.foldl (fun s n => f n s) st
theorem endW_snoc {w : List Str} {n : Str} {st : List Int} : endW f (w ++ [n]) st = f n (endW f w st) := by unfold endW; rw [List.foldl_append]; rfl
/-- rows that are least -/
structure RLeast (f : Str → List Int → List Int) (kn : List Str) (ix : Str → Int) (st : List Int) (R : List (List Int × List Str)) : Prop where
  hd : ∃ t, R = (st, []) :: t
  asc : R.Pairwise (RL ix)
  right : ∀ r ∈ R, endW f r.2 st = r.1 ∧ ∀ n ∈ r.2, n ∈ kn
def Clo (f : Str → List Int → List Int) (kn : List Str) (ix : Str → Int) (Ro R : List (List Int × List Str)) : Prop := ∀ r ∈ Ro, ∀ n ∈ kn, ∃ q ∈ R, q.1 = f n r.1 ∧ (q.2 = r.2 ++ [n] ∨ RL ix q (f n r.1, r.2 ++ [n]))
theorem cands_asc (hk : kn.Pairwise fun a b => ix a < ix b) {k : Nat} : ∀ {rs : List (List Int × List Str)}, rs.Pairwise (RL ix) → (∀ r ∈ rs, r.2.length = k) → (rs.flatMap (cands f kn)).Pairwise (RL ix)
  | [], _, _ => .nil
  | r :: rs, h, hl => by
    obtain ⟨h1, h2⟩ := List.pairwise_cons.mp h
    rw [List.flatMap_cons]
    refine List.pairwise_append.mpr ⟨?_, cands_asc hk h2 fun q hq => hl q (List.mem_cons_of_mem _ hq), fun a ha b hb => ?_⟩
    · refine List.pairwise_map.mpr (hk.imp fun {a b} hab => ?_)
      unfold RL kyW
      rw [ltK_eq, if_pos (by simp)]
      dsimp only
      rw [List.map_append, List.map_append]
      exact ll_same hab
    · obtain ⟨n, _, rfl⟩ := List.mem_map.mp ha
      obtain ⟨q, hq, hb⟩ := List.mem_flatMap.mp hb
      obtain ⟨n', _, rfl⟩ := List.mem_map.mp hb
      have l1 := hl r List.mem_cons_self
      have l2 := hl q (List.mem_cons_of_mem _ hq)
      have hrq := h1 q hq
      unfold RL kyW at hrq ⊢
      rw [ltK_eq, if_pos (by dsimp only; omega)] at hrq
      rw [ltK_eq, if_pos (by simp; omega)]
      dsimp only at hrq ⊢
      rw [List.map_append, List.map_append]
      exact ll_app (by rw [List.length_map, List.length_map]; omega) hrq
theorem AccOk.visS {nw : List (List Int)} {c : Nat} {s : List Int} (hs : s ∈ nw) : ∀ {ns : List Str} {acc : List (List Int × List Str) × List (List Int)}, AccOk S nw c acc → (∀ n ∈ ns, f n s ∈ S) → AccOk S nw c (ns.foldl (visN f s) acc)
  | [], _, h, _ => h
  | n :: ns, acc, h, hf => AccOk.visS hs (ns := ns) (h.vis hs (hf n List.mem_cons_self)) fun m hm => hf m (List.mem_cons_of_mem _ hm)
theorem AccOk.layer {nw : List (List Int)} {c : Nat} (hf : ∀ n ∈ kn, ∀ s ∈ S, f n s ∈ S) : ∀ {rs : List (List Int)} {acc : List (List Int × List Str) × List (List Int)}, (∀ s ∈ rs, s ∈ nw) → AccOk S nw c acc → AccOk S nw c (rs.foldl (U.visS f kn) acc)
  | [], _, _, h => h
  | s :: rs, acc, hr, h => AccOk.layer hf (rs := rs) (fun t ht => hr t (List.mem_cons_of_mem _ ht)) (AccOk.visS (hr s List.mem_cons_self) h fun n hn => hf n hn s (by
      obtain ⟨q, hq, e⟩ := List.mem_map.mp (h.sub s (hr s List.mem_cons_self))
      rw [← e]; exact h.ok.mem q hq))
/-- the walk over layers makes least rows -/
theorem bfs_least (hk : kn.Pairwise fun a b => ix a < ix b) (hf : ∀ n ∈ kn, ∀ s ∈ S, f n s ∈ S) : ∀ (m k : Nat) (Ro Rn : List (List Int × List Str)), RLeast f kn ix st (Ro ++ Rn) → Clo f kn ix Ro (Ro ++ Rn) → (∀ r ∈ Ro, r.2.length < k) → (∀ r ∈ Rn, r.2.length = k) → RwsOk S (Ro ++ Rn) (Rn.map (·.1)) → (Rn ≠ [] → S.length + 1 ≤ m + (Ro ++ Rn).length) →
    RLeast f kn ix st (bfs f kn m (Ro ++ Rn) (Rn.map (·.1))) ∧ Clo f kn ix (bfs f kn m (Ro ++ Rn) (Rn.map (·.1))) (bfs f kn m (Ro ++ Rn) (Rn.map (·.1))) ∧ RwsOk S (bfs f kn m (Ro ++ Rn) (Rn.map (·.1))) []
  | m, k, Ro, [], h1, h2, h3, h4, h5, h6 => by
    have e : bfs f kn m (Ro ++ []) (([] : List (List Int × List Str)).map (·.1)) = Ro ++ [] := by cases m <;> rfl
    rw [e]
    refine ⟨h1, ?_, h5.nd, h5.mem, fun s h => (by cases h), h5.le⟩
    rw [List.append_nil] at h2 ⊢
    exact h2
  | 0, k, Ro, r :: Rn, h1, h2, h3, h4, h5, h6 => by
    have := h6 (by simp)
    have := h5.size
    omega
  | m + 1, k, Ro, r :: Rn, h1, h2, h3, h4, h5, h6 => by
    have e : bfs f kn (m + 1) (Ro ++ r :: Rn) ((r :: Rn).map (·.1)) = bfs f kn m (layer f kn (Ro ++ r :: Rn) ((r :: Rn).map (·.1))).1 (layer f kn (Ro ++ r :: Rn) ((r :: Rn).map (·.1))).2 := rfl
    generalize hR : Ro ++ r :: Rn = R at *
    have hsub : ∀ q ∈ r :: Rn, q ∈ R := fun q hq => hR ▸ List.mem_append_right _ hq
    have el : layer f kn R ((r :: Rn).map (·.1)) = ((r :: Rn).flatMap (cands f kn)).foldl addR (R, []) := layer_add hsub fun q hq => rowAt_mem h5.nd hq
    have hasc : (r :: Rn).Pairwise (RL ix) := by
      have := h1.asc
      rw [← hR] at this
      exact (List.pairwise_append.mp this).2.1
    have hcl : ∀ c ∈ (r :: Rn).flatMap (cands f kn), c.2.length = k + 1 := fun c hc => by
      obtain ⟨q, hq, hb⟩ := List.mem_flatMap.mp hc
      obtain ⟨n', _, rfl⟩ := List.mem_map.mp hb
      have := h4 q hq
      simp [this]
    have hRk : ∀ q ∈ R, q.2.length < k + 1 := fun q hq => by
      rw [← hR] at hq
      rcases List.mem_append.mp hq with hq | hq
      · have := h3 q hq; omega
      · have := h4 q hq; omega
    obtain ⟨g1, g2, X, g3, g4, g5⟩ := add_all (cs := (r :: Rn).flatMap (cands f kn)) (acc := (R, [])) h1.asc (cands_asc hk hasc h4) fun a ha c hc => RL.short (by have := hRk a ha; have := hcl c hc; omega)
    have key : AccOk S ((r :: Rn).map (·.1)) R.length (layer f kn R ((r :: Rn).map (·.1))) := AccOk.layer hf (fun s hs => hs) ⟨⟨h5.nd, h5.mem, fun s h => (by cases h), h5.le⟩, h5.nw, rfl⟩
    have kok := key.ok
    rw [el, g4, g5] at kok
    rw [e, el, g4, g5]
    dsimp only at kok g1 g2 g4 g5 ⊢
    rw [g4] at g1 g2
    rw [List.nil_append] at kok ⊢
    refine bfs_least hk hf m (k + 1) R X ⟨?_, g1, fun x hx => ?_⟩ (fun q hq n hn => ?_) hRk (fun x hx => hcl x (g3 x hx)) kok fun hne => ?_
    · obtain ⟨t, ht⟩ := h1.hd
      exact ⟨t ++ X, by rw [ht]; rfl⟩
    · rcases List.mem_append.mp hx with hx | hx
      · exact h1.right x hx
      · obtain ⟨q, hq, hb⟩ := List.mem_flatMap.mp (g3 x hx)
        obtain ⟨n, hn, rfl⟩ := List.mem_map.mp hb
        obtain ⟨r1, r2⟩ := h1.right q (hsub q hq)
        refine ⟨by dsimp only; rw [endW_snoc, r1], fun m hm => ?_⟩
        rcases List.mem_append.mp hm with hm | hm
        · exact r2 m hm
        · rw [List.mem_singleton.mp hm]; exact hn
    · rw [← hR] at hq
      rcases List.mem_append.mp hq with hq | hq
      · obtain ⟨z, hz, h7⟩ := h2 q hq n hn
        exact ⟨z, List.mem_append_left _ hz, h7⟩
      · exact g2 _ (List.mem_flatMap.mpr ⟨q, hq, List.mem_map_of_mem hn⟩)
    · have := h6 (by simp)
      have := List.length_pos_iff.mpr hne
      rw [List.length_append]
      omega
theorem rows_least {sz n : Nat} (hk : kn.Pairwise fun a b => ix a < ix b) (hf : ∀ m ∈ kn, ∀ s ∈ S, f m s ∈ S) (hst : st ∈ S) : RLeast f kn ix st (bfs f kn S.length [(st, [])] [st]) ∧ Clo f kn ix (bfs f kn S.length [(st, [])] [st]) (bfs f kn S.length [(st, [])] [st]) ∧ RwsOk S (bfs f kn S.length [(st, [])] [st]) [] :=
  bfs_least hk hf S.length 0 [] [(st, [])] ⟨⟨[], rfl⟩, List.pairwise_singleton _ _, fun r hr => by rw [List.mem_singleton.mp hr]; exact ⟨rfl, fun n h => (by cases h)⟩⟩ (fun r hr => (by cases hr)) (fun r hr => (by cases hr)) (fun r hr => by rw [List.mem_singleton.mp hr]; rfl)
    ⟨List.nodup_cons.mpr ⟨fun h => (by cases h), List.nodup_nil⟩, fun r hr => by rw [List.mem_singleton.mp hr]; exact hst, fun s hs => hs, fun r hr => by rw [List.mem_singleton.mp hr]; exact Nat.le_refl 1⟩ fun _ => Nat.le_refl _
end
end
end U
set_option Elab.async false
set_option linter.all false
set_option maxRecDepth 100000
set_option maxHeartbeats 4000000
set_option pp.deepTerms true
set_option pp.maxSteps 400000
namespace U
open PySem PySem.Spec PyProof.Rows L2 UL UX
local macro_rules | `(tactic| walk_at "rd") => `(tactic| simp only [sMatch, tJs, tFmt, tBC, tMethA, tMakeL, iEnumS, tSeq, tAsg, tOp, tCB, tCons, tNil, tVar, tC, tB, tTest, tNot, tIfS, tNext, tYes, tUn, rU, tM0, tGFrom, tGThen, tG0, tYfLst, gcxK, tSubO, tProp, tListG, tMethG, tBMF, tFld, sFld, tMeth, tMake, tSl, tNoPart, tPart, tM1, gTup, gCons, gNil, tDrop, tFor_eq, tLc_eq, tLc2_eq, iRng1_eq, StX.tStar, iList, iTup, iStr, iAny_var, iZipB, tLenSetS, wipe, tVar, tAndV, tOrV, tNotV, tOr, tAnd, tLst, tTup, tBM, tBM0, tChain, tCall, cxK, noxK, addII, addSS, mulII, eqII, neII, neSS, cIntI, cAbsI, rI, rI0, rLt, rLe, rGt_, rGe_, rSub_, rMod, rPow, rDivW, rNeg, gName, tRet, L2.start, List.length_cons, List.length_nil, List.map_cons, List.map_nil, List.replicate, List.cons_append, List.nil_append, List.getElem?_cons_zero, List.getElem?_cons_succ, List.set_cons_zero, List.set_cons_succ, Option.some.injEq, exists_eq_left', exists_eq_left, V.int.injEq, V.bl.injEq, V.str.injEq, V.ref.injEq, V.ty.injEq, List.cons.injEq, and_true, true_and, reduceCtorEq, false_and, exists_false, or_false, false_or, exists_and_left, exists_and_right, List.append_nil, forall_eq, decide_eq_true_eq, Bool.not_eq_true, Nat.reduceAdd, Nat.reduceSub, List.replicate_zero, List.replicate_succ, Nat.zero_le, ite_true, ite_false, if_true, if_false])
section
variable {P : Program} {w : World} {K : PySem.W.Frag} {mg : Str → Option Value} {base : Heap}
open UV UW NdefX ClX
/-! known programs of a law, and the keys of rows -/
abbrev s__law_known : Stmt := top 69
abbrev sc__law_known_N : List Str := ["_law_pool_here", "_law_programs_here", ".0", "_law_which"]
theorem sc__law_known : FnScope sc__law_known_N ["_law_pool_here", "_law_programs_here"] (defScope s__law_known) := ⟨rfl, rfl, rfl, by decide +kernel, rfl, by decide +kernel, by decide +kernel⟩
-- 0 _law_pool_here, 1 _law_programs_here, 2 .0, 3 _law_which
def sp_lknown : Sp := fun vs H Q _ => ∃ (p r : Addr) (qs : List Rw), vs = [.ref p, .ref r] ∧ Pl H p ∧ PrL H r qs ∧ r ≠ p ∧ qs.length ≤ 100 ∧ ∀ (l : Addr) (js : List Nat) H', H l = none → H' l = some (.lst (js.map fun j => V.int (j : Nat))) → js.Pairwise (· < ·) → (∀ j ∈ js, j < qs.length) → Pl H' p → But p H H' → Q (.ref l) H'
theorem d_lknown (T : Nm mg) (D : TD K mg "_law_known" s__law_known) (d__law_draw : Dn P w K mg base CX0 1 "_law_draw" sp_draw) : Dn P w K mg base CX0 2 "_law_known" sp_lknown := by
  refine D.dn sc__law_known (fun _ _ _ _ _ _ us hl => match us, hl with | [_, _], _ => rfl) (fun vs H Q E h => ?_) (fun f cdv A outer s H vs Q E hr h => ?_)
  · obtain ⟨p, r, qs, rfl, _⟩ := h; rfl
  · obtain ⟨p, r, qs, rfl, hp, hr0, hne, hl, q⟩ := h
    refine ⟨_, (pss_cons (ps_if (pt_cmpR (op_eqA (hr.units)) (pe_d d__law_draw hr (by decide) pass0 (by rfl) (pa_cons (pv 0) (pa_cons pe_int pa_nil))) pe_int (nomark _)) (pss_one (ps_ret (pe_lc (own := [(".0", 2), ("_law_which", 3)]) (g := (gName 3)) (tt := tYes) rfl sc__law_known.nd (pi_range1 (by rfl) T.n_range (pa_cons (pe_callB (call_lenK K rfl) (by rfl) T.n_len (by decide +kernel) (pa_cons (pv 1) pa_nil)) pa_nil)) (blkOk_by (N := sc__law_known_N) (sc := defScope s__law_known) (by decide +kernel)) (fun _ _ _ _ _ => pg_name (i := 3) sc__law_known.nd rfl (Or.inl rfl)) (fun _ _ _ _ _ => pts_nil) (fun _ _ _ _ _ => (pv 3))))) pss_nil)
      (pss_one (ps_ret (pe_lc (own := [(".0", 2), ("_law_which", 3)]) (g := (gName 3)) (tt := _) rfl sc__law_known.nd (pi_range1 (by rfl) T.n_range (pa_cons (pe_callB (call_lenK K rfl) (by rfl) T.n_len (by decide +kernel) (pa_cons (pv 1) pa_nil)) pa_nil)) (blkOk_by (N := sc__law_known_N) (sc := defScope s__law_known) (by decide +kernel)) (fun _ _ _ _ _ => pg_name (i := 3) sc__law_known.nd rfl (Or.inl rfl)) (fun _ _ _ _ _ => pts_one (pt_cmpR (op_neK K rfl (hr.units)) (pe_d d__law_draw hr (by decide) pass0 (by rfl) (pa_cons (pv 0) (pa_cons pe_int pa_nil))) pe_int (nomark _))) (fun _ _ _ _ _ => (pv 3)))))), ?_⟩
    walk_at "rd"
    refine drawI (by decide) hp fun x H1 x0 x1 p1 b1 => eqII.mpr ⟨_, rfl, ?_⟩
    have hr1 := b1 _ _ hr0.1 hne
    by_cases c : x = 0
    · rw [if_pos (by simp [c])]
      refine lenL (.inl (.inl hr1)) ⟨_, rfl, by omega, by rw [List.length_map]; omega, fun D0 hD0 => ?_⟩
      refine LJ.it walk_range (fun i H' => H' D0 = some (.lst ((List.range i).map fun j => V.int (j : Nat))) ∧ Same H1 H') ⟨upd_same, UL.Same.new hD0⟩ (fun _ _ _ _ => trivial) (fun i z H7 H8 hi inv yy => ?_) fun H' inv => ?_
      · obtain ⟨rfl, hz⟩ := yy
        obtain ⟨e, s⟩ := inv
        refine ⟨rfl, ?_⟩
        walk_at "rd"
        have hz' : z = .int (i : Nat) := by rw [hz]; simp
        rw [List.length_map] at hi
        refine ⟨_, e, by rw [List.length_map, List.length_range, sizeLine_eq]; omega, ?_, UL.Same.put s hD0⟩
        rw [upd_same, List.range_succ, List.map_append, hz']; rfl
      · obtain ⟨e, s⟩ := inv
        rw [List.length_map, Int.toNat_natCast] at e
        exact q D0 _ H' (UL.But.free b1 p1 hD0) e List.pairwise_lt_range (fun j hj => List.mem_range.mp hj) (let ⟨ms, e⟩ := p1; ⟨ms, s _ _ e⟩) (But.tr b1 (UL.Same.but s))
    · rw [if_neg (by simp [c])]
      refine lenL (.inl (.inl hr1)) ⟨_, rfl, by omega, by rw [List.length_map]; omega, fun D0 hD0 => ?_⟩
      have D0p : D0 ≠ p := fun e => by obtain ⟨ns, z⟩ := p1; rw [e, z] at hD0; cases hD0
      have nD : ∀ {b : Addr} {o : HO}, H1 b = some o → b ≠ D0 := fun e => ne_of_none e hD0
      refine LJ.it walk_range (fun i H' => ∃ js : List Nat, js.Pairwise (· < ·) ∧ (∀ j ∈ js, j < i) ∧ js.length ≤ i ∧ H' D0 = some (.lst (js.map fun j => V.int (j : Nat))) ∧ But p H1 H' ∧ Pl H' p) ⟨[], .nil, fun j h => (by cases h), Nat.zero_le _, upd_same, fun b o e _ => (upd_ne (nD e)).trans e, let ⟨ms, e⟩ := p1; ⟨ms, (upd_ne (nD e)).trans e⟩⟩ (fun _ _ _ _ => trivial) (fun i z H7 H8 hi inv yy => ?_) fun H' inv => ?_
      · obtain ⟨rfl, hz⟩ := yy
        obtain ⟨js, j1, j2, j3, e, b7, p7⟩ := inv
        refine ⟨rfl, ?_⟩
        walk_at "rd"
        refine drawI (by decide) p7 fun y H9 y0 y1 p9 b9 => neII.mpr ⟨_, rfl, ?_⟩
        have hz' : z = .int (i : Nat) := by rw [hz]; simp
        rw [List.length_map] at hi
        have e9 := b9 _ _ e D0p
        by_cases c2 : y = 2
        · rw [if_neg (by simp [c2])]
          exact ⟨js, j1, fun j hj => Nat.lt_succ_of_lt (j2 j hj), by omega, e9, But.tr b7 b9, p9⟩
        · rw [if_pos (by simp [c2])]
          refine ⟨_, e9, by rw [List.length_map, sizeLine_eq]; omega, js ++ [i], ?_, fun j hj => ?_, by rw [List.length_append]; show js.length + 1 ≤ _; omega, by rw [upd_same, List.map_append, hz']; rfl, fun b o e n => (upd_ne (nD e)).trans (But.tr b7 b9 b o e n), let ⟨ms, e⟩ := p9; ⟨ms, (upd_ne (Ne.symm D0p)).trans e⟩⟩
          · exact List.pairwise_append.mpr ⟨j1, List.pairwise_singleton _ _, fun a ha b hb => by rw [List.mem_singleton.mp hb]; exact j2 a ha⟩
          · rcases List.mem_append.mp hj with h | h
            · exact Nat.lt_succ_of_lt (j2 j h)
            · rw [List.mem_singleton.mp h]; exact Nat.lt_succ_self i
      · obtain ⟨js, j1, j2, j3, e, b7, p7⟩ := inv
        rw [List.length_map, Int.toNat_natCast] at j2
        exact q D0 js H' (UL.But.free b1 p1 hD0) e j1 j2 p7 (But.tr b1 b7)
abbrev s__law_key : Stmt := top 71
abbrev sc__law_key_N : List Str := ["_law_row", "_law_names_here", ".0", "_law_name"]
theorem sc__law_key : FnScope sc__law_key_N ["_law_row", "_law_names_here"] (defScope s__law_key) := ⟨rfl, rfl, rfl, by decide +kernel, rfl, by decide +kernel, by decide +kernel⟩
-- 0 _law_row, 1 _law_names_here, 2 .0, 3 _law_name
def sp_lkey : Sp := fun vs H Q _ => ∃ (b D : Addr) (w ns : List Str), vs = [.ref b, .ref D] ∧ H b = some (.tup (w.map V.str)) ∧ H D = some (.lst (ns.map V.str)) ∧ w.length ≤ 1000 ∧ (∀ n ∈ w, n ∈ ns) ∧ ∀ t l H', Same H H' → H' t = some (.tup [.int (w.length : Nat), .ref l]) → H' l = some (.lst (w.map fun n => V.int (ns.idxOf n : Nat))) → Q (.ref t) H'
theorem d_lkey (T : Nm mg) (D : TD K mg "_law_key" s__law_key) : Dn P w K mg base CX0 1 "_law_key" sp_lkey := by
  refine D.dn sc__law_key (fun _ _ _ _ _ _ us hl => match us, hl with | [_, _], _ => rfl) (fun vs H Q E h => ?_) (fun f cdv A outer s H vs Q E hr h => ?_)
  · obtain ⟨b, d, w, ns, rfl, _⟩ := h; rfl
  · obtain ⟨b, d, w', ns, rfl, hb, hd, hl, hm, q⟩ := h
    refine ⟨_, (pss_one (ps_ret (pe_tup (pa_cons (pe_callB call_lenA (by rfl) T.n_len (by decide +kernel) (pa_cons (pv 0) pa_nil)) (pa_cons (pe_lc (own := [(".0", 2), ("_law_name", 3)]) (g := (gName 3)) (tt := tYes) rfl sc__law_key.nd (pi_tup (pv 0)) (blkOk_by (N := sc__law_key_N) (sc := defScope s__law_key) (by decide +kernel)) (fun _ _ _ _ _ => pg_name (i := 3) sc__law_key.nd rfl (Or.inl rfl)) (fun _ _ _ _ _ => pts_nil) (fun _ _ _ _ _ => (UX.pe_bmK K rfl PySem.F.plainAttrs_list PySem.F.slot_list_index PySem.F.type_list_index (UX.mt_indexK K rfl) (pv 1) (pa_cons (pv 3) pa_nil)))) pa_nil))))), ?_⟩
    walk_at "rd"
    refine lenT (.inl (.inl hb)) ?_
    refine ⟨⟨_, .inl (.inl hb)⟩, fun D0 hD0 => ?_⟩
    refine LJ.it (walk_tup (xs := w'.map V.str)) (fun i H' => H' D0 = some (.lst ((w'.take i).map fun n => V.int (ns.idxOf n : Nat))) ∧ Same H H') ⟨upd_same, UL.Same.new hD0⟩ (fun i H' _ inv => .inl (.inl (inv.2 _ _ hb))) (fun i x H' H2 hi inv y => ?_) fun H' inv => ?_
    · obtain ⟨rfl, hx⟩ := y
      obtain ⟨z, rfl, hz⟩ := map_at hx
      obtain ⟨e, s1⟩ := inv
      refine ⟨rfl, ?_⟩
      walk_at "rd"
      refine ⟨.inl ⟨rfl, _, .inl (.inl (s1 _ _ hd))⟩, idxL (s1 _ _ hd) (hm z (List.mem_of_getElem? hz)) ⟨_, e, by rw [List.length_map, List.length_take, sizeLine_eq]; omega, ?_, UL.Same.put s1 hD0⟩⟩
      rw [upd_same, List.take_add_one, hz, List.map_append]; rfl
    · obtain ⟨e, s1⟩ := inv
      rw [List.length_map, List.take_length] at e
      refine ⟨by rw [sizeLine_eq]; decide, fun T hT => ?_⟩
      rw [List.length_map]
      exact q T D0 _ (Same.tr s1 (UL.Same.new hT)) upd_same ((upd_ne (ne_of_none e hT)).trans e)
abbrev s__law_known_names : Stmt := top 70
abbrev sc__law_known_names_N : List Str := ["_law_pool_here", "_law_programs_here", "_law_known_here", "_law_names_here", "_law_which"]
theorem sc__law_known_names : FnScope sc__law_known_names_N ["_law_pool_here", "_law_programs_here", "_law_known_here"] (defScope s__law_known_names) := ⟨rfl, rfl, rfl, by decide +kernel, rfl, by decide +kernel, by decide +kernel⟩
-- 0 _law_pool_here, 1 _law_programs_here, 2 _law_known_here, 3 _law_names_here, 4 _law_which
/-- the names at places -/
def nmAt (qs : List Rw) (js : List Nat) (n : Str) : Prop := ∃ j ∈ js, ∃ q, qs[j]? = some q ∧ q.n = n
def sp_lkn : Sp := fun vs H Q _ => ∃ (p r l0 : Addr) (qs : List Rw) (js : List Nat), vs = [.ref p, .ref r, .ref l0] ∧ Pl H p ∧ PrL H r qs ∧ (∀ q ∈ qs, q.sl ≠ p) ∧ r ≠ p ∧ H l0 = some (.lst (js.map fun j => V.int (j : Nat))) ∧ l0 ≠ p ∧ (∀ j ∈ js, j < qs.length) ∧ js.length ≤ qs.length ∧ qs.length ≤ 4 ∧
  (js.length = qs.length → ∀ H', Pl H' p → But p H H' → Q .non H') ∧ ∀ (l : Addr) (ns : List Str) H', H l = none → H' l = some (.lst (ns.map V.str)) → (∀ n, n ∈ ns ↔ nmAt qs js n) → ns.length ≤ 8 → Pl H' p → But p H H' → Q (.ref l) H'
theorem d_lkn (T : Nm mg) (D : TD K mg "_law_known_names" s__law_known_names) (d__law_draw : Dn P w K mg base CX0 1 "_law_draw" sp_draw) : Dn P w K mg base CX0 2 "_law_known_names" sp_lkn := by
  refine D.dn sc__law_known_names (fun _ _ _ _ _ _ us hl => match us, hl with | [_, _, _], _ => rfl) (fun vs H Q E h => ?_) (fun f cdv A outer s H vs Q E hr h => ?_)
  · obtain ⟨p, r, l0, qs, js, rfl, _⟩ := h; rfl
  · obtain ⟨p, r, l0, qs, js, rfl, hp, hr0, hsl, hne, hl0, lp, jb, jl, ql, q1, q2⟩ := h
    refine ⟨_, (pss_cons (ps_if (pw_and (pt_cmpR (op_eqA (hr.units)) (pe_callB call_lenA (by rfl) T.n_len (by decide +kernel) (pa_cons (pv 2) pa_nil)) (pe_callB call_lenA (by rfl) T.n_len (by decide +kernel) (pa_cons (pv 1) pa_nil)) (nomark _)) (pw_and1 (pt_cmpR (op_eqA (hr.units)) (pe_d d__law_draw hr (by decide) pass0 (by rfl) (pa_cons (pv 0) (pa_cons pe_int pa_nil))) pe_int (nomark _)))).pt (pss_one (ps_ret pe_non)) pss_nil)
      (pss_cons (ps_set (i := 3) sc__law_known_names.nd rfl (Or.inl rfl) (pe_lst pa_nil))
      (pss_cons (ps_for PassesOwn.never rfl (pi_list (pv 2)) (pg_name (i := 4) sc__law_known_names.nd rfl (Or.inl rfl)) (pss_cons (ps_expr (pe_bm PySem.F.plainAttrs_list PySem.F.slot_list_insert PySem.F.type_list_insert mt_insertM (pv 3) (pa_cons (pe_d d__law_draw hr (by decide) pass0 (by rfl) (pa_cons (pv 0) (pa_cons (pe_op op_addA (pe_callB call_lenA (by rfl) T.n_len (by decide +kernel) (pa_cons (pv 3) pa_nil)) pe_int) pa_nil))) (pa_cons (pe_ix ix_seq (pe_ix ix_seq (pv 1) (pv 4) (fun _ _ => rfl)) pe_int (fun _ _ => rfl)) pa_nil))))
      (pss_one (ps_if (pt_cmpR (op_eqA (hr.units)) (pe_d d__law_draw hr (by decide) pass0 (by rfl) (pa_cons (pv 0) (pa_cons pe_int pa_nil))) pe_int (nomark _)) (pss_one (ps_expr (pe_bm PySem.F.plainAttrs_list PySem.F.slot_list_append PySem.F.type_list_append mt_append (pv 3) (pa_cons (pe_ix ix_seq (pe_ix ix_seq (pv 1) (pv 4) (fun _ _ => rfl)) pe_int (fun _ _ => rfl)) pa_nil)))) pss_nil))))
      (pss_one (ps_ret (pv 3)))))), ?_⟩
    walk_at "rd"
    have main : ∀ H1, Pl H1 p → But p H H1 → ∀ l, H1 l = none → (∃ xs, SqL K (upd H1 l (.lst [])) l0 xs) ∧ FJ (Itl K l0) (gName 4) (tSeq (tDrop (tBM K "list" rInsert (tVar 3) (tCons (tCall sp_draw [] E0 (tCons (tVar 0) (tCons (tOp (rAddA K) (tCB (cLen K) (tCons (tVar 3) tNil)) (tC (V.int 1))) tNil))) (tCons (tOp (rIx K) (tOp (rIx K) (tVar 1) (tVar 4)) (tC (V.int 0))) tNil)))) (tIfS (tTest (tOp (rEqA K) (tCall sp_draw [] E0 (tCons (tVar 0) (tCons (tC (V.int 4)) tNil))) (tC (V.int 3)))) (tDrop (tBM K "list" rAppend (tVar 3) (tCons (tOp (rIx K) (tOp (rIx K) (tVar 1) (tVar 4)) (tC (V.int 0))) tNil))) tNext)) { nx := tRet (tVar 3) { nx := fun x H' => Q V.non H', rt := Q }, rt := Q } [some (V.ref p), some (V.ref r), some (V.ref l0), some (V.ref l), none] (upd H1 l (.lst [])) := by
      intro H1 p1 b1 l hl
      have lp2 : l ≠ p := fun e => by obtain ⟨ns, z⟩ := p1; rw [e, z] at hl; cases hl
      have nD : ∀ {b : Addr} {o : HO}, H1 b = some o → b ≠ l := fun e => ne_of_none e hl
      have hl1 := b1 _ _ hl0 lp
      refine ⟨⟨_, .inl (.inl ((upd_ne (nD hl1)).trans hl1))⟩, FJ.list (xs := js.map fun j => V.int (j : Nat)) (fun i σ' H' => (∃ z, σ' = [some (.ref p), some (.ref r), some (.ref l0), some (.ref l), z]) ∧ ∃ ns : List Str, H' l = some (.lst (ns.map V.str)) ∧ (∀ n, n ∈ ns ↔ nmAt qs (js.take i) n) ∧ ns.length ≤ 2 * i ∧ Pl H' p ∧ But p H1 H') ⟨⟨_, rfl⟩, [], upd_same, fun n => ⟨fun h => (by cases h), fun ⟨j, hj, _⟩ => (by cases hj)⟩, Nat.le_refl _, let ⟨ms, e⟩ := p1; ⟨ms, (upd_ne (nD e)).trans e⟩, fun b o e _ => (upd_ne (nD e)).trans e⟩ (fun i σ' H' _ inv => ?_) (fun i x σ' H' hx inv => ?_) fun σ' H' inv => ?_⟩
      · obtain ⟨_, ns, _, _, _, _, b⟩ := inv
        exact .inl (.inl (b _ _ hl1 lp))
      · obtain ⟨⟨z, rfl⟩, ns, e, hns, nl, p2, b2⟩ := inv
        obtain ⟨j, rfl, hj⟩ : ∃ j, x = .int (j : Nat) ∧ js[i]? = some j := by
          rw [List.getElem?_map] at hx
          cases e : js[i]? with
          | none => rw [e] at hx; cases hx
          | some z => rw [e] at hx; cases hx; exact ⟨z, rfl, rfl⟩
        walk_at "rd"
        have il : i < js.length := (List.getElem?_eq_some_iff.mp hj).1
        have jq := jb j (List.mem_of_getElem? hj)
        have hq0 : qs[j]? = some qs[j] := List.getElem?_eq_getElem jq
        have hqm : qs[j] ∈ qs := List.getElem_mem jq
        have g1 := (hr0.2 _ hqm).1
        have gp : qs[j].r ≠ p := fun e => by obtain ⟨ms, hm⟩ := hp; rw [e, hm] at g1; cases g1
        have step : ∀ n, nmAt qs (js.take (i + 1)) n ↔ nmAt qs (js.take i) n ∨ n = qs[j].n := fun n => by
          unfold nmAt
          rw [List.take_add_one, hj]
          constructor
          · rintro ⟨j', hj', q', hq', e'⟩
            rcases List.mem_append.mp hj' with h | h
            · exact .inl ⟨j', h, q', hq', e'⟩
            · have : j' = j := by simpa using h
              rw [this, hq0] at hq'
              cases hq'
              exact .inr e'.symm
          · rintro (⟨j', hj', q', hq', e'⟩ | rfl)
            · exact ⟨j', List.mem_append_left _ hj', q', hq', e'⟩
            · exact ⟨j, List.mem_append_right _ (by simp), _, hq0, rfl⟩
        refine ⟨.inl ⟨rfl, _, .inl (.inl e)⟩, lenL (.inl (.inl e)) (addII.mpr (drawI (by omega) p2 fun k H3 k0 k1 p3 b3 => ?_))⟩
        rw [List.length_map] at k1
        have b23 := But.tr b2 b3
        have bAll := But.tr b1 b23
        have e3 := b3 _ _ e lp2
        have g3 := bAll _ _ g1 gp
        have hix : ∀ {H' : Hp} {R : VK}, H' r = some (.lst (qs.map fun q => V.ref q.r)) → H' qs[j].r = some (.tup [.str qs[j].n, .ref qs[j].sl]) → R (.str qs[j].n) H' → rIx K (.ref r) (.int (j : Nat)) H' fun x H'' => rIx K x (.int 0) H'' R := fun {H' R} h1 h2 q => by
          refine ixL (.inl (.inl h1)) (atN (v := .ref qs[j].r) (by rw [List.getElem?_map, hq0]; rfl)) (ixT (.inl (.inl h2)) (show atI _ ((0 : Nat) : Int) = some (V.str qs[j].n) from atN rfl) q)
        refine hix (bAll _ _ hr0.1 hne) g3 ⟨l, _, k, _, rfl, rfl, e3, by rw [List.length_map, sizeLine_eq]; omega, k0, by omega, ?_⟩
        have lH3 : ∀ {b : Addr} {o : HO}, H3 b = some o → b ≠ l → ∀ o', upd H3 l o' b = some o := fun e n _ => (upd_ne n).trans e
        have rl : r ≠ l := nD (b1 _ _ hr0.1 hne)
        have ql2 : qs[j].r ≠ l := nD (b1 _ _ g1 gp)
        have eN : (ns.map V.str).take k.toNat ++ [V.str qs[j].n] ++ (ns.map V.str).drop k.toNat = (ns.take k.toNat ++ [qs[j].n] ++ ns.drop k.toNat).map V.str := by rw [List.map_append, List.map_append, List.map_take, List.map_drop]; rfl
        rw [eN]
        have mN : ∀ n, n ∈ ns.take k.toNat ++ [qs[j].n] ++ ns.drop k.toNat ↔ n ∈ ns ∨ n = qs[j].n := fun n => by
          conv => rhs; rw [← List.take_append_drop k.toNat ns]
          simp only [List.mem_append, List.mem_singleton]
          exact ⟨fun h => by rcases h with (h | h) | h <;> simp [h], fun h => by rcases h with (h | h) | h <;> simp [h]⟩
        have lN : (ns.take k.toNat ++ [qs[j].n] ++ ns.drop k.toNat).length = ns.length + 1 := by
          rw [List.length_append, List.length_append, List.length_take, List.length_drop]; show _ + 1 + _ = _; omega
        generalize ns.take k.toNat ++ [qs[j].n] ++ ns.drop k.toNat = ns' at mN lN ⊢
        have p4 : Pl (upd H3 l (.lst (ns'.map V.str))) p := let ⟨ms, e⟩ := p3; ⟨ms, (upd_ne (Ne.symm lp2)).trans e⟩
        have b4 : But p H1 (upd H3 l (.lst (ns'.map V.str))) := fun b o e n => (upd_ne (nD e)).trans (b23 b o e n)
        have e4 : upd H3 l (.lst (ns'.map V.str)) l = some (.lst (ns'.map V.str)) := upd_same
        generalize upd H3 l (.lst (ns'.map V.str)) = H4 at p4 b4 e4 ⊢
        refine drawI (by decide) p4 fun y H5 y0 y1 p5 b5 => eqII.mpr ⟨_, rfl, ?_⟩
        have b45 := But.tr b4 b5
        have e5 := b5 _ _ e4 lp2
        have bA5 := But.tr b1 b45
        by_cases c3 : y = 3
        · rw [if_pos (by simp [c3])]
          refine ⟨.inl ⟨rfl, _, .inl (.inl e5)⟩, hix (bA5 _ _ hr0.1 hne) (bA5 _ _ g1 gp) ⟨l, _, _, rfl, rfl, e5, by rw [List.length_map, sizeLine_eq]; omega, ⟨_, rfl⟩, ns' ++ [qs[j].n], by rw [upd_same, List.map_append]; rfl, fun n => ?_, by rw [List.length_append]; show ns'.length + 1 ≤ _; omega, let ⟨ms, e⟩ := p5; ⟨ms, (upd_ne (Ne.symm lp2)).trans e⟩, fun b o e n => (upd_ne (nD e)).trans (b45 b o e n)⟩⟩
          rw [step, List.mem_append, mN, hns, List.mem_singleton]
          exact ⟨fun h => by rcases h with (h | h) | h <;> simp [h], fun h => .inl h⟩
        · rw [if_neg (by simp [c3])]
          exact ⟨⟨_, rfl⟩, ns', e5, fun n => by rw [step, mN, hns], by omega, p5, b45⟩
      · obtain ⟨⟨z, rfl⟩, ns, e, hns, nl, p2, b2⟩ := inv
        rw [List.length_map, List.take_length] at hns
        rw [List.length_map] at nl
        walk_at "rd"
        exact q2 l ns H' (UL.But.free b1 p1 hl) e hns (by omega) p2 (But.tr b1 b2)
    refine lenL (.inl (.inl hl0)) (lenL (.inl (.inl hr0.1)) (eqII.mpr ⟨_, rfl, ?_⟩))
    rw [List.length_map, List.length_map]
    by_cases c : js.length = qs.length
    · rw [if_pos (by simp [c])]
      refine drawI (by decide) hp fun y H1 y0 y1 p1 b1 => eqII.mpr ⟨_, rfl, ?_⟩
      by_cases c2 : y = 0
      · rw [if_pos (by simp [c2])]
        exact q1 c H1 p1 b1
      · rw [if_neg (by simp [c2])]
        exact main H1 p1 b1
    · rw [if_neg (by simp; omega)]
      exact main H hp fun b o e _ => e
end
end U
set_option Elab.async false
set_option linter.all false
set_option maxRecDepth 100000
set_option maxHeartbeats 4000000
set_option pp.deepTerms true
set_option pp.maxSteps 400000
namespace U
open PySem PySem.Spec PyProof.Rows L2 UL UX
local macro_rules | `(tactic| walk_at "rd") => `(tactic| simp only [sMatch, tJs, tFmt, tBC, tMethA, tMakeL, iEnumS, tSeq, tAsg, tOp, tCB, tCons, tNil, tVar, tC, tB, tTest, tNot, tIfS, tNext, tYes, tUn, rU, tM0, tGFrom, tGThen, tG0, tYfLst, gcxK, tSubO, tProp, tListG, tMethG, tBMF, tFld, sFld, tMeth, tMake, tSl, tNoPart, tPart, tM1, gTup, gCons, gNil, tDrop, tFor_eq, tLc_eq, tLc2_eq, iRng1_eq, StX.tStar, iList, iTup, iStr, iAny_var, iZipB, tLenSetS, wipe, tVar, tAndV, tOrV, tNotV, tOr, tAnd, tLst, tTup, tBM, tBM0, tChain, tCall, cxK, noxK, addII, addSS, mulII, eqII, neII, neSS, cIntI, cAbsI, rI, rI0, rLt, rLe, rGt_, rGe_, rSub_, rMod, rPow, rDivW, rNeg, gName, tRet, L2.start, List.length_cons, List.length_nil, List.map_cons, List.map_nil, List.replicate, List.cons_append, List.nil_append, List.getElem?_cons_zero, List.getElem?_cons_succ, List.set_cons_zero, List.set_cons_succ, Option.some.injEq, exists_eq_left', exists_eq_left, V.int.injEq, V.bl.injEq, V.str.injEq, V.ref.injEq, V.ty.injEq, List.cons.injEq, and_true, true_and, reduceCtorEq, false_and, exists_false, or_false, false_or, exists_and_left, exists_and_right, List.append_nil, forall_eq, decide_eq_true_eq, Bool.not_eq_true, Nat.reduceAdd, Nat.reduceSub, List.replicate_zero, List.replicate_succ, Nat.zero_le, ite_true, ite_false, if_true, if_false])
section
variable {P : Program} {w : World} {K : PySem.W.Frag} {mg : Str → Option Value} {base : Heap}
open UV UW NdefX ClX
/-! pairs of a state and a row, as the law looks at them -/
theorem inVn_yes {z : Nat} {xs : List Nat} (h : z ∈ xs) : inV (.int (z : Nat)) (xs.map fun j => V.int (j : Nat)) = true := by
  unfold inV
  rw [List.any_eq_true]
  exact ⟨.int (z : Nat), List.mem_map_of_mem (f := fun j : Nat => V.int (j : Nat)) h, by simp [eqV]⟩
abbrev s__law_pairs : Stmt := top 72
abbrev sc__law_pairs_N : List Str := ["_law_found", "_law_names_here", "_law_reach", "_law_pair", "_law_name"]
theorem sc__law_pairs : FnScope sc__law_pairs_N ["_law_found", "_law_names_here", "_law_reach"] (defScope s__law_pairs) := ⟨rfl, rfl, rfl, by decide +kernel, rfl, by decide +kernel, by decide +kernel⟩
-- 0 _law_found, 1 _law_names_here, 2 _law_reach, 3 _law_pair, 4 _law_name
def sp_lpairs : Sp := fun vs H Q _ => ∃ (l D l0 : Addr) (Rs : List (List Int × List Str)) (ns : List Str) (js : List Nat), vs = [.ref l, .ref D, .ref l0] ∧ PaL H l Rs ∧ H D = some (.lst (ns.map V.str)) ∧ H l0 = some (.lst (js.map fun j => V.int (j : Nat))) ∧ (∀ r ∈ Rs, ∀ n ∈ r.2, n ∈ ns ∧ ns.idxOf n ∈ js) ∧ Q (.bl true) H
theorem d_lpairs (T : Nm mg) (D : TD K mg "_law_pairs" s__law_pairs) : Dn P w K mg base CX0 1 "_law_pairs" sp_lpairs := by
  refine D.dn sc__law_pairs (fun _ _ _ _ _ _ us hl => match us, hl with | [_, _, _], _ => rfl) (fun vs H Q E h => ?_) (fun f cdv A outer s H vs Q E hr h => ?_)
  · obtain ⟨l, d, l0, Rs, ns, js, rfl, _⟩ := h; rfl
  · obtain ⟨l, d, l0, Rs, ns, js, rfl, ⟨ts, hl, hts⟩, hd, h0, hm, q⟩ := h
    refine ⟨_, (pss_cons (ps_if (pt_not (pt_val (pe_callB call_isi (by rfl) T.n_isinstance (by decide +kernel) (pa_cons (pv 0) (pa_cons (pe_bltn (v := .ty "list") (by rfl) T.n_list (by decide +kernel) rfl) pa_nil))))) (pss_one (ps_ret pe_bl)) pss_nil)
      (pss_cons (ps_for PassesOwn.never rfl (pi_list (pv 0)) (pg_name (i := 3) sc__law_pairs.nd rfl (Or.inl rfl)) (pss_cons (ps_if (pw_or (pt_not (pt_val (pe_callB call_isi (by rfl) T.n_isinstance (by decide +kernel) (pa_cons (pv 3) (pa_cons (pe_bltn (v := .ty "tuple") (by rfl) T.n_tuple (by decide +kernel) rfl) pa_nil))))) (pw_or (pt_cmpR (op_neA (hr.units)) (pe_callB call_lenA (by rfl) T.n_len (by decide +kernel) (pa_cons (pv 3) pa_nil)) pe_int (nomark _)) (pw_or1 (pt_not (pt_val (pe_callB call_isi (by rfl) T.n_isinstance (by decide +kernel) (pa_cons (pe_ix ix_seq (pv 3) pe_int (fun _ _ => rfl)) (pa_cons (pe_bltn (v := .ty "tuple") (by rfl) T.n_tuple (by decide +kernel) rfl) pa_nil)))))))).pt (pss_one (ps_ret pe_bl)) pss_nil)
      (pss_one (ps_for PassesOwn.never rfl (pi_tup (pe_ix ix_seq (pv 3) pe_int (fun _ _ => rfl))) (pg_name (i := 4) sc__law_pairs.nd rfl (Or.inl rfl)) (pss_one (ps_if (pw_or (pt_not (pt_val (pe_callB call_isi (by rfl) T.n_isinstance (by decide +kernel) (pa_cons (pv 4) (pa_cons (pe_bltn (v := .ty "str") (by rfl) T.n_str (by decide +kernel) rfl) pa_nil))))) (pw_or (pt_cmpR op_ninA (pv 4) (pv 1) (by with_unfolding_all rfl)) (pw_or1 (pt_cmpR op_ninA (pe_bm PySem.F.plainAttrs_list PySem.F.slot_list_index PySem.F.type_list_index mt_index (pv 1) (pa_cons (pv 4) pa_nil)) (pv 2) (by with_unfolding_all rfl))))).pt (pss_one (ps_ret pe_bl)) pss_nil))))))
      (pss_one (ps_ret pe_bl)))), ?_⟩
    walk_at "rd"
    refine isLst hl (q := ⟨true, rfl, ?_⟩)
    rw [if_neg (by decide)]
    refine ⟨⟨_, .inl (.inl hl)⟩, FJ.list (xs := ts.map V.ref) (fun i σ' H' => (∃ y z, σ' = [some (.ref l), some (.ref d), some (.ref l0), y, z]) ∧ H' = H) ⟨⟨_, _, rfl⟩, rfl⟩ (fun i σ' H' _ inv => by rw [inv.2]; exact .inl (.inl hl)) (fun i x σ' H' hx inv => ?_) fun σ' H' inv => ?_⟩
    · obtain ⟨⟨y, z, rfl⟩, rfl⟩ := inv
      obtain ⟨t, rfl, ht⟩ : ∃ t, x = .ref t ∧ ts[i]? = some t := by
        rw [List.getElem?_map] at hx
        cases e : ts[i]? with
        | none => rw [e] at hx; cases hx
        | some z => rw [e] at hx; cases hx; exact ⟨z, rfl, rfl⟩
      obtain ⟨rw0, hr0, a, b, g1, g2, g3⟩ := paired_at hts ht
      have hm0 := hm rw0 (List.mem_of_getElem? hr0)
      walk_at "rd"
      refine isTup g1 (q := ⟨true, rfl, ?_⟩)
      rw [if_neg (by decide)]
      refine lenT (.inl (.inl g1)) (neII.mpr ⟨_, rfl, ?_⟩)
      rw [if_neg (by simp)]
      have e1 : atI [V.ref a, V.ref b] 1 = some (V.ref b) := rfl
      refine ixT (.inl (.inl g1)) e1 (isTup g3 (q := ⟨true, rfl, ?_⟩))
      rw [if_neg (by decide)]
      refine ixT (.inl (.inl g1)) e1 ⟨b, rfl, ⟨_, .inl (.inl g3)⟩, FJ.tup (xs := rw0.2.map V.str) (fun i σ' H2 => (∃ z, σ' = [some (.ref l), some (.ref d), some (.ref l0), some (.ref t), z]) ∧ H2 = H') ⟨⟨_, rfl⟩, rfl⟩ (fun i σ' H' _ inv => by rw [inv.2]; exact .inl (.inl g3)) (fun i x σ' H2 hx inv => ?_) fun σ' H2 inv => ?_⟩
      · obtain ⟨⟨z, rfl⟩, rfl⟩ := inv
        obtain ⟨n, rfl, hn⟩ := map_at hx
        obtain ⟨m1, m2⟩ := hm0 n (List.mem_of_getElem? hn)
        walk_at "rd"
        refine isiS (r := true) (by rfl) ⟨true, rfl, ?_⟩
        rw [if_neg (by decide)]
        refine .inr ⟨d, _, rfl, .inl (.inl (.inl hd)), rfl, flat_strs ns, _, rfl, ?_⟩
        rw [if_pos rfl, inV_yes m1, if_neg (by decide)]
        refine ⟨.inl ⟨rfl, _, .inl (.inl hd)⟩, idxL hd m1 (.inr ⟨l0, _, rfl, .inl (.inl (.inl h0)), rfl, ?_, _, rfl, ?_⟩)⟩
        · rw [List.all_map, List.all_eq_true]; intro j _; rfl
        · rw [if_pos rfl, inVn_yes m2, if_neg (by decide)]
          exact ⟨⟨_, rfl⟩, rfl⟩
      · obtain ⟨⟨z, rfl⟩, rfl⟩ := inv
        exact ⟨⟨_, _, rfl⟩, rfl⟩
    · obtain ⟨⟨y, z, rfl⟩, rfl⟩ := inv
      walk_at "rd"
      exact q
theorem dpa_ts {H : Hp} : ∀ {ts : List Addr} {L : List (List Int)}, TS H ts L → DpAll K H (ts.map V.ref) (L.map fun s => .tuple (s.map .int))
  | _, _, .nil => .nil
  | _, _, .cons h r => .cons (.tup (.inl (.inl h)) dpa_ints) (dpa_ts r)
theorem sh_ts {L : List (List Int)} : ∀ d ∈ L.map (fun s => PyData.tuple (s.map .int)), Sh 1 d := fun d hd => by
  obtain ⟨s, _, rfl⟩ := List.mem_map.mp hd
  exact Sh.tup sh_ints
theorem any_ts {L : List (List Int)} {s : List Int} : ((L.map fun s => PyData.tuple (s.map .int)).any fun z => PyData.eqv z (.tuple (s.map .int))) = decide (s ∈ L) := by
  rw [List.any_map]
  induction L with
  | nil => rfl
  | cons t r ih =>
    rw [List.any_cons, ih]
    have e : ((fun z => PyData.eqv z (.tuple (s.map .int))) ∘ fun s => PyData.tuple (s.map .int)) t = decide (t = s) := eqv_ints t s
    rw [e, Bool.eq_iff_iff]
    simp only [Bool.or_eq_true, decide_eq_true_eq, List.mem_cons]
    exact ⟨fun h => h.imp Eq.symm id, fun h => h.imp Eq.symm id⟩
theorem inTs {H : Hp} {Q : VK} {t a : Addr} {s : List Int} {ts : List Addr} {L : List (List Int)} (ht : H t = some (.tup (s.map V.int))) (ha : H a = some (.lst (ts.map V.ref))) (hts : TS H ts L) (q : Q (.bl (decide (s ∈ L))) H) : rInD K (.ref t) (.ref a) H Q :=
  ⟨_, _, .tup (.inl (.inl ht)) dpa_ints, .lst (.inl (.inl ha)) (dpa_ts hts), (Sh.tup sh_ints).shaped (by decide), (Sh.lst sh_ts).shaped (by decide), by rw [any_ts]; exact q⟩
theorem ninTs {H : Hp} {Q : VK} {t a : Addr} {s : List Int} {ts : List Addr} {L : List (List Int)} (ht : H t = some (.tup (s.map V.int))) (ha : H a = some (.lst (ts.map V.ref))) (hts : TS H ts L) (q : Q (.bl (!decide (s ∈ L))) H) : rNotInD K (.ref t) (.ref a) H Q :=
  ⟨_, _, .tup (.inl (.inl ht)) dpa_ints, .lst (.inl (.inl ha)) (dpa_ts hts), (Sh.tup sh_ints).shaped (by decide), (Sh.lst sh_ts).shaped (by decide), by rw [any_ts]; exact q⟩
/-- the place of a state in a list of states -/
theorem ixTs {H : Hp} {Q : VK} {t a : Addr} {s : List Int} {ts : List Addr} {L : List (List Int)} {j : Nat} (ht : H t = some (.tup (s.map V.int))) (ha : H a = some (.lst (ts.map V.ref))) (hts : TS H ts L) (hn : L.Nodup) (hj : L[j]? = some s) (q : Q (.int (j : Nat)) H) : rIndexD K (.ref a) [.ref t] H Q := by
  refine ⟨a, .ref t, _, _, j, .tuple (s.map .int), rfl, rfl, .lst (.inl (.inl ha)) (dpa_ts hts), .tup (.inl (.inl ht)) dpa_ints, (Sh.lst sh_ts).shaped (by decide), (Sh.tup sh_ints).shaped (by decide), by rw [List.getElem?_map, hj]; rfl, by rw [eqv_ints]; simp, fun m z' hm hz => ?_, q⟩
  rw [List.getElem?_map] at hz
  obtain ⟨y, hy, rfl⟩ := Option.map_eq_some_iff.mp hz
  rw [eqv_ints]
  refine decide_eq_false fun e => ?_
  subst e
  have il := (List.getElem?_eq_some_iff.mp hy).1
  have := (List.getElem?_inj il hn).mp (hy.trans hj.symm)
  omega
/-- the addresses of pairs -/
theorem PaL.split {H : Hp} : ∀ {ts : List Addr} {Rs : List (List Int × List Str)}, Paired (fun (t : Addr) (r : List Int × List Str) => ∃ a b, H t = some (.tup [.ref a, .ref b]) ∧ H a = some (.tup (r.1.map V.int)) ∧ H b = some (.tup (r.2.map V.str))) ts Rs →
    ∃ xs : List (Addr × Addr × Addr), ts = xs.map (·.1) ∧ Paired (fun x r => H x.1 = some (.tup [.ref x.2.1, .ref x.2.2]) ∧ H x.2.1 = some (.tup (r.1.map V.int)) ∧ H x.2.2 = some (.tup (r.2.map V.str))) xs Rs
  | _, _, .nil => ⟨[], rfl, .nil⟩
  | t :: _, _, .cons ⟨a, b, h⟩ g => by
    obtain ⟨xs, e, p⟩ := PaL.split g
    exact ⟨(t, a, b) :: xs, by rw [e]; rfl, .cons h p⟩
theorem keyLt {H : Hp} {Q : VK} {ix : Str → Int} {t1 l1 t2 l2 : Addr} {w1 w2 : List Str} (h1 : H t1 = some (.tup [.int (w1.length : Nat), .ref l1])) (g1 : H l1 = some (.lst ((w1.map ix).map V.int))) (h2 : H t2 = some (.tup [.int (w2.length : Nat), .ref l2])) (g2 : H l2 = some (.lst ((w2.map ix).map V.int))) (q : Q (.bl (UX.ltK (kyW ix w1) (kyW ix w2))) H) : UX.rLtK K (.ref t1) (.ref t2) H Q :=
  ⟨kyW ix w1, kyW ix w2, .tup (.inl (.inl h1)) (.cons (.int _) (.cons (.lst (.inl (.inl g1)) dpa_ints) .nil)), .tup (.inl (.inl h2)) (.cons (.int _) (.cons (.lst (.inl (.inl g2)) dpa_ints) .nil)), q⟩
theorem paired_take {α β : Type} {F : α → β → Prop} : ∀ (i : Nat) {xs : List α} {ys : List β}, Paired F xs ys → Paired F (xs.take i) (ys.take i)
  | 0, _, _, _ => .nil
  | _ + 1, _, _, .nil => .nil
  | i + 1, _, _, .cons a b => .cons a (paired_take i b)
theorem endW_mem {f : Str → List Int → List Int} {S : List (List Int)} : ∀ {w : List Str} {st : List Int}, st ∈ S → (∀ n ∈ w, ∀ s ∈ S, f n s ∈ S) → endW f w st ∈ S
  | [], _, h, _ => h
  | n :: w, st, h, g => endW_mem (w := w) (g n List.mem_cons_self st h) fun m hm => g m (List.mem_cons_of_mem _ hm)
theorem asc_at {ix : Str → Int} {L : List (List Int × List Str)} (h : L.Pairwise (RL ix)) {i j : Nat} {a b : List Int × List Str} (ha : L[i]? = some a) (hb : L[j]? = some b) (hij : i < j) : RL ix a b := by
  obtain ⟨i1, rfl⟩ := List.getElem?_eq_some_iff.mp ha
  obtain ⟨j1, rfl⟩ := List.getElem?_eq_some_iff.mp hb
  exact List.pairwise_iff_getElem.mp h i j i1 j1 hij
theorem catRow {H : Hp} {Q : VK} {a b : Addr} {xs ys : List V} (ha : H a = some (.tup xs)) (hb : H b = some (.tup ys)) (hn : ys ≠ []) (hl : xs.length + ys.length ≤ sizeLine) (q : ∀ c H', Same H H' → H' c = some (.tup (xs ++ ys)) → Q (.ref c) H') : rAddA K (.ref a) (.ref b) H Q :=
  .inr (.inr (.inl ⟨a, b, xs, ys, rfl, rfl, .inl (.inl ha), .inl (.inl hb), hl, fun e => q b H (fun _ _ z => z) (by rw [e]; exact hb), fun _ e => absurd e hn, fun _ _ p hp => q p _ (UL.Same.new hp) upd_same⟩))
def ixN (qs : List Rw) (n : Str) : Int := ((qs.map (·.n)).idxOf n : Nat)
abbrev s__law_least : Stmt := top 73
abbrev sc__law_least_N : List Str := ["_law_found", "_law_names_here", "_law_programs_here", "_law_reach", "_law_cells_here", "_law_tables_here", "_law_size", "_law_states_here", "_law_k", "_law_store", "_law_name", "_law_which", "_law_end", "_law_row", ".0", "_law_pair"]
theorem sc__law_least : FnScope sc__law_least_N ["_law_found", "_law_names_here", "_law_programs_here", "_law_reach", "_law_cells_here", "_law_tables_here", "_law_size"] (defScope s__law_least) := ⟨rfl, rfl, rfl, by decide +kernel, rfl, by decide +kernel, by decide +kernel⟩
-- 0 _law_found, 1 _law_names_here, 2 _law_programs_here, 3 _law_reach, 4 _law_cells_here, 5 _law_tables_here, 6 _law_size, 7 _law_states_here, 8 _law_k, 9 _law_store, 10 _law_name, 11 _law_which, 12 _law_end, 13 _law_row, 14 .0, 15 _law_pair
def sp_lleast : Sp := fun vs H Q _ => ∃ (u : Mw) (l D r l0 ca td : Addr) (Rs : List (List Int × List Str)) (qs : List Rw) (js : List Nat) (kn : List Str) (tv : Str → Option (List Int)) (st : List Int), vs = [.ref l, .ref D, .ref r, .ref l0, .ref ca, .ref td, .int u.sz] ∧ PaL H l Rs ∧ H D = some (.lst ((qs.map (·.n)).map V.str)) ∧ PrL H r qs ∧ H l0 = some (.lst (js.map fun j => V.int (j : Nat))) ∧ H ca = some (.lst (u.cs.map V.str)) ∧ TdH H td tv ∧ DueOk u qs tv ∧ st ∈ sts u.sz u.cs.length ∧ qs.length ≤ 100 ∧
  (∀ j ∈ js, ∃ q, qs[j]? = some q ∧ q.n ∈ kn) ∧ (∀ n ∈ kn, n ∈ qs.map (·.n)) ∧ RLeast u.endS kn (ixN qs) st Rs ∧ Clo u.endS kn (ixN qs) Rs Rs ∧ RwsOk (sts u.sz u.cs.length) Rs [] ∧ ∀ H', Same H H' → Q (.bl true) H'
theorem d_lleast (T : Nm mg) (D : TD K mg "_law_least" s__law_least) (d__law_alone : Dn P w K mg base CX0 2 "_law_alone" sp_lalone) (d__law_same : Dn P w K mg base CX0 2 "_law_same" sp_same) (d__law_key : Dn P w K mg base CX0 1 "_law_key" sp_lkey) : Dn P w K mg base CX0 3 "_law_least" sp_lleast := by
  refine D.dn sc__law_least (fun _ _ _ _ _ _ us hl => match us, hl with | [_, _, _, _, _, _, _], _ => rfl) (fun vs H Q E h => ?_) (fun f cdv A outer s H vs Q E hr h => ?_)
  · obtain ⟨u, l, D, r, l0, ca, td, Rs, qs, js, kn, tv, st, rfl, _⟩ := h; rfl
  · obtain ⟨u, l, d, r, l0, ca, td, Rs, qs, js, kn, tv, st, rfl, ⟨ts, hl, hts⟩, hd, hr0, h0, hca, htd, hu, hst, q100, hjs, hkn, hL, hC, hok, q⟩ := h
    refine ⟨_, (pss_cons (ps_setLc (i := 7) (own := [(".0", 14), ("_law_pair", 15)]) (g := (gName 15)) (tt := tYes) rfl sc__law_least.nd rfl rfl (sw_true rfl rfl rfl (by decide +kernel)) (pi_list (pv 0)) (blkOk_by (N := sc__law_least_N) (sc := defScope s__law_least) (by decide +kernel)) (fun _ _ _ _ _ => pg_name (i := 15) sc__law_least.nd rfl (Or.inl rfl)) (fun _ _ _ _ _ => pts_nil) (fun _ _ _ _ _ => (pe_ix (ix_seqK K rfl) (pv 15) pe_int (fun _ _ => rfl))))
      (pss_cons (ps_for PassesOwn.never rfl (pi_range1 (by rfl) T.n_range (pa_cons (pe_callB call_lenA (by rfl) T.n_len (by decide +kernel) (pa_cons (pv 0) pa_nil)) pa_nil)) (pg_name (i := 8) sc__law_least.nd rfl (Or.inl rfl)) (pss_cons (ps_if (pt_cmpR (op_inDK K rfl (rm65 hr)) (pe_ix ix_seq (pe_ix ix_seq (pv 0) (pv 8) (fun _ _ => rfl)) pe_int (fun _ _ => rfl)) (pe_slice sl_list (pv 7) po_none (po_some (pv 8))) (by with_unfolding_all rfl)) (pss_one (ps_ret pe_bl)) pss_nil)
      (pss_cons (ps_set (i := 9) sc__law_least.nd rfl (Or.inl rfl) (pe_ix ix_seq (pe_ix ix_seq (pv 0) pe_int (fun _ _ => rfl)) pe_int (fun _ _ => rfl)))
      (pss_cons (ps_for PassesOwn.never rfl (pi_tup (pe_ix ix_seq (pe_ix ix_seq (pv 0) (pv 8) (fun _ _ => rfl)) pe_int (fun _ _ => rfl))) (pg_name (i := 10) sc__law_least.nd rfl (Or.inl rfl)) (pss_one (ps_set (i := 9) sc__law_least.nd rfl (Or.inl rfl) (pe_d d__law_alone hr (by decide) pass0 (by rfl) (pa_cons (pe_ix ix_seq (pe_ix ix_seq (pv 2) (pe_bm PySem.F.plainAttrs_list PySem.F.slot_list_index PySem.F.type_list_index mt_index (pv 1) (pa_cons (pv 10) pa_nil)) (fun _ _ => rfl)) pe_int (fun _ _ => rfl)) (pa_cons (pv 4) (pa_cons (pv 9) (pa_cons (pv 5) (pa_cons (pv 6) pa_nil)))))))))
      (pss_cons (ps_if (pt_not (pt_val (pe_d d__law_same hr (by decide) pass0 (by rfl) (pa_cons (pe_ix ix_seq (pe_ix ix_seq (pv 0) (pv 8) (fun _ _ => rfl)) pe_int (fun _ _ => rfl)) (pa_cons (pv 9) pa_nil))))) (pss_one (ps_ret pe_bl)) pss_nil)
      (pss_cons (ps_if (pw_and (pt_cmpR op_gtA (pv 8) pe_int (nomark _)) (pw_and1 (pt_not (pt_cmpR (UX.op_ltK K rfl (rm65 hr)) (pe_d d__law_key hr (by decide) pass0 (by rfl) (pa_cons (pe_ix ix_seq (pe_ix ix_seq (pv 0) (pe_op op_subA (pv 8) pe_int) (fun _ _ => rfl)) pe_int (fun _ _ => rfl)) (pa_cons (pv 1) pa_nil))) (pe_d d__law_key hr (by decide) pass0 (by rfl) (pa_cons (pe_ix ix_seq (pe_ix ix_seq (pv 0) (pv 8) (fun _ _ => rfl)) pe_int (fun _ _ => rfl)) (pa_cons (pv 1) pa_nil))) (nomark _))))).pt (pss_one (ps_ret pe_bl)) pss_nil)
      (pss_one (ps_for PassesOwn.never rfl (pi_list (pv 3)) (pg_name (i := 11) sc__law_least.nd rfl (Or.inl rfl)) (pss_cons (ps_set (i := 12) sc__law_least.nd rfl (Or.inl rfl) (pe_d d__law_alone hr (by decide) pass0 (by rfl) (pa_cons (pe_ix ix_seq (pe_ix ix_seq (pv 2) (pv 11) (fun _ _ => rfl)) pe_int (fun _ _ => rfl)) (pa_cons (pv 4) (pa_cons (pv 9) (pa_cons (pv 5) (pa_cons (pv 6) pa_nil)))))))
      (pss_cons (ps_if (pt_cmpR (op_ninDK K rfl (rm65 hr)) (pv 12) (pv 7) (by with_unfolding_all rfl)) (pss_one (ps_ret pe_bl)) pss_nil)
      (pss_cons (ps_set (i := 13) sc__law_least.nd rfl (Or.inl rfl) (pe_op op_addA (pe_ix ix_seq (pe_ix ix_seq (pv 0) (pv 8) (fun _ _ => rfl)) pe_int (fun _ _ => rfl)) (pe_tup (pa_cons (pe_ix ix_seq (pv 1) (pv 11) (fun _ _ => rfl)) pa_nil))))
      (pss_one (ps_if (pt_cmpR (UX.op_ltK K rfl (rm65 hr)) (pe_d d__law_key hr (by decide) pass0 (by rfl) (pa_cons (pv 13) (pa_cons (pv 1) pa_nil))) (pe_d d__law_key hr (by decide) pass0 (by rfl) (pa_cons (pe_ix ix_seq (pe_ix ix_seq (pv 0) (pe_bm PySem.F.plainAttrs_list PySem.F.slot_list_index PySem.F.type_list_index (mt_indexD (rm65 hr)) (pv 7) (pa_cons (pv 12) pa_nil)) (fun _ _ => rfl)) pe_int (fun _ _ => rfl)) (pa_cons (pv 1) pa_nil))) (nomark _)) (pss_one (ps_ret pe_bl)) pss_nil)))))))))))))
      (pss_one (ps_ret pe_bl)))), ?_⟩
    obtain ⟨xs, rfl, hxs⟩ := PaL.split hts
    have lx : xs.length = Rs.length := plenQ hxs
    have hN : (sts u.sz u.cs.length).length ≤ 1000 := sts27 hu.s3 hu.c3
    have hsz := hok.size
    rw [List.map_map] at hl
    have hl : H l = some (.lst (xs.map fun x => V.ref x.1)) := hl
    walk_at "rd"
    refine ⟨⟨_, .inl (.inl hl)⟩, fun D1 hD1 => LJ.it (walk_list (xs := xs.map fun x => V.ref x.1)) (fun i H' => H' D1 = some (.lst ((xs.take i).map fun x => V.ref x.2.1)) ∧ Same H H') ⟨upd_same, UL.Same.new hD1⟩ (fun i H' _ inv => .inl (.inl (inv.2 _ _ hl))) (fun i y H' H'' hi inv yy => ?_) fun H1 inv => ?_⟩
    · obtain ⟨rfl, hx⟩ := yy
      obtain ⟨e, s1⟩ := inv
      obtain ⟨x0, rfl, hx0⟩ : ∃ x0, y = .ref x0.1 ∧ xs[i]? = some x0 := by
        rw [List.getElem?_map] at hx
        cases e : xs[i]? with
        | none => rw [e] at hx; cases hx
        | some z => rw [e] at hx; cases hx; exact ⟨z, rfl, rfl⟩
      obtain ⟨r0, hr1, g1, g2, g3⟩ := paired_at hxs hx0
      refine ⟨rfl, ?_⟩
      walk_at "rd"
      refine ixT (.inl (.inl (s1 _ _ g1))) (show atI _ ((0 : Nat) : Int) = some (V.ref x0.2.1) from atN rfl) ⟨_, e, by rw [List.length_map, List.length_take, sizeLine_eq]; omega, ?_, UL.Same.put s1 hD1⟩
      rw [upd_same, List.take_add_one, hx0, List.map_append]; rfl
    obtain ⟨hD, s1⟩ := inv
    rw [List.length_map, List.take_length] at hD
    have aT : ∀ {H' : Hp}, Same H H' → TS H' (xs.map (·.2.1)) (Rs.map (·.1)) := fun s => by
      have : ∀ {xs : List (Addr × Addr × Addr)} {Rs : List (List Int × List Str)}, Paired (fun x r => H x.1 = some (.tup [.ref x.2.1, .ref x.2.2]) ∧ H x.2.1 = some (.tup (r.1.map V.int)) ∧ H x.2.2 = some (.tup (r.2.map V.str))) xs Rs → TS H (xs.map (·.2.1)) (Rs.map (·.1)) := by
        intro xs Rs h
        induction h with
        | nil => exact .nil
        | cons a _ ih => exact .cons a.2.1 ih
      exact (this hxs).keep fun _ _ z => s _ _ z
    have fx0 : ∀ {H' : Hp} {R : VK} {i : Nat} {x : Addr × Addr × Addr}, Same H H' → xs[i]? = some x → R (.ref x.2.1) H' → rIx K (.ref l) (.int (i : Nat)) H' fun y H1 => rIx K y (.int 0) H1 R := fun {H' R i x} s hx q => by
      obtain ⟨r0, hr1, g1, g2, g3⟩ := paired_at hxs hx
      exact ixL (.inl (.inl (s _ _ hl))) (atN (v := .ref x.1) (by rw [List.getElem?_map, hx]; rfl)) (ixT (.inl (.inl (s _ _ g1))) (show atI _ ((0 : Nat) : Int) = some (V.ref x.2.1) from atN rfl) q)
    have fx1 : ∀ {H' : Hp} {R : VK} {i : Nat} {x : Addr × Addr × Addr}, Same H H' → xs[i]? = some x → R (.ref x.2.2) H' → rIx K (.ref l) (.int (i : Nat)) H' fun y H1 => rIx K y (.int 1) H1 R := fun {H' R i x} s hx q => by
      obtain ⟨r0, hr1, g1, g2, g3⟩ := paired_at hxs hx
      exact ixL (.inl (.inl (s _ _ hl))) (atN (v := .ref x.1) (by rw [List.getElem?_map, hx]; rfl)) (ixT (.inl (.inl (s _ _ g1))) (show atI _ ((1 : Nat) : Int) = some (V.ref x.2.2) from atN rfl) q)
    have al : ∀ {H' : Hp} {R : VK} {j : Nat} {q0 : Rw} {t : Addr} {s : List Int}, Same H H' → qs[j]? = some q0 → H' t = some (.tup (s.map V.int)) → s ∈ sts u.sz u.cs.length → (∀ t' H'', Same H' H'' → H'' t' = some (.tup ((u.endS q0.n s).map V.int)) → R (.ref t') H'') → rIx K (.ref r) (.int (j : Nat)) H' fun x H1 => rIx K x (.int 1) H1 fun x H1 => sp_lalone [x, .ref ca, .ref t, .ref td, .int u.sz] H1 R E0 := fun {H' R j q0 t s} sH hq0 ht hs k => by
      have qm := List.mem_of_getElem? hq0
      have g4 := (hr0.2 q0 qm).same sH
      have hqr := hu.run q0 qm _ hs
      obtain ⟨sl, _⟩ := sts_nb hs
      refine ixL (.inl (.inl (sH _ _ hr0.1))) (atN (v := .ref q0.r) (by rw [List.getElem?_map, hq0]; rfl)) (ixT (.inl (.inl g4.1)) (show atI _ ((1 : Nat) : Int) = some (V.ref q0.sl) from atN rfl) ⟨q0.sl, ca, t, td, u.sz, q0.rs, q0.ks, u.cs, s, tv, u.tk, rfl, g4.2.1, g4.2.2, sH _ _ hca, ht, htd.same sH, hu.s3, sl, by have := hu.c3; omega, (hu.pr q0 qm).2, by rw [← hu.tb]; exact hqr.1, fun r5 H5 e5 s5 => k r5 H5 s5 ?_⟩)
      unfold Mw.endS
      rw [(hu.pr q0 qm).1, hu.tb]
      exact e5
    have ky : ∀ {H' : Hp} {R : VK} {b : Addr} {w : List Str}, Same H H' → H' b = some (.tup (w.map V.str)) → w.length ≤ 1000 → (∀ n ∈ w, n ∈ qs.map (·.n)) → (∀ t l H'', Same H' H'' → H'' t = some (.tup [.int (w.length : Nat), .ref l]) → H'' l = some (.lst ((w.map (ixN qs)).map V.int)) → R (.ref t) H'') → sp_lkey [.ref b, .ref d] H' R E0 := fun {H' R b w} s hb hl hm k =>
      ⟨b, d, w, qs.map (·.n), rfl, hb, s _ _ hd, hl, hm, fun t l H'' s' e1 e2 => k t l H'' s' e1 (by rw [e2, List.map_map]; rfl)⟩
    have hR : ∀ {r0 : List Int × List Str}, r0 ∈ Rs → r0.1 ∈ sts u.sz u.cs.length ∧ r0.2.length + 1 ≤ 1000 ∧ ∀ n ∈ r0.2, n ∈ qs.map (·.n) := fun {r0} hr => ⟨hok.mem r0 hr, by have := hok.le r0 hr; omega, fun n hn => hkn n ((hL.right r0 hr).2 n hn)⟩
    obtain ⟨tl, hRs⟩ := hL.hd
    obtain ⟨x00, hx00, f1, f2, f3⟩ : ∃ x, xs[0]? = some x ∧ H x.1 = some (.tup [.ref x.2.1, .ref x.2.2]) ∧ H x.2.1 = some (.tup (st.map V.int)) ∧ H x.2.2 = some (.tup ([].map V.str)) := by
      rw [hRs] at hxs
      cases hxs with
      | cons a _ => exact ⟨_, rfl, a⟩
    refine lenL (.inl (.inl (s1 _ _ hl))) ⟨_, rfl, by omega, by rw [List.length_map]; omega, FJ.rangeI (fun i σ' H' => (∃ z8 z9 z10 z11 z12 z13, σ' = [some (.ref l), some (.ref d), some (.ref r), some (.ref l0), some (.ref ca), some (.ref td), some (.int (u.sz : Nat)), some (.ref D1), z8, z9, z10, z11, z12, z13, none, none]) ∧ Same H1 H') (by omega) ⟨⟨_, _, _, _, _, _, rfl⟩, fun _ _ e => e⟩ (fun i σ' H2 hi inv => ?_) fun σ' H2 inv => ?_⟩
    · obtain ⟨⟨z8, z9, z10, z11, z12, z13, rfl⟩, s2⟩ := inv
      rw [List.length_map] at hi
      have il : i < xs.length := by omega
      have sA := Same.tr s1 s2
      have hxi : xs[i]? = some xs[i] := List.getElem?_eq_getElem il
      obtain ⟨r0, hri, g1, g2, g3⟩ := paired_at hxs hxi
      generalize xs[i] = x0 at hxi g1 g2 g3
      obtain ⟨m1, m2, m3⟩ := hR (List.mem_of_getElem? hri)
      have hRi : (Rs.map (·.1))[i]? = some r0.1 := by rw [List.getElem?_map, hri]; rfl
      walk_at "rd"
      refine fx0 sA hxi ⟨D1, _, rfl, .inl (.inl (s2 _ _ hD)), fun p hp => ?_⟩
      have ecut : cutV (xs.map fun x => V.ref x.2.1) none (some ((i : Nat) : Int)) = ((xs.map (·.2.1)).take i).map V.ref := by rw [UX.cut_to, List.map_take, List.map_map]; rfl
      rw [ecut]
      have s3 : Same H2 (upd H2 p (.lst (((xs.map (·.2.1)).take i).map V.ref))) := UL.Same.new hp
      have e3 : upd H2 p (.lst (((xs.map (·.2.1)).take i).map V.ref)) p = some (.lst (((xs.map (·.2.1)).take i).map V.ref)) := upd_same
      generalize upd H2 p (.lst (((xs.map (·.2.1)).take i).map V.ref)) = H3 at s3 e3 ⊢
      have sB := Same.tr sA s3
      refine inTs (L := (Rs.map (·.1)).take i) (sB _ _ g2) e3 ?_ ⟨_, rfl, ?_⟩
      · exact TS.keep (paired_take i (aT sA)) fun _ _ z => s3 _ _ z
      rw [if_neg (by
        rw [decide_eq_true_eq]
        intro hm
        obtain ⟨j, hj⟩ := List.getElem?_of_mem hm
        have jl : j < i := by have := (List.getElem?_eq_some_iff.mp hj).1; rw [List.length_take] at this; omega
        rw [List.getElem?_take_of_lt jl] at hj
        have := (List.getElem?_inj (List.getElem?_eq_some_iff.mp hj).1 hok.nd).mp (hj.trans hRi.symm)
        omega)]
      refine fx0 (i := 0) sB hx00 ?_
      have hrun : ∀ n ∈ qs.map (·.n), ∀ s ∈ sts u.sz u.cs.length, u.endS n s ∈ sts u.sz u.cs.length := fun n hn s hs => by
        obtain ⟨q0, hq0, rfl⟩ := List.mem_map.mp hn
        exact (hu.run q0 hq0 s hs).2
      refine fx1 sB hxi ⟨_, rfl, ⟨_, .inl (.inl (sB _ _ g3))⟩, FJ.tup (xs := r0.2.map V.str) (fun j σ' H' => ∃ (t : Addr) (y10 : Option V), σ' = [some (.ref l), some (.ref d), some (.ref r), some (.ref l0), some (.ref ca), some (.ref td), some (.int (u.sz : Nat)), some (.ref D1), some (.int (i : Nat)), some (.ref t), y10, z11, z12, z13, none, none] ∧ H' t = some (.tup ((endW u.endS (r0.2.take j) st).map V.int)) ∧ Same H3 H') ⟨_, _, rfl, sB _ _ f2, fun _ _ e => e⟩ (fun j σ' H4 _ inv => ?_) (fun j x σ' H4 hj inv => ?_) fun σ' H4 inv => ?_⟩
      · obtain ⟨_, _, _, _, s4⟩ := inv
        exact .inl (.inl (s4 _ _ (sB _ _ g3)))
      · obtain ⟨t, y10, rfl, et, s4⟩ := inv
        obtain ⟨n, rfl, hn2⟩ := map_at hj
        have nm := m3 n (List.mem_of_getElem? hn2)
        obtain ⟨q0, hq0, rfl, qm⟩ := rw_idx nm
        have sC := Same.tr sB s4
        walk_at "rd"
        refine ⟨.inl ⟨rfl, _, .inl (.inl (sC _ _ hd))⟩, idxL (sC _ _ hd) nm (al sC hq0 et (endW_mem hst fun m hm => hrun m (m3 m (List.mem_of_mem_take hm))) fun t' H5 s5 e5 => ⟨t', ⟨rfl, _, rfl⟩, ?_, Same.tr s4 s5⟩)⟩
        rw [List.take_add_one, hn2]
        show H5 t' = some (.tup ((endW u.endS (r0.2.take j ++ [q0.n]) st).map V.int))
        rw [endW_snoc]
        exact e5
      · obtain ⟨t, y10, rfl, et, s4⟩ := inv
        rw [List.length_map, List.take_length, (hL.right r0 (List.mem_of_getElem? hri)).1] at et
        have sC := Same.tr sB s4
        show tSeq _ _ _ _ _
        refine UX.seq_cut3 (fun σ5 H5 => σ5 = [some (.ref l), some (.ref d), some (.ref r), some (.ref l0), some (.ref ca), some (.ref td), some (.int (u.sz : Nat)), some (.ref D1), some (.int (i : Nat)), some (.ref t), y10, z11, z12, z13, none, none] ∧ Same H4 H5) (fun tl htl => ?_) fun σ5 H5 hm => ?_
        · walk_at "rd"
          refine fx0 sC hxi ⟨_, _, r0.1, rfl, sC _ _ g2, et, by have := (sts_nb m1).1; have := hu.c3; omega, true, rfl, ?_⟩
          rw [if_neg (by decide)]
          by_cases c : (0 : Int) < i
          · rw [if_pos c]
            have i0 : 0 < i := by omega
            have ei : ((i : Nat) : Int) - 1 = ((i - 1 : Nat) : Int) := by omega
            rw [ei]
            have hxp : xs[i - 1]? = some xs[i - 1] := List.getElem?_eq_getElem (by omega)
            obtain ⟨rp, hrp, gp1, gp2, gp3⟩ := paired_at hxs hxp
            obtain ⟨mp1, mp2, mp3⟩ := hR (List.mem_of_getElem? hrp)
            refine fx1 sC hxp (ky sC (sC _ _ gp3) (by omega) mp3 fun t5 l5 H5 s5 a5 b5 => ?_)
            have sD := Same.tr sC s5
            refine fx1 sD hxi (ky sD (sD _ _ g3) (by omega) m3 fun t6 l6 H6 s6 a6 b6 => keyLt (s6 _ _ a5) (s6 _ _ b5) a6 b6 ⟨_, rfl, ?_⟩)
            have hlt : UX.ltK (kyW (ixN qs) rp.2) (kyW (ixN qs) r0.2) = true := asc_at hL.asc hrp hri (by omega)
            rw [hlt, if_neg (by decide)]
            exact htl _ _ ⟨rfl, Same.tr s5 s6⟩
          · rw [if_neg c]
            exact htl _ _ ⟨rfl, fun _ _ e => e⟩
        obtain ⟨rfl, s5⟩ := hm
        have sD := Same.tr sC s5
        have s15 : Same H1 H5 := Same.tr s2 (Same.tr s3 (Same.tr s4 s5))
        walk_at "rd"
        refine ⟨⟨_, .inl (.inl (sD _ _ h0))⟩, FJ.list (xs := js.map fun j => V.int (j : Nat)) (fun j σ' H' => (∃ (y11 y12 y13 : Option V), σ' = [some (.ref l), some (.ref d), some (.ref r), some (.ref l0), some (.ref ca), some (.ref td), some (.int (u.sz : Nat)), some (.ref D1), some (.int (i : Nat)), some (.ref t), y10, y11, y12, y13, none, none]) ∧ Same H5 H') ⟨⟨_, _, _, rfl⟩, fun _ _ e => e⟩ (fun j σ' H6 _ inv => ?_) (fun j x σ' H6 hj inv => ?_) fun σ' H6 inv => ?_⟩
        · exact .inl (.inl (inv.2 _ _ (sD _ _ h0)))
        · obtain ⟨⟨y11, y12, y13, rfl⟩, s6⟩ := inv
          obtain ⟨jj, rfl, hjj⟩ : ∃ jj, x = .int (jj : Nat) ∧ js[j]? = some jj := by
            rw [List.getElem?_map] at hj
            cases e : js[j]? with
            | none => rw [e] at hj; cases hj
            | some z => rw [e] at hj; cases hj; exact ⟨z, rfl, rfl⟩
          obtain ⟨q0, hq0, nk⟩ := hjs jj (List.mem_of_getElem? hjj)
          have sE := Same.tr sD s6
          have et6 := s6 _ _ (s5 _ _ et)
          walk_at "rd"
          refine al sE hq0 et6 m1 fun t7 H7 s7 e7 => ?_
          have sF := Same.tr sE s7
          obtain ⟨w0, hw0, v1, v2⟩ := hC r0 (List.mem_of_getElem? hri) q0.n nk
          obtain ⟨k0, hk0⟩ := List.getElem?_of_mem hw0
          have hLn : (Rs.map (·.1))[k0]? = some (u.endS q0.n r0.1) := by rw [List.getElem?_map, hk0, ← v1]; rfl
          have eD7 : H7 D1 = some (.lst ((xs.map (·.2.1)).map V.ref)) := by
            rw [List.map_map]
            exact s7 _ _ (s6 _ _ (s15 _ _ hD))
          refine ninTs e7 eD7 (aT sF) ⟨_, rfl, ?_⟩
          rw [decide_eq_true (List.mem_of_getElem? hLn), if_neg (by decide)]
          refine fx1 sF hxi (ixL (.inl (.inl (sF _ _ hd))) (atN (v := .str q0.n) (by rw [List.getElem?_map, List.getElem?_map, hq0]; rfl)) ⟨by rw [sizeLine_eq]; decide, fun T hT => ?_⟩)
          have s8 : Same H7 (upd H7 T (.tup [V.str q0.n])) := UL.Same.new hT
          refine catRow (s8 _ _ (sF _ _ g3)) upd_same (by simp) (by rw [List.length_map, sizeLine_eq]; show r0.2.length + 1 ≤ _; omega) fun c H9 s9 ec => ?_
          have ec : H9 c = some (.tup ((r0.2 ++ [q0.n]).map V.str)) := by rw [List.map_append]; exact ec
          have sG := Same.tr sF (Same.tr s8 s9)
          refine ky sG ec (by rw [List.length_append]; show r0.2.length + 1 ≤ _; omega) (fun m hm => ?_) fun ta la Ha sa a1 a2 => ?_
          · rcases List.mem_append.mp hm with h | h
            · exact m3 m h
            · rw [List.mem_singleton.mp h]; exact hkn _ nk
          have s7a := Same.tr s8 (Same.tr s9 sa)
          have sI := Same.tr sG sa
          have kl : k0 < xs.length := by have := (List.getElem?_eq_some_iff.mp hk0).1; omega
          have hxk : xs[k0]? = some xs[k0] := List.getElem?_eq_getElem kl
          obtain ⟨rk, hrk, gk1, gk2, gk3⟩ := paired_at hxs hxk
          rw [hk0] at hrk
          obtain rfl := Option.some.inj hrk
          obtain ⟨mk1, mk2, mk3⟩ := hR hw0
          refine ⟨.inl ⟨rfl, _, .inl (.inl (s7a _ _ eD7))⟩, ixTs (s7a _ _ e7) (s7a _ _ eD7) (aT sI) hok.nd hLn (fx1 sI hxk (ky sI (sI _ _ gk3) (by omega) mk3 fun tb lb Hb sb b1 b2 => keyLt (sb _ _ a1) (sb _ _ a2) b1 b2 ⟨_, rfl, ?_⟩))⟩
          have hlt : UX.ltK (kyW (ixN qs) (r0.2 ++ [q0.n])) (kyW (ixN qs) w0.2) = false := by
            rcases v2 with e | e
            · rw [e]; exact ltK_irr
            · exact ltK_asym e
          rw [hlt, if_neg (by decide)]
          exact ⟨⟨_, rfl⟩, Same.tr s6 (Same.tr s7 (Same.tr s7a sb))⟩
        · obtain ⟨⟨y11, y12, y13, rfl⟩, s6⟩ := inv
          exact ⟨⟨_, _, _, _, _, _, rfl⟩, Same.tr s15 s6⟩
    · obtain ⟨⟨z8, z9, z10, z11, z12, z13, rfl⟩, s2⟩ := inv
      walk_at "rd"
      exact q _ (Same.tr s1 s2)
end
end U
set_option Elab.async false
set_option linter.all false
set_option maxRecDepth 100000
set_option maxHeartbeats 4000000
set_option pp.deepTerms true
set_option pp.maxSteps 400000
namespace U
open PySem PySem.Spec PyProof.Rows L2 UL UX
local macro_rules | `(tactic| walk_at "rd") => `(tactic| simp only [sMatch, tJs, tFmt, tBC, tMethA, tMakeL, iEnumS, tSeq, tAsg, tOp, tCB, tCons, tNil, tVar, tC, tB, tTest, tNot, tIfS, tNext, tYes, tUn, rU, tM0, tGFrom, tGThen, tG0, tYfLst, gcxK, tSubO, tProp, tListG, tMethG, tBMF, tFld, sFld, tMeth, tMake, tSl, tNoPart, tPart, tM1, gTup, gCons, gNil, tDrop, tFor_eq, tLc_eq, tLc2_eq, iRng1_eq, StX.tStar, iList, iTup, iStr, iAny_var, iZipB, tLenSetS, wipe, tVar, tAndV, tOrV, tNotV, tOr, tAnd, tLst, tTup, tBM, tBM0, tChain, tCall, cxK, noxK, addII, addSS, mulII, eqII, neII, neSS, cIntI, cAbsI, rI, rI0, rLt, rLe, rGt_, rGe_, rSub_, rMod, rPow, rDivW, rNeg, gName, tRet, L2.start, List.length_cons, List.length_nil, List.map_cons, List.map_nil, List.replicate, List.cons_append, List.nil_append, List.getElem?_cons_zero, List.getElem?_cons_succ, List.set_cons_zero, List.set_cons_succ, Option.some.injEq, exists_eq_left', exists_eq_left, V.int.injEq, V.bl.injEq, V.str.injEq, V.ref.injEq, V.ty.injEq, List.cons.injEq, and_true, true_and, reduceCtorEq, false_and, exists_false, or_false, false_or, exists_and_left, exists_and_right, List.append_nil, forall_eq, decide_eq_true_eq, Bool.not_eq_true, Nat.reduceAdd, Nat.reduceSub, List.replicate_zero, List.replicate_succ, Nat.zero_le, ite_true, ite_false, if_true, if_false])
section
variable {P : Program} {w : World} {K : PySem.W.Frag} {mg : Str → Option Value} {base : Heap}
open UV UW NdefX ClX
variable {R Wr B Pg Sy IC IS UC UP Mc IT Iv OR WE : Addr}
/-! the law of least rows -/
theorem nmAt_mem {qs : List Rw} {js : List Nat} {n : Str} (h : nmAt qs js n) : n ∈ qs.map (·.n) := let ⟨_, _, q, hq, e⟩ := h; List.mem_map.mpr ⟨q, List.mem_of_getElem? hq, e⟩
theorem all_js {m : Nat} {js : List Nat} (hp : js.Pairwise (· < ·)) (hb : ∀ j ∈ js, j < m) (hl : js.length = m) {j : Nat} (hj : j < m) : j ∈ js := by
  by_cases c : j ∈ js
  · exact c
  · have nd : (j :: js).Nodup := List.nodup_cons.mpr ⟨c, hp.imp fun h => Nat.ne_of_lt h⟩
    have := sub_len (S := List.range m) nd fun x hx => by
      rcases List.mem_cons.mp hx with rfl | hx
      · exact List.mem_range.mpr hj
      · exact List.mem_range.mpr (hb x hx)
    rw [List.length_cons, List.length_range] at this
    omega
theorem idx_at {ns : List Str} (hn : ns.Nodup) {j : Nat} {n : Str} (h : ns[j]? = some n) : ns.idxOf n = j := by
  obtain ⟨i1, _, i3⟩ := idx_ok (List.mem_of_getElem? h)
  exact (List.getElem?_inj i3 hn).mp (i1.trans h.symm)
theorem ixN_asc {qs : List Rw} (hn : (qs.map (·.n)).Nodup) : (qs.map (·.n)).Pairwise fun a b => ixN qs a < ixN qs b := by
  rw [List.pairwise_iff_getElem]
  intro i j hi hj hij
  unfold ixN
  rw [idx_at hn (List.getElem?_eq_getElem hi), idx_at hn (List.getElem?_eq_getElem hj)]
  omega
theorem PaL.same {H H' : Hp} {l : Addr} {Rs : List (List Int × List Str)} (h : PaL H l Rs) (s : Same H H') : PaL H' l Rs := let ⟨ts, a, b⟩ := h; ⟨ts, s _ _ a, L2.Paired.mapP b fun _ _ ⟨x, y, e1, e2, e3⟩ => ⟨x, y, s _ _ e1, s _ _ e2, s _ _ e3⟩⟩
def rowD (r : List Int × List Str) : PyData := .tuple [.tuple (r.1.map .int), .tuple (r.2.map .str)]
theorem dpa_strs {H : Hp} : ∀ {xs : List Str}, DpAll K H (xs.map V.str) (xs.map PyData.str)
  | [] => .nil
  | _ :: _ => .cons (.str _) dpa_strs
theorem PaL.dp {H : Hp} {l : Addr} {Rs : List (List Int × List Str)} (h : PaL H l Rs) (hn : Rs ≠ []) (hs : ∀ r ∈ Rs, ∀ n ∈ r.2, PyData.strOk n = true) : ∃ d ds, Dp K H (.ref l) (.list (d :: ds)) ∧ SeqAt.shaped (.list (d :: ds)) = true := by
  obtain ⟨ts, h1, h2⟩ := h
  have h3 : ∀ {ts : List Addr} {Rs : List (List Int × List Str)}, Paired (fun (t : Addr) (r : List Int × List Str) => ∃ a b, H t = some (.tup [.ref a, .ref b]) ∧ H a = some (.tup (r.1.map V.int)) ∧ H b = some (.tup (r.2.map V.str))) ts Rs → DpAll K H (ts.map V.ref) (Rs.map rowD) := by
    intro ts Rs h
    induction h with
    | nil => exact .nil
    | cons a _ ih =>
      obtain ⟨x, y, e1, e2, e3⟩ := a
      exact .cons (.tup (.inl (.inl e1)) (.cons (.tup (.inl (.inl e2)) dpa_ints) (.cons (.tup (.inl (.inl e3)) dpa_strs) .nil))) ih
  have sh : ∀ d ∈ Rs.map rowD, Sh 2 d := fun d hd => by
    obtain ⟨r, hr, rfl⟩ := List.mem_map.mp hd
    refine Sh.tup (n := 1) fun d hd => ?_
    rcases List.mem_cons.mp hd with rfl | hd
    · exact Sh.tup sh_ints
    · rw [List.mem_singleton.mp hd]
      exact Sh.tup (n := 0) fun d hd => by obtain ⟨x, hx, rfl⟩ := List.mem_map.mp hd; exact ⟨by rw [PyData.canLay0]; exact hs r hr x hx, Nat.le_refl _⟩
  cases Rs with
  | nil => exact absurd rfl hn
  | cons r Rr => exact ⟨_, _, .lst (.inl (.inl h1)) (h3 h2), (Sh.lst sh).shaped (by decide)⟩
abbrev s_law : Stmt := top 74
abbrev sc_law_N : List Str := ["_law_script", "_law_pool_here", "_law_cells_here", "_law_functions_here", "_law_programs_here", "_law_size", "_law_tables_here", "_law_machine", "_law_names_here", "_law_reach", "_law_known_here", "_law_starts", "_law_start", "_law_found", ".0", "_law_program", "_law_k"]
theorem sc_law : FnScope sc_law_N ["_law_script"] (defScope s_law) := ⟨rfl, rfl, rfl, by decide +kernel, rfl, by decide +kernel, by decide +kernel⟩
-- 0 _law_script, 1 _law_pool_here, 2 _law_cells_here, 3 _law_functions_here, 4 _law_programs_here, 5 _law_size, 6 _law_tables_here, 7 _law_machine, 8 _law_names_here, 9 _law_reach, 10 _law_known_here, 11 _law_starts, 12 _law_start, 13 _law_found, 14 .0, 15 _law_program, 16 _law_k
def sp_law (Ts : List NdefX.NTab) : PySem.W.Frag → Sp := fun K vs H Q _ => ∃ (a : Addr) (ns : List Int), vs = [.ref a] ∧ SqL K H a (ns.map V.int) ∧ ns.length ≤ 63 ∧ NdefX.TabsN Ts H ∧ ∀ H', Q (.bl true) H'
theorem ok_law {Ts : List NdefX.NTab} (X : MaX K mg R Wr B Pg Sy IS UC UP Mc) {f0 : Addr} {fd0 : FuncData} (F0 : Fun K "law" "law" s_law f0 fd0) (d__law_pool : Dn P w K mg base CX0 2 "_law_pool" (sp_pool K)) (d__law_draw : Dn P w K mg base CX0 1 "_law_draw" sp_draw) (d__law_cells : Dn P w K mg base CX0 3 "_law_cells" sp_cellsN) (d__law_functions : Dn P w K mg base CX0 3 "_law_functions" sp_funsN)
    (d__law_programs : Dn P w K mg base CX0 4 "_law_programs" sp_lprogs) (d__law_tables : Dn P w K mg base CX0 2 "_law_tables" sp_ltabs) (d__law_made : Dn P w K mg base CX0 12 "_law_made" (sp_lmade R Wr B Pg Sy)) (k_Machine : Kn P w K mg base (L2.CX P w) 10 Mc "Machine" (sp_minit Ts R Wr B Pg Mc Sy IC IT)) (d__law_states : Dn P w K mg base CX0 1 "_law_states" sp_states)
    (d__law_known : Dn P w K mg base CX0 2 "_law_known" sp_lknown) (d__law_known_names : Dn P w K mg base CX0 2 "_law_known_names" sp_lkn) (d_rows_from : UX.Dnd P w K mg base (L2.CX P w) 7 "rows_from" [.non] (sp_rfrom K Mc Sy UP Iv)) (d__law_pairs : Dn P w K mg base CX0 1 "_law_pairs" sp_lpairs) (d__law_same : Dn P w K mg base CX0 2 "_law_same" sp_same) (d__law_least : Dn P w K mg base CX0 3 "_law_least" sp_lleast) :
    FnOk P w K mg base CX0 30 f0 fd0 ["_law_script"] (sp_law Ts K) := by
  refine F0.ok sc_law (fun vs H Q E h => ?_) (fun cdv A outer s H vs Q E hr h => ?_)
  · obtain ⟨a, ns, rfl, _⟩ := h; rfl
  · obtain ⟨a, ns, rfl, ha, hn, hTs, q⟩ := h
    have T := X
    refine ⟨_, (pss_cons (ps_set (i := 1) sc_law.nd rfl (Or.inr rfl) (pe_d d__law_pool hr (by decide) pass0 (by rfl) (pa_cons (pv 0) pa_nil)))
      (pss_cons (ps_set (i := 2) sc_law.nd rfl (Or.inl rfl) (pe_d d__law_cells hr (by decide) pass0 (by rfl) (pa_cons (pv 1) pa_nil)))
      (pss_cons (ps_set (i := 3) sc_law.nd rfl (Or.inl rfl) (pe_d d__law_functions hr (by decide) pass0 (by rfl) (pa_cons (pv 1) pa_nil)))
      (pss_cons (ps_set (i := 4) sc_law.nd rfl (Or.inl rfl) (pe_d d__law_programs hr (by decide) pass0 (by rfl) (pa_cons (pv 1) (pa_cons (pv 2) (pa_cons (pv 3) (pa_cons (pe_lst (pa_cons pe_int (pa_cons pe_int (pa_cons pe_int (pa_cons pe_int (pa_cons pe_int pa_nil)))))) pa_nil))))))
      (pss_cons (ps_set (i := 5) sc_law.nd rfl (Or.inl rfl) (pe_ix ix_seq (pe_lst (pa_cons pe_int (pa_cons pe_int (pa_cons pe_int pa_nil)))) (pe_d d__law_draw hr (by decide) pass0 (by rfl) (pa_cons (pv 1) (pa_cons pe_int pa_nil))) (fun _ _ => rfl)))
      (pss_cons (ps_set (i := 6) sc_law.nd rfl (Or.inl rfl) (pe_d d__law_tables hr (by decide) pass0 (by rfl) (pa_cons (pv 1) (pa_cons (pv 3) (pa_cons (pv 5) pa_nil)))))
      (pss_cons (ps_set (i := 7) sc_law.nd rfl (Or.inl rfl) (pe_k k_Machine hr (by decide) passL (by rfl) (pa_cons (pe_d d__law_made hr (by decide) pass0 (by rfl) (pa_cons (pv 2) (pa_cons (pv 4) pa_nil))) (pa_cons (pv 5) (pa_cons (pv 6) pa_nil)))))
      (pss_cons (ps_setLc (i := 8) (own := [(".0", 14), ("_law_program", 15)]) (g := (gName 15)) (tt := tYes) rfl sc_law.nd rfl rfl (sw_true rfl rfl rfl (by decide +kernel)) (pi_list (pv 4)) (blkOk_by (N := sc_law_N) (sc := defScope s_law) (by decide +kernel)) (fun _ _ _ _ _ => pg_name (i := 15) sc_law.nd rfl (Or.inl rfl)) (fun _ _ _ _ _ => pts_nil) (fun _ _ _ _ _ => (pe_ix (ix_seqK K rfl) (pv 15) pe_int (fun _ _ => rfl))))
      (pss_cons (ps_set (i := 9) sc_law.nd rfl (Or.inl rfl) (pe_d d__law_known hr (by decide) pass0 (by rfl) (pa_cons (pv 1) (pa_cons (pv 4) pa_nil))))
      (pss_cons (ps_set (i := 10) sc_law.nd rfl (Or.inl rfl) (pe_d d__law_known_names hr (by decide) pass0 (by rfl) (pa_cons (pv 1) (pa_cons (pv 4) (pa_cons (pv 9) pa_nil)))))
      (pss_cons (ps_set (i := 11) sc_law.nd rfl (Or.inr rfl) (pe_d d__law_states hr (by decide) pass0 (by rfl) (pa_cons (pe_callB call_lenA (by rfl) T.n_len (by decide +kernel) (pa_cons (pv 2) pa_nil)) (pa_cons (pv 5) pa_nil))))
      (pss_cons (ps_if (pt_cmpR op_gtA (pe_callB call_lenA (by rfl) T.n_len (by decide +kernel) (pa_cons (pv 11) pa_nil)) pe_int (nomark _)) (pss_one (ps_set (i := 11) sc_law.nd rfl (Or.inr rfl) (pe_lc (own := [(".0", 14), ("_law_k", 16)]) (g := (gName 16)) (tt := tYes) rfl sc_law.nd (pi_range1 (by rfl) T.n_range (pa_cons pe_int pa_nil)) (blkOk_by (N := sc_law_N) (sc := defScope s_law) (by decide +kernel)) (fun _ _ _ _ _ => pg_name (i := 16) sc_law.nd rfl (Or.inl rfl)) (fun _ _ _ _ _ => pts_nil) (fun _ _ _ _ _ => (pe_ix (ix_seqK K rfl) (pv 11) (pe_d d__law_draw hr (by decide) pass0 (by rfl) (pa_cons (pv 1) (pa_cons (pe_callB (call_lenK K rfl) (by rfl) T.n_len (by decide +kernel) (pa_cons (pv 11) pa_nil)) pa_nil))) (fun _ _ => rfl)))))) pss_nil)
      (pss_cons (ps_for PassesOwn.never rfl (pi_list (pv 11)) (pg_name (i := 12) sc_law.nd rfl (Or.inl rfl)) (pss_cons (ps_if (pt_cmpR op_isNone (pv 10) pe_non (nomark _)) (pss_one (ps_set (i := 13) sc_law.nd rfl (Or.inl rfl) (UX.pe_ddd d_rows_from hr (by decide) passL (by rfl) (pa_cons (pv 7) (pa_cons (pv 12) pa_nil))))) (pss_one (ps_set (i := 13) sc_law.nd rfl (Or.inl rfl) (UX.pe_dd d_rows_from hr (by decide) passL (by rfl) (pa_cons (pv 7) (pa_cons (pe_callTy call_listA (by rfl) T.n_list (by decide +kernel) (pa_cons (pv 12) pa_nil)) (pa_cons (pe_callTy call_listA (by rfl) T.n_list (by decide +kernel) (pa_cons (pv 10) pa_nil)) pa_nil)))))))
      (pss_cons (ps_if (pw_or (pt_not (pt_val (pe_d d__law_pairs hr (by decide) pass0 (by rfl) (pa_cons (pv 13) (pa_cons (pv 8) (pa_cons (pv 9) pa_nil)))))) (pw_or1 (pt_cmpR (op_eqA (hr.units)) (pv 13) (pe_lst pa_nil) (nomark _)))).pt (pss_one (ps_ret pe_bl)) pss_nil)
      (pss_cons (ps_if (pw_or (pt_not (pt_val (pe_d d__law_same hr (by decide) pass0 (by rfl) (pa_cons (pe_ix ix_seq (pe_ix ix_seq (pv 13) pe_int (fun _ _ => rfl)) pe_int (fun _ _ => rfl)) (pa_cons (pv 12) pa_nil))))) (pw_or1 (pt_cmpR (op_neA (hr.units)) (pe_ix ix_seq (pe_ix ix_seq (pv 13) pe_int (fun _ _ => rfl)) pe_int (fun _ _ => rfl)) (pe_tup pa_nil) (nomark _)))).pt (pss_one (ps_ret pe_bl)) pss_nil)
      (pss_one (ps_if (pt_not (pt_val (pe_d d__law_least hr (by decide) pass0 (by rfl) (pa_cons (pv 13) (pa_cons (pv 8) (pa_cons (pv 4) (pa_cons (pv 9) (pa_cons (pv 2) (pa_cons (pv 6) (pa_cons (pv 5) pa_nil)))))))))) (pss_one (ps_ret pe_bl)) pss_nil))))))
      (pss_one (ps_ret pe_bl))))))))))))))), ?_⟩
    refine UX.seq_cut4 (fun σ1 H1 => ∃ (p ca fa r : Addr) (cs fs : List Str) (qs : List Rw), σ1 = [some (.ref a), some (.ref p), some (.ref ca), some (.ref fa), some (.ref r), none, none, none, none, none, none, none, none, none, none, none, none] ∧ S10 Ts H1 p ca fa r cs fs qs) (fun tl htl => ?_) fun σ1 H1 hm => ?_
    · walk_at "rd"
      refine ⟨a, ns, rfl, ha, hn, fun p H1 hp0 hp1 s1 => ⟨p, rfl, hp1, fun ca H2 cs c1 c3 icn cnd hca0 hca hp2 b2 => ⟨p, rfl, hp2, fun fa H3 fs f2 f5 ifn fnd hfa0 hfa hp3 b3 => ⟨by rw [sizeLine_eq]; decide, fun m hm => ?_⟩⟩⟩⟩
      have npc : p ≠ ca := hp1.ne hca0
      have npf : p ≠ fa := hp2.ne hfa0
      have npm : p ≠ m := hp3.ne hm
      have hca3 := b3 _ _ hca (Ne.symm npc)
      refine ⟨p, ca, fa, m, cs, fs, [2, 1, 3, 4, 0], rfl, hp3.put npm, UL.Same.new hm _ _ hca3, UL.Same.new hm _ _ hfa, upd_same, npc, npf, npm, by simp, by decide, c1, c3, f2, f5, icn, ifn, fun r qs H4 hr0 hr hq hql hqn hp4 b4 => ?_⟩
      refine htl _ _ ⟨p, ca, fa, r, cs, fs, qs, rfl, hp4, b4 _ _ (UL.Same.new hm _ _ hca3) (Ne.symm npc), Ne.symm npc, b4 _ _ (UL.Same.new hm _ _ hfa) (Ne.symm npf), Ne.symm npf, ⟨hr, fun q hq0 => (hq q hq0).1⟩, Ne.symm ((hp3.put npm).ne hr0), fun q hq0 e => (hq q hq0).2.2 (by simp [e]), c1, c3, icn, cnd, f2, f5, ifn, fnd, fun q hq0 => (hq q hq0).2.1, hql, hqn, ?_⟩
      refine tabs_pl (tabs_pl (tabs_pl (NdefX.TabsN.ext hTs s1) hp1 b2) hp2 b3) hp3 (fun b o e n => b4 _ _ (UL.Same.new hm _ _ e) n)
    obtain ⟨p, ca, fa, r, cs, fs, qs, rfl, S⟩ := hm
    refine UX.seq_cut3 (fun σ2 H2 => ∃ (td : Addr) (ls : List (Str × Addr)) (tq : List (Str × List Int)) (u : Mw), σ2 = [some (.ref a), some (.ref p), some (.ref ca), some (.ref fa), some (.ref r), some (.int (u.sz : Nat)), some (.ref td), some (.ref u.m), none, none, none, none, none, none, none, none, none] ∧ LS Ts Mc Sy H2 p ca fa r td fs qs ls tq u) (fun tl htl_ => ?_) fun σ2 H2 hm => ?_
    · walk_at "rd"
      refine ⟨by rw [sizeLine_eq]; decide, fun l3 hl3 => ?_⟩
      have s1 : Same H1 (upd H1 l3 (.lst [V.int 2, V.int 3, V.int 1])) := UL.Same.new hl3
      have e1 : upd H1 l3 (.lst [V.int 2, V.int 3, V.int 1]) l3 = some (.lst [V.int 2, V.int 3, V.int 1]) := upd_same
      generalize upd H1 l3 (.lst [V.int 2, V.int 3, V.int 1]) = H2 at s1 e1 ⊢
      have lp : l3 ≠ p := fun e => by obtain ⟨ns, z⟩ := S.pl; rw [e, z] at hl3; cases hl3
      have S2 : S10 Ts H2 p ca fa r cs fs qs := S.but (fun b o e _ => s1 _ _ e) (let ⟨ns, e⟩ := S.pl; ⟨ns, s1 _ _ e⟩)
      refine drawI (by decide) S2.pl fun x H3 x0 x1 p3 b3 => ?_
      have S3 := S2.but b3 p3
      have e3 := b3 _ _ e1 lp
      obtain ⟨sz, hz1, hz3, hat⟩ : ∃ sz : Nat, 1 ≤ sz ∧ sz ≤ 3 ∧ atI [V.int 2, V.int 3, V.int 1] x = some (V.int (sz : Nat)) := by
        have : x = 0 ∨ x = 1 ∨ x = 2 := by omega
        rcases this with rfl | rfl | rfl
        · exact ⟨2, by decide, by decide, rfl⟩
        · exact ⟨3, by decide, by decide, rfl⟩
        · exact ⟨1, by decide, by decide, rfl⟩
      refine ixL (.inl (.inl e3)) hat ⟨p, fa, fs, sz, rfl, S3.pl, S3.hfa, S3.fap, S3.f5, S3.fnd, hz1, hz3, fun td ls tq H4 td0 htd hk htl hta p4 b4 => ?_⟩
      refine mach_made (S3.but b4 p4) htd hk htl hta hz1 hz3 fun u H5 e1 e2 hL _ => ?_
      subst e1 e2
      exact htl_ _ _ ⟨td, ls, tq, u, rfl, hL⟩
    obtain ⟨td, ls, tq, u, rfl, S⟩ := hm
    have hu := S.due
    have q4 := S.s.ql
    have nml : ∀ q ∈ qs, q.n.length ≤ 1000 := fun q hq => Nat.le_trans (nm_len (S.s.qg q hq).1) (by decide)
    refine UX.seq_cut3 (fun σ2 H2 => ∃ (D l0 : Addr) (v : V) (js : List Nat) (o : Option (List Str)), σ2 = [some (.ref a), some (.ref p), some (.ref ca), some (.ref fa), some (.ref r), some (.int (u.sz : Nat)), some (.ref td), some (.ref u.m), some (.ref D), some (.ref l0), some v, none, none, none, none, none, none] ∧ LS Ts Mc Sy H2 p ca fa r td fs qs ls tq u ∧ H2 D = some (.lst ((qs.map (·.n)).map V.str)) ∧ D ≠ p ∧ H2 l0 = some (.lst (js.map fun j => V.int (j : Nat))) ∧ l0 ≠ p ∧ js.Pairwise (· < ·) ∧ (∀ j ∈ js, j < qs.length) ∧
      ((v = .non ∧ o = none ∧ js.length = qs.length) ∨ ∃ l ns, v = .ref l ∧ o = some ns ∧ l ≠ p ∧ H2 l = some (.lst (ns.map V.str)) ∧ (∀ n, n ∈ ns ↔ nmAt qs js n) ∧ ns.length ≤ 8)) (fun tl htl => ?_) fun σ3 H3 hm => ?_
    · walk_at "rd"
      refine ⟨⟨_, .inl (.inl S.s.pr.1)⟩, fun D1 hD1 => LJ.it (walk_list (xs := qs.map fun q => V.ref q.r)) (fun i H' => H' D1 = some (.lst (((qs.take i).map (·.n)).map V.str)) ∧ Same H2 H') ⟨upd_same, UL.Same.new hD1⟩ (fun i H' _ inv => .inl (.inl (inv.2 _ _ S.s.pr.1))) (fun i y H' H'' hi inv yy => ?_) fun H3 inv => ?_⟩
      · obtain ⟨rfl, hx⟩ := yy
        obtain ⟨m2, s5⟩ := inv
        obtain ⟨q0, hq0, rfl, qm, il⟩ := S.s.pr.at hx
        refine ⟨rfl, ?_⟩
        walk_at "rd"
        have g1 := (S.s.pr.2 q0 qm).same s5
        refine ixT (.inl (.inl g1.1)) (show atI _ ((0 : Nat) : Int) = some (V.str q0.n) from atN rfl) ⟨_, m2, by rw [List.length_map, List.length_map, List.length_take, sizeLine_eq]; omega, ?_, UL.Same.put s5 hD1⟩
        rw [upd_same, List.take_add_one, hq0, List.map_append, List.map_append]; rfl
      · obtain ⟨hD, s3⟩ := inv
        rw [List.length_map, List.take_length] at hD
        have S3 := S.same s3
        have D1p : D1 ≠ p := S.npl hD1
        refine ⟨p, r, qs, rfl, S3.s.pl, S3.s.pr, S3.s.rp, by omega, fun l js H5 l0 el jp jb p5 b5 => ?_⟩
        have S5 := S3.but b5 p5
        have lp : l ≠ p := S3.npl l0
        have jl : js.length ≤ qs.length := by
          have := sub_len (S := List.range qs.length) (jp.imp fun h => Nat.ne_of_lt h) fun x hx => List.mem_range.mpr (jb x hx)
          rwa [List.length_range] at this
        refine ⟨p, r, l, qs, js, rfl, p5, S5.s.pr, S5.s.sp, S5.s.rp, el, lp, jb, jl, q4, fun hlen H6 p6 b6 => ?_, fun l2 ns H6 l20 el2 hns nl p6 b6 => ?_⟩
        · exact htl _ _ ⟨D1, l, .non, js, none, rfl, S5.but b6 p6, b6 _ _ (b5 _ _ hD D1p) D1p, D1p, b6 _ _ el lp, lp, jp, jb, .inl ⟨rfl, rfl, hlen⟩⟩
        · exact htl _ _ ⟨D1, l, .ref l2, js, some ns, rfl, S5.but b6 p6, b6 _ _ (b5 _ _ hD D1p) D1p, D1p, b6 _ _ el lp, lp, jp, jb, .inr ⟨l2, ns, rfl, rfl, S5.npl l20, el2, hns, nl⟩⟩
    obtain ⟨D, l0, v, js, o, rfl, S, hD, Dp, hl0, l0p, jp, jb, hv⟩ := hm
    refine UX.seq_cut2 (fun σ2 H2 => ∃ (sl : Addr) (ws : List Addr) (L : List (List Int)), σ2 = [some (.ref a), some (.ref p), some (.ref ca), some (.ref fa), some (.ref r), some (.int (u.sz : Nat)), some (.ref td), some (.ref u.m), some (.ref D), some (.ref l0), some v, some (.ref sl), none, none, none, none, none] ∧ LS Ts Mc Sy H2 p ca fa r td fs qs ls tq u ∧ H2 sl = some (.lst (ws.map V.ref)) ∧ TS H2 ws L ∧ (∀ s ∈ L, s ∈ sts u.sz u.cs.length) ∧ H2 D = some (.lst ((qs.map (·.n)).map V.str)) ∧ H2 l0 = some (.lst (js.map fun j => V.int (j : Nat))) ∧
      ((v = .non ∧ o = none ∧ js.length = qs.length) ∨ ∃ l ns, v = .ref l ∧ o = some ns ∧ H2 l = some (.lst (ns.map V.str)) ∧ (∀ n, n ∈ ns ↔ nmAt qs js n) ∧ ns.length ≤ 8)) (fun tl htl => ?_) fun σ4 H4 hm => ?_
    · walk_at "rd"
      refine lenL (.inl (.inl S.s.hca)) ⟨u.cs.length, u.sz, by rw [List.length_map], S.mw.c3, S.mw.s3, fun l H2 ts l0' el htus s2 => ?_⟩
      have S2 := S.same s2
      have lp : l ≠ p := S.npl l0'
      have hTs : TS H2 ts (sts u.sz u.cs.length) := htus
      have lts : ts.length = (sts u.sz u.cs.length).length := plenQ hTs
      refine lenL (.inl (.inl el)) ⟨_, rfl, ?_⟩
      rw [List.length_map]
      have hvv : ∀ {H' : Hp}, But p H3 H' → ((v = .non ∧ o = none ∧ js.length = qs.length) ∨ ∃ l ns, v = .ref l ∧ o = some ns ∧ H' l = some (.lst (ns.map V.str)) ∧ (∀ n, n ∈ ns ↔ nmAt qs js n) ∧ ns.length ≤ 8) := fun b => hv.imp (fun h => h) fun ⟨l, ns, h1, h2, h3, h4, h5⟩ => ⟨l, ns, h1, h2, b _ _ h4 h3, h5⟩
      by_cases c : (9 : Int) < ts.length
      · rw [if_pos c]
        refine ⟨by omega, by omega, fun D1 hD1 => ?_⟩
        have D1p : D1 ≠ p := S2.npl hD1
        have nD : ∀ {b : Addr} {o : HO}, H2 b = some o → b ≠ D1 := fun e => ne_of_none e hD1
        refine LJ.it walk_range (fun i H' => ∃ (ws : List Addr) (L : List (List Int)), ws.length ≤ i ∧ H' D1 = some (.lst (ws.map V.ref)) ∧ TS H' ws L ∧ (∀ s ∈ L, s ∈ sts u.sz u.cs.length) ∧ But p H2 H' ∧ Pl H' p) ⟨[], [], Nat.le_refl _, upd_same, .nil, fun s h => (by cases h), fun b o e _ => (upd_ne (nD e)).trans e, let ⟨ms, e⟩ := S2.s.pl; ⟨ms, (upd_ne (nD e)).trans e⟩⟩ (fun _ _ _ _ => trivial) (fun i z H7 H8 hi inv yy => ?_) fun H' inv => ?_
        · obtain ⟨rfl, hz⟩ := yy
          obtain ⟨ws, L, wl, e7, t7, hL7, b7, p7⟩ := inv
          refine ⟨rfl, ?_⟩
          walk_at "rd"
          have hi : i < 3 := hi
          refine lenL (.inl (.inl (b7 _ _ el lp))) (drawI (by rw [List.length_map]; omega) p7 fun y H9 y0 y1 p9 b9 => ?_)
          rw [List.length_map] at y1
          obtain ⟨yi, rfl⟩ := Int.eq_ofNat_of_zero_le y0
          have yl : yi < ts.length := by omega
          obtain ⟨s, hs, ht⟩ := paired_at hTs (List.getElem?_eq_getElem yl)
          have b79 := But.tr b7 b9
          have kt : ∀ b xs, H8 b = some (.tup xs) → H9 b = some (.tup xs) := fun b xs e => b9 _ _ e (fun z => by obtain ⟨ms, h⟩ := p7; rw [z, h] at e; cases e)
          have e9 := b9 _ _ e7 D1p
          have ht9 := b79 _ _ ht (fun z => by obtain ⟨ms, h⟩ := S2.s.pl; rw [z, h] at ht; cases ht)
          refine ixL (.inl (.inl (b79 _ _ el lp))) (atN (v := .ref ts[yi]) (by rw [List.getElem?_map, List.getElem?_eq_getElem yl]; rfl)) ⟨_, e9, by rw [List.length_map, sizeLine_eq]; omega, ws ++ [ts[yi]], by rw [List.length_append]; show ws.length + 1 ≤ _; omega, by rw [upd_same, List.map_append]; rfl, L ++ [s], ?_, fun s' hs' => ?_, fun b o e n => (upd_ne (nD e)).trans (b79 b o e n), let ⟨ms, e⟩ := p9; ⟨ms, (upd_ne (Ne.symm D1p)).trans e⟩⟩
          · have t9 := t7.keep kt
            have kD : ∀ b xs, H9 b = some (.tup xs) → upd H9 D1 (.lst (ws.map V.ref ++ [V.ref ts[yi]])) b = some (.tup xs) := fun b xs e => (upd_ne (fun z => by rw [z, e9] at e; cases e)).trans e
            have t10 := t9.keep kD
            unfold TS at t10 ⊢
            refine paired_snoc ?_ t10
            exact kD _ _ ht9
          · rcases List.mem_append.mp hs' with h | h
            · exact hL7 s' h
            · rw [List.mem_singleton.mp h]; exact List.mem_of_getElem? hs
        · obtain ⟨ws, L, wl, e7, t7, hL7, b7, p7⟩ := inv
          have b37 : But p H3 H' := But.tr (UL.Same.but s2) b7
          exact htl _ _ ⟨D1, ws, L, rfl, S2.but b7 p7, e7, t7, hL7, b37 _ _ hD Dp, b37 _ _ hl0 l0p, hvv b37⟩
      · rw [if_neg c]
        exact htl _ _ ⟨l, ts, _, rfl, S2, el, hTs, fun s h => h, s2 _ _ hD, s2 _ _ hl0, hvv (UL.Same.but s2)⟩
    obtain ⟨sl, ws, L, rfl, S, hsl, hws, hL, hD, hl0, hv⟩ := hm
    have nd := hu.nd
    have psl : u.ps.length = qs.length := by have := congrArg List.length hu.ps; rwa [List.length_map, List.length_map] at this
    have pnl : ∀ q ∈ u.ps, q.1.length ≤ 1000 := fun q hq => by
      have : q.1 ∈ qs.map (·.n) := by rw [← hu.ps]; exact List.mem_map_of_mem hq
      obtain ⟨q0, h0, e⟩ := List.mem_map.mp this
      rw [← e]; exact nml q0 h0
    have vmem : ∀ {n : Str}, n ∈ qs.map (·.n) → valA u.ps n ≠ none := fun h z => valA_none_iff.mp z (by rw [hu.ps]; exact h)
    have unk : unkO u.ps o = none := by
      unfold unkO unkN
      rw [List.find?_eq_none]
      intro n hn
      rcases hv with ⟨_, e, _⟩ | ⟨l, ns, _, e, _, h4, _⟩
      · rw [e] at hn; cases hn
      · rw [e] at hn
        have := vmem (nmAt_mem ((h4 n).mp hn))
        cases hh : valA u.ps n with
        | none => exact absurd hh this
        | some _ => simp
    have on : ∀ n ∈ o.getD [], n.length ≤ 1000 := fun n hn => by
      rcases hv with ⟨_, e, _⟩ | ⟨l, ns, _, e, _, h4, _⟩
      · rw [e] at hn; cases hn
      · rw [e] at hn
        obtain ⟨q0, h0, e⟩ := List.mem_map.mp (nmAt_mem ((h4 n).mp hn))
        rw [← e]; exact nml q0 h0
    have ol : (o.getD []).length ≤ 1000 := by
      rcases hv with ⟨_, e, _⟩ | ⟨l, ns, _, e, _, _, h5⟩
      · rw [e]; decide
      · rw [e]; show ns.length ≤ _; omega
    have ix : ∀ {j : Nat} {q : Rw}, qs[j]? = some q → (qs.map (·.n)).idxOf q.n = j := fun h => idx_at nd (by rw [List.getElem?_map, h]; rfl)
    have knm : ∀ n, n ∈ knN (u.ps.map (·.1)) o ↔ nmAt qs js n := fun n => by
      rw [hu.ps]
      rcases hv with ⟨_, e, h3⟩ | ⟨l, ns, _, e, _, h4, _⟩
      · rw [e]
        show n ∈ qs.map (·.n) ↔ _
        refine ⟨fun h => ?_, nmAt_mem⟩
        obtain ⟨q0, hq0, rfl, qm⟩ := rw_idx h
        exact ⟨_, all_js jp jb h3 (List.getElem?_eq_some_iff.mp hq0).1, q0, hq0, rfl⟩
      · rw [e]
        show n ∈ (qs.map (·.n)).filter (fun n => decide (n ∈ ns)) ↔ _
        rw [List.mem_filter, decide_eq_true_eq, h4]
        exact ⟨fun h => h.2, fun h => ⟨nmAt_mem h, h⟩⟩
    have kas : (knN (u.ps.map (·.1)) o).Pairwise fun a b => ixN qs a < ixN qs b := by
      rw [hu.ps]
      cases o with
      | none => exact ixN_asc nd
      | some ns => exact (ixN_asc nd).filter _
    walk_at "rd"
    refine ⟨⟨_, .inl (.inl hsl)⟩, FJ.list (xs := ws.map V.ref) (fun i σ' H' => (∃ z12 z13, σ' = [some (.ref a), some (.ref p), some (.ref ca), some (.ref fa), some (.ref r), some (.int (u.sz : Nat)), some (.ref td), some (.ref u.m), some (.ref D), some (.ref l0), some v, some (.ref sl), z12, z13, none, none, none]) ∧ Same H4 H') ⟨⟨_, _, rfl⟩, fun _ _ e => e⟩ (fun i σ' H' _ inv => .inl (.inl (inv.2 _ _ hsl))) (fun i x σ' H5 hx inv => ?_) fun σ' H5 inv => ?_⟩
    · obtain ⟨⟨z12, z13, rfl⟩, s5⟩ := inv
      obtain ⟨wi, rfl, hwi⟩ : ∃ wi, x = .ref wi ∧ ws[i]? = some wi := by
        rw [List.getElem?_map] at hx
        cases e : ws[i]? with
        | none => rw [e] at hx; cases hx
        | some z => rw [e] at hx; cases hx; exact ⟨z, rfl, rfl⟩
      obtain ⟨s, hs, hws0⟩ := paired_at hws hwi
      have hsS := hL s (List.mem_of_getElem? hs)
      have hw5 := s5 _ _ hws0
      have S5 := S.same s5
      obtain ⟨sl0, sr0⟩ := sts_nb hsS
      have srI : ∀ v ∈ s, -(2 ^ 64) < v ∧ v < 2 ^ 64 := fun v hv => by have h1 := sr0 v hv; have h2 := S.mw.s3; unfold bad at h1; omega
      have rf : ∀ {H' : Hp} {b : Addr} {v' : V} {R : VK} {E' : XK}, Same H4 H' → LoT H' b (s.map V.int) → NmA K H' v' o → (∀ l2 H2, Same H' H2 → PaL H2 l2 (u.rows (knN (u.ps.map (·.1)) o) s) → R (.ref l2) H2) → sp_rfrom K Mc Sy UP Iv [.ref u.m, .ref b, v'] H' R E' := fun {H' b v' R E'} sH hb hv' k =>
        ⟨u, b, v', o, s, rfl, (S.same sH).mw, hb, hv', by omega, pnl, on, ol, srI, fun n hn => (by rw [unk] at hn; cases hn), fun _ => ⟨fun v hv => (by rw [sts_ok hsS] at hv; cases hv), fun _ H2 s2 l2 H3 s3 h3 => k l2 H3 (Same.tr s2 s3) h3⟩⟩
      refine UX.seq_cut (fun σ6 H6 => ∃ fl, σ6 = [some (.ref a), some (.ref p), some (.ref ca), some (.ref fa), some (.ref r), some (.int (u.sz : Nat)), some (.ref td), some (.ref u.m), some (.ref D), some (.ref l0), some v, some (.ref sl), some (.ref wi), some (.ref fl), none, none, none] ∧ Same H5 H6 ∧ PaL H6 fl (u.rows (knN (u.ps.map (·.1)) o) s)) (fun tl htl => ?_) fun σ6 H6 hm => ?_
      · walk_at "rd"
        rcases hv with ⟨rfl, rfl, h3⟩ | ⟨l, ns, rfl, rfl, h3, h4, h5⟩
        · refine ⟨rfl, true, rfl, ?_⟩
          rw [if_pos rfl]
          exact rf s5 (.inr hw5) (.inl ⟨rfl, rfl⟩) fun l2 H6 s6 h6 => htl _ _ ⟨l2, rfl, s6, h6⟩
        · refine ⟨rfl, false, rfl, ?_⟩
          rw [if_neg (by decide)]
          refine ⟨wi, _, rfl, .inr (.inl (.inl hw5)), fun l7 hl7 => ?_⟩
          have s7 : Same H5 (upd H5 l7 (.lst (s.map V.int))) := UL.Same.new hl7
          have e7 : upd H5 l7 (.lst (s.map V.int)) l7 = some (.lst (s.map V.int)) := upd_same
          generalize upd H5 l7 (.lst (s.map V.int)) = H7 at s7 e7 ⊢
          refine ⟨l, _, rfl, .inl (.inl (.inl (s7 _ _ (s5 _ _ h3)))), fun l8 hl8 => ?_⟩
          have s8 : Same H7 (upd H7 l8 (.lst (ns.map V.str))) := UL.Same.new hl8
          exact rf (Same.tr s5 (Same.tr s7 s8)) (.inl (s8 _ _ e7)) (.inr ⟨l8, ns, rfl, rfl, .l, .inl (.inl upd_same)⟩) fun l2 H6 s6 h6 => htl _ _ ⟨l2, rfl, Same.tr s7 (Same.tr s8 s6), h6⟩
      obtain ⟨fl, rfl, s6, hfl⟩ := hm
      have s46 := Same.tr s5 s6
      have S6 := S.same s46
      obtain ⟨hLe, hCl, hOk⟩ := rows_least (sz := 0) (n := 0) (ix := ixN qs) (f := u.endS) (S := sts u.sz u.cs.length) (st := s) kas (fun m hm t ht => S.mw.run m (vmem (nmAt_mem ((knm m).mp hm))) t ht) hsS
      have eR : u.rows (knN (u.ps.map (·.1)) o) s = bfs u.endS (knN (u.ps.map (·.1)) o) (sts u.sz u.cs.length).length [(s, [])] [s] := rfl
      rw [← eR] at hLe hCl hOk
      generalize u.rows (knN (u.ps.map (·.1)) o) s = Rs at hfl hLe hCl hOk
      obtain ⟨tl0, hR0⟩ := hLe.hd
      obtain ⟨x0, xl, f1, f2, f3⟩ : ∃ (x : Addr × Addr × Addr) (xl : List V), H6 fl = some (.lst (.ref x.1 :: xl)) ∧ H6 x.1 = some (.tup [.ref x.2.1, .ref x.2.2]) ∧ H6 x.2.1 = some (.tup (s.map V.int)) ∧ H6 x.2.2 = some (.tup []) := by
        obtain ⟨ts, h1, h2⟩ := hfl
        rw [hR0] at h2
        cases h2 with
        | cons a _ => obtain ⟨x, y, b1, b2, b3⟩ := a; exact ⟨(_, x, y), _, h1, b1, b2, b3⟩
      have okR : ∀ r ∈ Rs, ∀ n ∈ r.2, PyData.strOk n = true := fun r hr n hn => by
        obtain ⟨q0, h0, e⟩ := List.mem_map.mp (nmAt_mem ((knm n).mp ((hLe.right r hr).2 n hn)))
        rw [← e]; exact nm_ok (S.s.qg q0 h0).1
      walk_at "rd"
      refine ⟨fl, D, l0, Rs, qs.map (·.n), js, rfl, hfl, s46 _ _ hD, s46 _ _ hl0, fun r hr n hn => ?_, true, rfl, ?_⟩
      · obtain ⟨j, hj, q0, hq0, rfl⟩ := (knm n).mp ((hLe.right r hr).2 n hn)
        exact ⟨List.mem_map_of_mem (List.mem_of_getElem? hq0), by rw [ix hq0]; exact hj⟩
      rw [if_neg (by decide)]
      intro T hT
      have s7 : Same H6 (upd H6 T (.lst [])) := UL.Same.new hT
      have hfl7 := hfl.same s7
      obtain ⟨ds, dd, hdp, hds⟩ := hfl7.dp (K := K) (by rw [hR0]; simp) okR
      have e7 : upd H6 T (.lst []) T = some (.lst []) := upd_same
      generalize upd H6 T (.lst []) = H7 at s7 e7 hfl7 hdp ⊢
      refine .inr ⟨_, .list [], hdp, .lst (.inl (.inl e7)) .nil, hds, rfl, false, by rw [PyData.eqv, PyData.eqvAll], ?_⟩
      rw [if_neg (by decide)]
      refine ixL (.inl (.inl (s7 _ _ f1))) (show atI _ ((0 : Nat) : Int) = some (V.ref x0.1) from atN rfl) (ixT (.inl (.inl (s7 _ _ f2))) (show atI _ ((0 : Nat) : Int) = some (V.ref x0.2.1) from atN rfl) ⟨_, _, s, rfl, s7 _ _ f3.1, s7 _ _ (s6 _ _ hw5), by have := S.mw.c3; omega, true, rfl, ?_⟩)
      rw [if_neg (by decide)]
      refine ixL (.inl (.inl (s7 _ _ f1))) (show atI _ ((0 : Nat) : Int) = some (V.ref x0.1) from atN rfl) (ixT (.inl (.inl (s7 _ _ f2))) (show atI _ ((1 : Nat) : Int) = some (V.ref x0.2.2) from atN rfl) fun T2 hT2 => ?_)
      have s8 : Same H7 (upd H7 T2 (.tup [])) := UL.Same.new hT2
      have e8 : upd H7 T2 (.tup []) T2 = some (.tup []) := upd_same
      generalize upd H7 T2 (.tup []) = H8 at s8 e8 ⊢
      refine .inr ⟨.tuple [], .tuple [], .tup (.inl (.inl (s8 _ _ (s7 _ _ f3.2)))) .nil, .tup (.inl (.inl e8)) .nil, rfl, rfl, false, by rw [PyData.eqv, PyData.eqvAll]; rfl, ?_⟩
      rw [if_neg (by decide)]
      have s48 := Same.tr s46 (Same.tr s7 s8)
      have S8 := S.same s48
      refine ⟨u, fl, D, r, l0, ca, td, Rs, qs, js, _, valA tq, s, rfl, hfl7.same s8, s48 _ _ hD, S8.s.pr, s48 _ _ hl0, S8.s.hca, S8.tdh, hu, hsS, by omega, fun j hj => ?_, fun n hn => nmAt_mem ((knm n).mp hn), hLe, hCl, hOk, fun H9 s9 => ⟨true, rfl, ?_⟩⟩
      · have jl := jb j hj
        exact ⟨qs[j], List.getElem?_eq_getElem jl, (knm _).mpr ⟨j, hj, _, List.getElem?_eq_getElem jl, rfl⟩⟩
      rw [if_neg (by decide)]
      exact ⟨⟨_, rfl⟩, Same.tr s48 s9⟩
    · obtain ⟨⟨z12, z13, rfl⟩, s5⟩ := inv
      walk_at "rd"
      exact q _
end
end U
set_option Elab.async false
set_option linter.all false
set_option maxRecDepth 100000
set_option maxHeartbeats 4000000
set_option pp.deepTerms true
set_option pp.maxSteps 400000
namespace U
open PySem PySem.Spec PyProof.Rows L2 UL UX
local macro_rules | `(tactic| walk_at "rd") => `(tactic| simp only [sMatch, tJs, tFmt, tBC, tMethA, tMakeL, iEnumS, tSeq, tAsg, tOp, tCB, tCons, tNil, tVar, tC, tB, tTest, tNot, tIfS, tNext, tYes, tUn, rU, tM0, tGFrom, tGThen, tG0, tYfLst, gcxK, tSubO, tProp, tListG, tMethG, tBMF, tFld, sFld, tMeth, tMake, tSl, tNoPart, tPart, tM1, gTup, gCons, gNil, tDrop, tFor_eq, tLc_eq, tLc2_eq, iRng1_eq, StX.tStar, iList, iTup, iStr, iAny_var, iZipB, tLenSetS, wipe, tVar, tAndV, tOrV, tNotV, tOr, tAnd, tLst, tTup, tBM, tBM0, tChain, tCall, cxK, noxK, addII, addSS, mulII, eqII, neII, neSS, cIntI, cAbsI, rI, rI0, rLt, rLe, rGt_, rGe_, rSub_, rMod, rPow, rDivW, rNeg, gName, tRet, L2.start, List.length_cons, List.length_nil, List.map_cons, List.map_nil, List.replicate, List.cons_append, List.nil_append, List.getElem?_cons_zero, List.getElem?_cons_succ, List.set_cons_zero, List.set_cons_succ, Option.some.injEq, exists_eq_left', exists_eq_left, V.int.injEq, V.bl.injEq, V.str.injEq, V.ref.injEq, V.ty.injEq, List.cons.injEq, and_true, true_and, reduceCtorEq, false_and, exists_false, or_false, false_or, exists_and_left, exists_and_right, List.append_nil, forall_eq, decide_eq_true_eq, Bool.not_eq_true, Nat.reduceAdd, Nat.reduceSub, List.replicate_zero, List.replicate_succ, Nat.zero_le, ite_true, ite_false, if_true, if_false])
section
variable {P : Program} {w : World} {K : PySem.W.Frag} {mg : Str → Option Value} {base : Heap}
open UV UW NdefX ClX
theorem td_mk {h : Heap} {x : Str} {st : Stmt} {f : Addr} {oc kV dc pm cd ct : Value} {od an : Option Addr} {sl : Array (Option Value)} (X : K.In h) (G : h.Ns mainGlobals mg) (a : PySem.W.nsIn K mainGlobals x = some (some (.ref f)))
    (l : K.lookup f = some ⟨oc, od, .func (PySem.W.fnOf x x (defArgs st) (defBody st) (defScope st) .none kV dc pm an cd ct), sl⟩) (c : PySem.W.codeIn K cd x = true) (k : PySem.W.keepIn K (.ref f) = true) : TD K mg x st := ⟨f, _, fun_mk l c k, PySem.W.mg_of X G a⟩
theorem md_mk {C : Addr} {m qual : Str} {st : Stmt} {f : Addr} {oc kV dc pm cd ct : Value} {od an : Option Addr} {sl : Array (Option Value)} (a : PySem.W.findIn K (.ref C) m = some (some (.ref f)))
    (l : K.lookup f = some ⟨oc, od, .func (PySem.W.fnOf m qual (defArgs st) (defBody st) (defScope st) .none kV dc pm an cd ct), sl⟩) (c : PySem.W.codeIn K cd qual = true) (i : PySem.W.isFn K (.ref f) = true) (k : PySem.W.keepIn K (.ref f) = true) : MD K C m qual st := ⟨f, _, fun_mk l c k, a, i, k⟩
theorem no_mk {h : Heap} {x : Str} (X : K.In h) (G : h.Ns mainGlobals mg) (a : PySem.W.nsIn K mainGlobals x = some none) : mg x = none := PySem.W.mg_none_of X G a
theorem gs_mk {h : Heap} {x z : Str} {t : Tok} (X : K.In h) (G : h.Ns mainGlobals mg) (a : PySem.W.nsIn K mainGlobals x = some (some (.str z t))) : ∃ u, mg x = some u ∧ RelV (.str z) u := ⟨_, PySem.W.mg_of X G a, _, rfl⟩
theorem gi_mk {h : Heap} {x : Str} {i : Int} {t : Tok} (X : K.In h) (G : h.Ns mainGlobals mg) (a : PySem.W.nsIn K mainGlobals x = some (some (.int i t))) : ∃ u, mg x = some u ∧ RelV (.int i) u := ⟨_, PySem.W.mg_of X G a, _, rfl⟩
theorem gr_mk {h : Heap} {x : Str} {a : Addr} (X : K.In h) (G : h.Ns mainGlobals mg) (e : PySem.W.nsIn K mainGlobals x = some (some (.ref a))) : ∃ u, mg x = some u ∧ RelV (.ref a) u := ⟨_, PySem.W.mg_of X G e, rfl⟩
theorem ga_mk {h : Heap} {x : Str} {a : Addr} (X : K.In h) (G : h.Ns mainGlobals mg) (e : PySem.W.nsIn K mainGlobals x = some (some (.ref a))) : mg x = some (.ref a) := PySem.W.mg_of X G e
theorem na_mk {C : Addr} {x : Str} (a : PySem.W.findIn K (.ref C) x = some none) : NoAttr K C x := a
theorem cfn_mk {C : Addr} {m : Str} {f : Addr} (a : PySem.W.findIn K (.ref C) m = some (some (.ref f))) (b : PySem.W.findCls K (.ref C) (.type "type") m = some (.val (.ref f))) (r : PySem.W.readsIn K C (.type "type") = true)
    (g : PySem.W.specialIn K (.ref C) "__getattribute__" = some (some (.builtin "type.__getattribute__"))) (k : PySem.W.keepIn K (.ref f) = true) : ∃ f, PySem.W.findIn K (.ref C) m = some (some (.ref f)) ∧ UX.CFn K C m f := ⟨f, a, b, ⟨r, g⟩, k⟩
theorem cm_mk {C : Addr} {m qual : Str} {st : Stmt} {q g : Addr} {rest : List Value} {oc kV dc pm cd ct : Value} {od an : Option Addr} {sl : Array (Option Value)} (b : PySem.W.findCls K (.ref C) (.type "type") m = some (.get (.builtin "classmethod.__get__") (.ref q) .none (.ref C))) (rc : PySem.W.recIn K q "classmethod" = some (.ref g :: rest))
    (r : PySem.W.readsIn K C (.type "type") = true) (ga : PySem.W.specialIn K (.ref C) "__getattribute__" = some (some (.builtin "type.__getattribute__"))) (fi : PySem.W.fnIn K g = true)
    (l : K.lookup g = some ⟨oc, od, .func (PySem.W.fnOf m qual (defArgs st) (defBody st) (defScope st) .none kV dc pm an cd ct), sl⟩) (c : PySem.W.codeIn K cd qual = true) (k : PySem.W.keepIn K (.ref g) = true) :
    ∃ q g fd, ClX.CRead K C (.type "type") ∧ ClX.CMet K C (.type "type") m q g ∧ Fun K m qual st g fd := ⟨q, g, _, ⟨r, ga⟩, ⟨b, ⟨rest, rc⟩, fi⟩, fun_mk l c k⟩
/-- C(..) from its __init__ -/
theorem kn_of {C : Addr} {x : Str} {k : Nat} {sp : Sp} (d : Mn P w K mg base CX0 k C "__init__" sp) (mk : PySem.W.makesIn K C = true) (kc : PySem.W.keepIn K (.ref C) = true) (gc : mg x = some (.ref C)) : Kn P w K mg base CX0 k C x sp := by
  obtain ⟨f, fd, ps, FO, M, B⟩ := d.ex
  exact ⟨f, fd, ps, FO, ⟨mk, M.at_, M.fn, kc⟩, B, gc⟩
/-- C.m(self, ..) from its def -/
theorem bn_of {C : Addr} {x m : Str} {k : Nat} {sp : Sp} (d : Mn P w K mg base CX0 k C m sp) (h : ∃ f, PySem.W.findIn K (.ref C) m = some (some (.ref f)) ∧ UX.CFn K C m f) (gc : mg x = some (.ref C)) : UX.Bn P w K mg base k C x m sp := by
  obtain ⟨f, fd, ps, FO, M, B⟩ := d.ex
  obtain ⟨f2, e, c⟩ := h
  have z := M.at_.symm.trans e
  cases z
  exact ⟨f, fd, ps, FO, c, B, gc⟩
theorem ox_mk {C : Addr} {nm q : Str} {N : Addr} {bs bm : List Value} {sn : List Str} {sub : List Value} {ab : Bool} {col : Option Bool} {dd : Option Addr} {k0 k1 k2 k3 k5 : Option Value} (l : K.lookup C = some (excClassObj nm q C N bs bm true sn sub ab col dd k0 k1 k2 k3 k5 "ValueError.__new__")) (hb : PySem.HandSPX.refsVE bm = true)
    (sa : PySem.W.findIn K (.ref C) "__setattr__" = some (some (.builtin "object.__setattr__"))) (e : PySem.W.subIn K (.ref C) (.type "BaseException") = some true) (t : PySem.W.typeIn K (.ref C) = some (.type "type")) (k : PySem.W.keepIn K (.ref C) = true) : OexC K C := ⟨⟨nm, q, N, bs, bm, sn, sub, ab, col, dd, k0, k1, k2, k3, k5, l, hb⟩, sa, e, t, k⟩
theorem xd_mk {h : Heap} {C : Addr} {x qual : Str} {st : Stmt} {f c cc : Addr} {oc kV doc pm ct : Value} {od an : Option Addr} {osl : Array (Option Value)} {ccl : Value} {cdd : Option Addr} {vs : Array Value} {ccs : Array (Option Value)} {file : Str} {tf : Tok} {cl : Value} {cld : Option Addr} {csl : Array (Option Value)} (X : K.In h) (G : h.Ns mainGlobals mg) (ox : OexC K C)
    (gc : PySem.W.nsIn K mainGlobals x = some (some (.ref C))) (fi : PySem.W.findIn K (.ref C) "__init__" = some (some (.ref f))) (lk : K.lookup f = some ⟨oc, od, .func (PySem.W.fnX "__init__" qual (defArgs st) (defBody st) (defScope st) [("__class__", cc)] .none kV doc pm an (.ref c) ct), osl⟩) (hcd : PySem.W.codeIn K (.ref c) qual = true)
    (ty : PySem.W.typeIn K (.ref f) = some (.type "function")) (par : ∃ ar, ((defArgs st).posonlyargs ++ (defArgs st).args).head? = some ar ∧ ar.arg = "self") (lc : K.lookup c = some ⟨ccl, cdd, .fields vs, ccs⟩) (v2 : vs[2]? = some (.str file tf)) (fl : ((P.main.file : Str) == file) = true) (top : (P.main.scope.names.lookup ("super" : Str)).isSome = false)
    (lcc : K.lookup cc = some ⟨cl, cld, .cell (some (.ref C)), csl⟩) (nos : PySem.W.nsIn K mainGlobals "super" = some none) (sub : PySem.W.mroIn K C (.ref C) = some true) (op : PySem.W.nsIn K cStatics "thirdparty.any" = some none) (al : PySem.W.ks_superIn K C C "__init__" = some (some wr)) : XD P K mg C x qual st :=
  ⟨⟨f, c, cc, oc, kV, doc, pm, ct, od, an, osl, lk, hcd, ⟨⟨oc, od, osl, lk⟩, par, ⟨ccl, cdd, vs, ccs, file, tf, lc, v2, fl⟩, top, ⟨cl, cld, csl, lcc⟩, PySem.W.mg_none_of X G nos, sub, op, al⟩, fi, ty⟩, ox, PySem.W.mg_of X G gc⟩
theorem kx_of {C : Addr} {x : Str} {k : Nat} {sp : Sp} (d : Mn P w K mg base (L2.CX P w) k C "__init__" sp) (mk : PySem.W.makesIn K C = true) (kc : PySem.W.keepIn K (.ref C) = true) (gc : mg x = some (.ref C)) : Kn P w K mg base (L2.CX P w) k C x sp := by
  obtain ⟨f, fd, ps, FO, M, B⟩ := d.ex
  exact ⟨f, fd, ps, FO, ⟨mk, M.at_, M.fn, kc⟩, B, gc⟩
theorem callf_mk {C : Addr} {f : Addr} (a : PySem.W.findIn K (.ref C) "__call__" = some (some (.ref f))) (b : PySem.W.fnIn K f = true) : ∃ f, PySem.W.findIn K (.ref C) "__call__" = some (some (.ref f)) ∧ PySem.W.fnIn K f = true := ⟨f, a, b⟩
theorem tdd_mk {h : Heap} {x : Str} {st : Stmt} {f T : Addr} {oc kV dc pm cd ct : Value} {od an : Option Addr} {sl : Array (Option Value)} {o : Obj} {its : List Value} {n : Nat} {dvs : List V} (X : K.In h) (G : h.Ns mainGlobals mg) (hd : dvs ≠ []) (a : PySem.W.nsIn K mainGlobals x = some (some (.ref f)))
    (l : K.lookup f = some ⟨oc, od, .func (PySem.W.fnOf x x (defArgs st) (defBody st) (defScope st) (.ref T) kV dc pm an cd ct), sl⟩) (c : PySem.W.codeIn K cd x = true) (k : PySem.W.keepIn K (.ref f) = true)
    (lt : K.lookup T = some o) (dt : o.data = .seq its.toArray n) (v : Vals dvs its) : UX.TDd K mg x st dvs :=
  ⟨f, _, ⟨⟨oc, od, .ref T, kV, dc, pm, an, cd, ct, sl, rfl, l, c, .inr ⟨hd, T, o, its, n, rfl, lt, dt, v⟩, .inl rfl⟩, k⟩, PySem.W.mg_of X G a⟩
theorem mdc_mk {C c : Addr} {m qual : Str} {st : Stmt} {f : Addr} {oc kV dc pm ct : Value} {od an : Option Addr} {sl : Array (Option Value)} (a : PySem.W.findIn K (.ref C) m = some (some (.ref f)))
    (l : K.lookup f = some ⟨oc, od, .func (PySem.W.fnOf m qual (defArgs st) (defBody st) (defScope st) .none kV dc pm an (.ref c) ct), sl⟩) (cc : PySem.W.codeIn K (.ref c) qual = true) (i : PySem.W.isFn K (.ref f) = true) (k : PySem.W.keepIn K (.ref f) = true) : UX.MDc K C m qual st c := ⟨f, oc, kV, dc, pm, ct, od, an, sl, l, cc, ⟨a, i, k⟩⟩
/-- everything that the law wants of the module -/
structure All (P : Program) (K : PySem.W.Frag) (mg : Str → Option Value) (R Wr B Pg Sy IC IS UC UP Mc IT Iv OR ce : Addr) : Prop where
  xdIC : XD P K mg IC "InvalidCells" "InvalidCells.__init__" s_IC
  xdIS : XD P K mg IS "InvalidSystem" "InvalidSystem.__init__" s_IS
  xdUC : XD P K mg UC "UnknownCell" "UnknownCell.__init__" s_UC
  xdUP : XD P K mg UP "UnknownProgram" "UnknownProgram.__init__" s_UP
  xdIT : XD P K mg IT "InvalidTable" "InvalidTable.__init__" s_IT
  xdIv : XD P K mg Iv "InvalidState" "InvalidState.__init__" s_Iv
  xdOR : XD P K mg OR "OutOfRange" "OutOfRange.__init__" s_OR
  gR : mg "Read" = some (.ref R)
  mkR : PySem.W.makesIn K R = true
  kcR : PySem.W.keepIn K (.ref R) = true
  gWr : mg "Write" = some (.ref Wr)
  mkWr : PySem.W.makesIn K Wr = true
  kcWr : PySem.W.keepIn K (.ref Wr) = true
  gB : mg "ReadWrite" = some (.ref B)
  mkB : PySem.W.makesIn K B = true
  kcB : PySem.W.keepIn K (.ref B) = true
  gPg : mg "Program" = some (.ref Pg)
  mkPg : PySem.W.makesIn K Pg = true
  kcPg : PySem.W.keepIn K (.ref Pg) = true
  gSy : mg "System" = some (.ref Sy)
  mkSy : PySem.W.makesIn K Sy = true
  kcSy : PySem.W.keepIn K (.ref Sy) = true
  gMc : mg "Machine" = some (.ref Mc)
  mkMc : PySem.W.makesIn K Mc = true
  kcMc : PySem.W.keepIn K (.ref Mc) = true
  xl : MaX K mg R Wr B Pg Sy IS UC UP Mc
  x3 : XT3 K Iv OR
  naIT : PySem.W.findIn K (.ref IT) "function" = some none
  cf : ∃ f, PySem.W.findIn K (.ref Mc) "__call__" = some (some (.ref f)) ∧ PySem.W.fnIn K f = true
  d_is_name : TD K mg "is_name" s_is_name
  d_parse_header : TD K mg "parse_header" s_parse_header
  d_parse_steps : TD K mg "parse_steps" s_parse_steps
  d_parse_step : TD K mg "parse_step" s_parse_step
  d_make_read : TD K mg "make_read" s_make_read
  d_make_write : TD K mg "make_write" s_make_write
  d_make_both : TD K mg "make_both" s_make_both
  d_is_argument_part : TD K mg "is_argument_part" s_is_argument_part
  d_check_names : TD K mg "check_names" s_check_names
  d_check_size : TD K mg "check_size" s_check_size
  d_check_state : TD K mg "check_state" s_check_state
  d_is_value : TD K mg "is_value" s_is_value
  d_list_states : TD K mg "list_states" s_list_states
  d_copy_table : TD K mg "copy_table" s_copy_table
  d_do_step : TD K mg "do_step" s_do_step
  d_do_program : TD K mg "do_program" s_do_program
  d_find_rows : TD K mg "find_rows" s_find_rows
  d_law_is_number : TD K mg "_law_is_number" s__law_is_number
  d_law_mixed : TD K mg "_law_mixed" s__law_mixed
  d_law_pool : TD K mg "_law_pool" s__law_pool
  d_law_draw : TD K mg "_law_draw" s__law_draw
  d_law_names : TD K mg "_law_names" s__law_names
  d_law_cells : TD K mg "_law_cells" s__law_cells
  d_law_functions : TD K mg "_law_functions" s__law_functions
  d_law_step : TD K mg "_law_step" s__law_step
  d_law_steps : TD K mg "_law_steps" s__law_steps
  d_law_programs : TD K mg "_law_programs" s__law_programs
  d_law_line : TD K mg "_law_line" s__law_line
  d_law_text : TD K mg "_law_text" s__law_text
  d_law_tables : TD K mg "_law_tables" s__law_tables
  d_law_made : TD K mg "_law_made" s__law_made
  d_law_do : TD K mg "_law_do" s__law_do
  d_law_alone : TD K mg "_law_alone" s__law_alone
  d_law_states : TD K mg "_law_states" s__law_states
  d_law_same : TD K mg "_law_same" s__law_same
  d_law_known : TD K mg "_law_known" s__law_known
  d_law_known_names : TD K mg "_law_known_names" s__law_known_names
  d_law_key : TD K mg "_law_key" s__law_key
  d_law_pairs : TD K mg "_law_pairs" s__law_pairs
  d_law_least : TD K mg "_law_least" s__law_least
  m_R_init : MD K R "__init__" "Read.__init__" s_Read___init__
  m_R_reads : MD K R "reads" "Read.reads" s_Read_reads
  m_R_writes : MD K R "writes" "Read.writes" s_Read_writes
  m_Wr_init : MD K Wr "__init__" "Write.__init__" s_Write___init__
  m_Wr_reads : MD K Wr "reads" "Write.reads" s_Write_reads
  m_Wr_writes : MD K Wr "writes" "Write.writes" s_Write_writes
  m_B_init : MD K B "__init__" "ReadWrite.__init__" s_ReadWrite___init__
  m_B_reads : MD K B "reads" "ReadWrite.reads" s_ReadWrite_reads
  m_B_writes : MD K B "writes" "ReadWrite.writes" s_ReadWrite_writes
  m_Pg_init : MD K Pg "__init__" "Program.__init__" s_Program___init__
  m_Sy_init : MD K Sy "__init__" "System.__init__" s_System___init__
  m_Sy_take_program : MD K Sy "_take_program" "System._take_program" s_System__take_program
  m_Sy_take_step : MD K Sy "_take_step" "System._take_step" s_System__take_step
  m_Sy_take_function : MD K Sy "_take_function" "System._take_function" s_System__take_function
  m_Sy_program_named : MD K Sy "program_named" "System.program_named" s_System_program_named
  m_Sy_functions : MD K Sy "functions" "System.functions" s_System_functions
  m_Sy_check_programs : MD K Sy "check_programs" "System.check_programs" s_System_check_programs
  m_Sy_known : MD K Sy "known" "System.known" s_System_known
  m_Mc_init : MD K Mc "__init__" "Machine.__init__" s_Machine___init__
  m_Mc_apply : MD K Mc "apply" "Machine.apply" s_Machine_apply
  m_Mc_list_starts : MD K Mc "list_starts" "Machine.list_starts" s_Machine_list_starts
  m_Mc_call : MD K Mc "__call__" "Machine.__call__" s_Machine___call__
  m_Mc_check_start : MD K Mc "check_start" "Machine.check_start" s_Machine_check_start
  b_R : ∃ f, PySem.W.findIn K (.ref R) "__init__" = some (some (.ref f)) ∧ UX.CFn K R "__init__" f
  b_Wr : ∃ f, PySem.W.findIn K (.ref Wr) "__init__" = some (some (.ref f)) ∧ UX.CFn K Wr "__init__" f
  cm : ∃ q g fd, ClX.CRead K Pg (.type "type") ∧ ClX.CMet K Pg (.type "type") "read" q g ∧ Fun K "read" "Program.read" s_Program_read g fd
  m_Mc_list_ends : UX.MDc K Mc "_list_ends" "Machine._list_ends" s_Machine__list_ends ce
  d_rows_from : UX.TDd K mg "rows_from" s_rows_from [.non]
theorem law_of {R Wr B Pg Sy IC IS UC UP Mc IT Iv OR ce : Addr} (a : All P K mg R Wr B Pg Sy IC IS UC UP Mc IT Iv OR ce) {PT : Addr} (LT : LamX.TabB base mg ce PT) {f0 : Addr} {fd0 : FuncData} (F0 : Fun K "law" "law" s_law f0 fd0) : FnOk P w K mg base CX0 30 f0 fd0 ["_law_script"] (sp_law [(PT, fun _ _ => nmLE)] K) := by
  have X := a.xl
  have Y := X.toSyX
  have T := Y.toPT
  have N := T.toNm
  have ap : Ap R Wr B := ⟨fun e => (by have h := T.kWR; rw [← e, T.kRR] at h; cases h), fun e => (by have h := T.kRB; rw [← e, T.kRR] at h; cases h), fun e => (by have h := T.kWB; rw [← e, T.kWW] at h; cases h)⟩
  have hisn : Dn P w K mg base CX0 1 "is_name" sp_isnm := d_isnm N a.d_is_name
  have iR : Mn P w K mg base CX0 1 R "__init__" (sp_initR R B) := m_initR T a.m_R_init
  have iW : Mn P w K mg base CX0 1 Wr "__init__" (sp_initW K Wr B) := m_initW T a.m_Wr_init
  have iB : Mn P w K mg base CX0 2 B "__init__" (sp_initB K R Wr B) := m_initB T a.m_B_init (bn_of iR a.b_R a.gR) (bn_of iW a.b_Wr a.gWr)
  have iP : Mn P w K mg base CX0 1 Pg "__init__" (sp_initP K Pg) := m_initP T a.m_Pg_init
  have hia : Dn P w K mg base CX0 1 "is_argument_part" (sp_isarg K) := d_isarg T a.d_is_argument_part
  have hmr : Dn P w K mg base CX0 3 "make_read" (sp_mkR R Wr B) := d_mkR T a.d_make_read hisn (kn_of iR a.mkR a.kcR a.gR)
  have hmw : Dn P w K mg base CX0 3 "make_write" (sp_mkW K R Wr B) := d_mkW T a.d_make_write hisn hia (kn_of iW a.mkWr a.kcWr a.gWr)
  have hmb : Dn P w K mg base CX0 4 "make_both" (sp_mkB R Wr B) := d_mkB T a.d_make_both (kn_of iB a.mkB a.kcB a.gB)
  have hps : Dn P w K mg base CX0 5 "parse_step" (sp_pstep K R Wr B) := d_pstep T a.d_parse_step hmr hmw hmb
  have hpp : Dn P w K mg base CX0 6 "parse_steps" (sp_psteps K R Wr B) := d_psteps T a.d_parse_steps hps
  have hph : Dn P w K mg base CX0 2 "parse_header" sp_phead := d_phead T a.d_parse_header hisn
  have cm : CMn P w K mg base 7 Pg "Program" "read" (sp_pread K R Wr B Pg) := by
    obtain ⟨q, g, fd, cr, cm, F⟩ := a.cm
    have ok := d_pread T F (kn_of iP a.mkPg a.kcPg a.gPg) hph hpp
    have hb := F.binds (ps := ["cls", "text"]) (fun _ _ _ _ _ _ us hl => match us, hl with | [_, _], _ => rfl)
    exact ⟨q, g, _, cr, cm, (ok.raw hb .nil).imp fun vs H Q E h => by rw [List.append_nil]; exact h, a.gPg⟩
  have rR : Mn P w K mg base CX0 1 R "reads" (sp_reads R Wr B R) := m_readsR ap T a.m_R_reads
  have rW : Mn P w K mg base CX0 1 Wr "reads" (sp_reads R Wr B Wr) := m_readsW ap T a.m_Wr_reads
  have rB : Mn P w K mg base CX0 1 B "reads" (sp_reads R Wr B B) := m_readsB ap T a.m_B_reads
  have wR : Mn P w K mg base CX0 1 R "writes" (sp_writes R Wr B R) := m_writesR ap T a.m_R_writes
  have wW : Mn P w K mg base CX0 1 Wr "writes" (sp_writes R Wr B Wr) := m_writesW ap T a.m_Wr_writes
  have wB : Mn P w K mg base CX0 1 B "writes" (sp_writes R Wr B B) := m_writesB ap T a.m_B_writes
  have Ar : ∀ C s, Fam R Wr B (sp_reads R Wr B) C s → Mn P w K mg base CX0 1 C "reads" s ∧ Cls K C := fun C s h => by
    obtain ⟨rfl | rfl | rfl, rfl⟩ := h
    · exact ⟨rR, T.cR⟩
    · exact ⟨rW, T.cW⟩
    · exact ⟨rB, T.cB⟩
  have Aw : ∀ C s, Fam R Wr B (sp_writes R Wr B) C s → Mn P w K mg base CX0 1 C "writes" s ∧ Cls K C := fun C s h => by
    obtain ⟨rfl | rfl | rfl, rfl⟩ := h
    · exact ⟨wR, T.cR⟩
    · exact ⟨wW, T.cW⟩
    · exact ⟨wB, T.cB⟩
  have xIC : Xn P w K mg base 1 IC "InvalidCells" (sp_IC IC) := x_IC a.xdIC
  have xIS : Xn P w K mg base 1 IS "InvalidSystem" (sp_IS (K := K) IS) := x_IS a.xdIS
  have xUC : Xn P w K mg base 1 UC "UnknownCell" (sp_UC (K := K) UC) := x_UC a.xdUC
  have xUP : Xn P w K mg base 1 UP "UnknownProgram" (sp_UP (K := K) UP) := x_UP a.xdUP
  have hcn : Dn P w K mg base (L2.CX P w) 3 "check_names" (sp_chknX K IC) := d_chknX N a.d_check_names hisn xIC
  have mF : Mn P w K mg base (L2.CX P w) 3 Sy "_take_function" (sp_takeF Sy IS UC) := m_takeF Y a.m_Sy_take_function xIS
  have mS : Mn P w K mg base (L2.CX P w) 5 Sy "_take_step" (sp_takeS R Wr B Sy IS UC) := m_takeS ap Y a.m_Sy_take_step xUC Ar Aw mF
  have mP : Mn P w K mg base (L2.CX P w) 7 Sy "_take_program" (sp_takeP R Wr B Pg Sy IS UC) := m_takeP Y a.m_Sy_take_program xIS mS
  have mI : Mn P w K mg base (L2.CX P w) 9 Sy "__init__" (sp_sinit K R Wr B Pg Sy IC IS UC) := m_sinit Y a.m_Sy_init hcn mP
  have kS : Kn P w K mg base (L2.CX P w) 9 Sy "System" (sp_sinit K R Wr B Pg Sy IC IS UC) := kx_of mI a.mkSy a.kcSy a.gSy
  have hmix : Dn P w K mg base CX0 1 "_law_mixed" sp_mixed := d_mixed N a.d_law_mixed
  have hpool : Dn P w K mg base CX0 2 "_law_pool" (sp_pool K) := d_pool N a.d_law_pool hmix
  have hdraw : Dn P w K mg base CX0 1 "_law_draw" sp_draw := d_draw N a.d_law_draw
  have hn0 : Dn P w K mg base CX0 2 "_law_names" sp_names0 := d_names0 N a.d_law_names hdraw
  have hnN : Dn P w K mg base CX0 2 "_law_names" sp_namesN := d_namesN N a.d_law_names hdraw
  have hcells : Dn P w K mg base CX0 3 "_law_cells" sp_cellsN := d_cellsN N a.d_law_cells hdraw hnN
  have hfuns : Dn P w K mg base CX0 3 "_law_functions" sp_funsN := d_funsN N a.d_law_functions hdraw hnN
  have hstep : Dn P w K mg base CX0 2 "_law_step" (sp_lstep K) := d_lstep N a.d_law_step hdraw
  have hsteps : Dn P w K mg base CX0 3 "_law_steps" (sp_lsteps K) := d_lsteps N a.d_law_steps hstep
  have hprogs : Dn P w K mg base CX0 4 "_law_programs" sp_lprogs := d_lprogs N a.d_law_programs hdraw hn0 hsteps
  have hline : Dn P w K mg base CX0 1 "_law_line" sp_line := d_line N a.d_law_line
  have htext : Dn P w K mg base CX0 2 "_law_text" sp_ltext := d_ltext N a.d_law_text hline
  have XM := X
  have hnum : Dn P w K mg base CX0 1 "_law_is_number" sp_isnum := d_isnum N a.d_law_is_number
  have LTT : UX.LamT [(PT, fun _ _ => nmLE)] base mg ce PT nmLE := ⟨LT, List.mem_singleton.mpr rfl, fun p hp _ => by rw [List.mem_singleton.mp hp]⟩
  have xIT : Xn P w K mg base 1 IT "InvalidTable" (sp_IT (K := K) IT) := x_IT a.xdIT
  have xIv : Xn P w K mg base 1 Iv "InvalidState" (sp_Iv (K := K) Iv) := x_Iv a.xdIv
  have xOR : Xn P w K mg base 1 OR "OutOfRange" (sp_OR (K := K) OR) := x_OR a.xdOR
  have hst : Dn P w K mg base CX0 1 "list_states" sp_states := d_list_states N a.d_list_states
  have hma := m_apply (P := P) (w := w) (base := base) XM a.m_Mc_apply
  have hms := m_starts XM a.m_Mc_list_starts hst
  have hds := d_dostep (P := P) (w := w) (base := base) T a.d_do_step
  have hdp := d_doprog T a.d_do_program hds
  have hpn := m_named Y a.m_Sy_program_named xUP
  have hme := m_ends XM LTT a.m_Mc_list_ends hpn hms hma hdp
  have hiv := d_isval (P := P) (w := w) (base := base) N a.d_is_value
  have hcp := d_copy N a.naIT a.d_copy_table hst hiv xIT
  have hmi := m_minit XM a.m_Mc_init (d_chksX N a.d_check_size xIC) (m_funcs Y a.m_Sy_functions) hcp hme
  have kM := kx_of hmi a.mkMc a.kcMc a.gMc
  have hcs := d_cst N a.x3 a.d_check_state hiv xIv xOR
  have hcc := m_cstart XM a.m_Mc_check_start hcs
  have hps := m_chkps Y a.m_Sy_check_programs hpn
  have hcall := m_mcall XM a.m_Mc_call hpn hcc
  have hdo := d_ldo (P := P) (w := w) (base := base) N a.d_law_do
  have hal := d_lalone N a.d_law_alone hdo
  have hsm := d_same N a.d_law_same hnum
  have hkw := m_known Y a.m_Sy_known hps
  have hfr := d_frows N a.d_find_rows (UX.Mn.con hcall a.cf)
  have hrf := d_rfrom XM a.d_rows_from hkw hcc hfr
  exact ok_law XM F0 hpool hdraw hcells hfuns hprogs (d_ltabs N a.d_law_tables hdraw) (d_lmade Y a.d_law_made htext cm kS) kM (d_law_states N a.d_law_states) (d_lknown N a.d_law_known hdraw) (d_lkn N a.d_law_known_names hdraw) hrf (d_lpairs N a.d_law_pairs) hsm (d_lleast N a.d_law_least hal hsm (d_lkey N a.d_law_key))
theorem tabs_empty {H : Hp} {PT : Addr} {nm : Nat → Nat → Str} (h : H PT = some (.tbl #[])) : NdefX.TabsN [(PT, nm)] H := fun p hp => by
  rw [List.mem_singleton.mp hp]
  exact ⟨#[], h, by trivial, fun pos cv hc => by cases hc⟩
theorem fin_of {l : PySem.W.OpenLaw} {w : World} {h : Heap} {fa PT R Wr B Pg Sy IC IS UC UP Mc IT Iv OR ce : Addr} (X : K.In h) (G : h.Ns mainGlobals mg) (hfa : mg "law" = some (.ref fa)) (a : All l.prog K mg R Wr B Pg Sy IC IS UC UP Mc IT Iv OR ce)
    (tb : h.get? PT = some { cls := .none, data := .fields #[] }) (tn : K.lookup PT = none) (hcd : PySem.W.codeHdIn K ce PT = true)
    {f1 : Addr} {od1 an1 : Option Addr} {sl1 : Array (Option Value)} {oc1 kV1 dc1 pm1 cd1 ct1 : Value}
    (a1 : PySem.W.nsIn K mainGlobals "law" = some (some (.ref f1))) (l1 : K.lookup f1 = some ⟨oc1, od1, .func (PySem.W.fnOf "law" "law" (defArgs s_law) (defBody s_law) (defScope s_law) .none kV1 dc1 pm1 an1 cd1 ct1), sl1⟩) (c1 : PySem.W.codeIn K cd1 "law" = true) (k1 : PySem.W.keepIn K (.ref f1) = true) :
    LamX.LawAtS l w K CX0 30 63 "_law_script" mg fa h := by
  have e := hfa.symm.trans (PySem.W.mg_of X G a1)
  cases e
  have F1 := fun_mk (st := s_law) l1 c1 k1
  exact ⟨PySem.W.fnOf "law" "law" (defArgs s_law) (defBody s_law) (defScope s_law) .none kV1 dc1 pm1 an1 cd1 ct1, [(ce, PT)], sp_law [(PT, fun _ _ => nmLE)] K, fun p hp => (by rw [List.mem_singleton.mp hp]; exact tb), fun p hp => (by rw [List.mem_singleton.mp hp]; exact tn), fun p hp => (by rw [List.mem_singleton.mp hp]; exact PySem.W.codeHd_of_K X hcd),
    fun s v => .of_eq rfl, fun H a ns hl _ ht hS => ⟨a, ns, rfl, hS, hl, tabs_empty (ht _ (List.mem_singleton.mpr rfl)), fun _ => rfl⟩, fun base _ _ tbb => law_of a (tbb _ (List.mem_singleton.mpr rfl)) F1⟩
theorem walk {l : PySem.W.OpenLaw} {q : Program} {loose : List Str} {XP : (Str → Option Value) → Heap → Prop} {YP : World → Heap → Prop} {d : DefRec} {K : Params → PySem.W.Frag} (hn : l.most = some 63) (hdf : d.params.defaults = [])
    (hY : ∀ (w : World) (h : Heap), YP w h → (K w.params).In h)
    (F : ∀ (w : World) (mg : Str → Option Value) (fa : Addr) (h : Heap), YP w h → (K w.params).In h → h.Ns mainGlobals mg → mg d.name = some (.ref fa) → LamX.LawAtS l w (K w.params) CX0 30 63 "_law_script" mg fa h) :
    PySem.W.WalkO q loose XP YP l.row.toRowW d [] (fun f vs => PySem.call f vs) :=
  LamX.walk_ofTs (n := 63) (k := 30) (x := "_law_script") (CX := fun _ => CX0) hn (by decide) hdf ⟨rfl, by decide, by decide⟩ hY F fun _ _ _ _ _ z => z
end
end U
set_option Elab.async false
open PySem PySem.W PyProof.Rows
abbrev U.tabK (t : Addr) (K : Params → Frag) : Params → Frag := fun P => K P ++ [(t, tabObj #[])]
theorem U.tabK_as {t : Addr} {K : Params → Frag} {as : List Addr} (e : ∀ P, as = (K P).map (·.1)) : ∀ P, as ++ [t] = (U.tabK t K P).map (·.1) := fun P => by rw [e P, List.map_append]; rfl
theorem U.tabK_in {t : Addr} {K : Params → Frag} {w : World} {h : Heap} (Y : (U.tabK t K w.params).In h) : (K w.params).In h := fun a o e => Y a o (by rw [List.lookup_append, e]; rfl)
theorem U.tabK_tab {t : Addr} {K : Params → Frag} {w : World} {h : Heap} (Y : (U.tabK t K w.params).In h) (n : (K w.params).lookup t = none) : h.get? t = some (tabObj #[]) := Y t _ (by rw [List.lookup_append, n]; simp)
section
local macro_rules | `(tactic| intro $a:term $b:term) => `(tactic| (intro $a:term; intro $b:term; first | (refine U.headB ?_ _ _ ?_; rotate_left; kernel_rfl) | skip))
local macro_rules | `(tactic| o_headL (kHook $k $a $e)) => `(tactic| o_headL ((kHook (U.tabK 568 $k) ($a ++ [568]) (U.tabK_as $e))))
set_option maxRecDepth 100000 in
set_option maxHeartbeats 0 in
theorem PySem.Challenge.cw_untoldrule_k21_whole_rows_are_least_holds : PySem.Challenge.rw_untoldrule_k21_whole_rows_are_least.Holds := by
  w_on; o_law; k_headL; (case hw => w_witness2)
  k_fill
  refine U.walk (l := PySem.Challenge.rw_untoldrule_k21_whole_rows_are_least) rfl rfl (fun w h Y => U.tabK_in (PySem.W.kIn_of Y)) ?F
  case F =>
    intro w mg fa h Y KX G hmg
    refine' U.fin_of KX G hmg (R := ?adr_R) (Wr := ?adr_Wr) (B := ?adr_B) (Pg := ?adr_Pg) (Sy := ?adr_Sy) (IC := ?adr_IC) (IS := ?adr_IS) (UC := ?adr_UC) (UP := ?adr_UP) (Mc := ?adr_Mc) (IT := ?adr_IT) (Iv := ?adr_Iv) (OR := ?adr_OR) (ce := ?adr_ce) { xdIC := ?xdIC_1, xdIS := ?xdIS_24, xdUC := ?xdUC_47, xdUP := ?xdUP_70, xdIT := ?xdIT_93, xdIv := ?xdIv_116, xdOR := ?xdOR_139, gR := ?gR_162, mkR := ?mkR_164, kcR := ?kcR_165, gWr := ?gWr_166, mkWr := ?mkWr_168, kcWr := ?kcWr_169, gB := ?gB_170, mkB := ?mkB_172, kcB := ?kcB_173, gPg := ?gPg_174, mkPg := ?mkPg_176, kcPg := ?kcPg_177, gSy := ?gSy_178, mkSy := ?mkSy_180, kcSy := ?kcSy_181, gMc := ?gMc_182, mkMc := ?mkMc_184, kcMc := ?kcMc_185, xl := { toSyX := { toPT := { toNm := { n_int := ?n_int_186, n_bool := ?n_bool_188, n_str := ?n_str_190, n_list := ?n_list_192, n_tuple := ?n_tuple_194, n_set := ?n_set_196, n_len := ?n_len_198, n_abs := ?n_abs_200, n_all := ?n_all_202, n_iter := ?n_iter_204, n_range := ?n_range_206, n_zip := ?n_zip_208, n_isinstance := ?n_isinstance_210, c_LETTERS := ?c_LETTERS_212, c_MOST_LETTERS := ?c_MOST_LETTERS_214, c_MOST_CELLS := ?c_MOST_CELLS_216, c_MOST_SIZE := ?c_MOST_SIZE_218 }, n_enumerate := ?n_enumerate_220, c_MOST_STEPS := ?c_MOST_STEPS_222, c_MOST_ARGUMENTS := ?c_MOST_ARGUMENTS_224, c_Read := ?c_Read_226, c_Write := ?c_Write_228, c_ReadWrite := ?c_ReadWrite_230, cR := ⟨?cR_232, ?cR_233, ?cR_234, ?cR_235⟩, cW := ⟨?cW_236, ?cW_237, ?cW_238, ?cW_239⟩, cB := ⟨?cB_240, ?cB_241, ?cB_242, ?cB_243⟩, cP := ⟨?cP_244, ?cP_245, ?cP_246, ?cP_247⟩, aR_source := ?aR_source_248, aR_local := ?aR_local_250, aW_target := ?aW_target_252, aW_function := ?aW_function_254, aW_arguments := ?aW_arguments_256, aB_source := ?aB_source_258, aB_local := ?aB_local_260, aB_target := ?aB_target_262, aB_function := ?aB_function_264, aB_arguments := ?aB_arguments_266, aP_name := ?aP_name_268, aP_steps := ?aP_steps_270, iR := ⟨?iR_272, ?iR_273, ?iR_274, ?iR_275⟩, iW := ⟨?iW_276, ?iW_277, ?iW_278, ?iW_279⟩, iB := ⟨?iB_280, ?iB_281, ?iB_282, ?iB_283⟩, kRR := ?kRR_284, kWR := ?kWR_285, kBR := ?kBR_286, kRW := ?kRW_287, kRB := ?kRB_288, kWW := ?kWW_289, kWB := ?kWB_290, kBW := ?kBW_291, kBB := ?kBB_292 }, cls := ⟨?cls_293, ?cls_294, ?cls_295, ?cls_296⟩, s_cells := ?s_cells_297, s_programs := ?s_programs_299, s_arities := ?s_arities_301, s_names := ?s_names_303, c_MOST_PROGRAMS := ?c_MOST_PROGRAMS_305, naIS := ?naIS_307, naUC := ?naUC_308, naUP := ?naUP_309 }, cM := ⟨?cM_310, ?cM_311, ?cM_312, ?cM_313⟩, m_system := ?m_system_314, m_size := ?m_size_316, m_tables := ?m_tables_318, m_ends := ?m_ends_320 }, x3 := { i1 := ?i1_322, o1 := ?o1_323, o2 := ?o2_324 }, naIT := ?naIT_325, cf := ?cf_326, d_is_name := ?d_is_name_329, d_parse_header := ?d_parse_header_334, d_parse_steps := ?d_parse_steps_339, d_parse_step := ?d_parse_step_344, d_make_read := ?d_make_read_349, d_make_write := ?d_make_write_354, d_make_both := ?d_make_both_359, d_is_argument_part := ?d_is_argument_part_364, d_check_names := ?d_check_names_369, d_check_size := ?d_check_size_374, d_check_state := ?d_check_state_379, d_is_value := ?d_is_value_384, d_list_states := ?d_list_states_389, d_copy_table := ?d_copy_table_394, d_do_step := ?d_do_step_399, d_do_program := ?d_do_program_404, d_find_rows := ?d_find_rows_409, d_law_is_number := ?d_law_is_number_414, d_law_mixed := ?d_law_mixed_419, d_law_pool := ?d_law_pool_424, d_law_draw := ?d_law_draw_429, d_law_names := ?d_law_names_434, d_law_cells := ?d_law_cells_439, d_law_functions := ?d_law_functions_444, d_law_step := ?d_law_step_449, d_law_steps := ?d_law_steps_454, d_law_programs := ?d_law_programs_459, d_law_line := ?d_law_line_464, d_law_text := ?d_law_text_469, d_law_tables := ?d_law_tables_474, d_law_made := ?d_law_made_479, d_law_do := ?d_law_do_484, d_law_alone := ?d_law_alone_489, d_law_states := ?d_law_states_494, d_law_same := ?d_law_same_499, d_law_known := ?d_law_known_504, d_law_known_names := ?d_law_known_names_509, d_law_key := ?d_law_key_514, d_law_pairs := ?d_law_pairs_519, d_law_least := ?d_law_least_524, m_R_init := ?m_R_init_529, m_R_reads := ?m_R_reads_535, m_R_writes := ?m_R_writes_541, m_Wr_init := ?m_Wr_init_547, m_Wr_reads := ?m_Wr_reads_553, m_Wr_writes := ?m_Wr_writes_559, m_B_init := ?m_B_init_565, m_B_reads := ?m_B_reads_571, m_B_writes := ?m_B_writes_577, m_Pg_init := ?m_Pg_init_583, m_Sy_init := ?m_Sy_init_589, m_Sy_take_program := ?m_Sy_take_program_595, m_Sy_take_step := ?m_Sy_take_step_601, m_Sy_take_function := ?m_Sy_take_function_607, m_Sy_program_named := ?m_Sy_program_named_613, m_Sy_functions := ?m_Sy_functions_619, m_Sy_check_programs := ?m_Sy_check_programs_625, m_Sy_known := ?m_Sy_known_631, m_Mc_init := ?m_Mc_init_637, m_Mc_apply := ?m_Mc_apply_643, m_Mc_list_starts := ?m_Mc_list_starts_649, m_Mc_call := ?m_Mc_call_655, m_Mc_check_start := ?m_Mc_check_start_661, b_R := ?b_R_667, b_Wr := ?b_Wr_673, cm := ?cm_679, m_Mc_list_ends := ?m_Mc_list_ends_688, d_rows_from := ?d_rows_from_694 } ?tb ?tn ?hcd ?a1 ?l1 ?k1 ?k2
    (case tb => exact U.tabK_tab (PySem.W.kIn_of Y) (by kernel_rfl))
    (case tn => kernel_rfl)
    (case gR_162 => refine' U.ga_mk KX G ?zz_163; (case zz_163 => k_is))
    (case gWr_166 => refine' U.ga_mk KX G ?zz_167; (case zz_167 => k_is))
    (case gB_170 => refine' U.ga_mk KX G ?zz_171; (case zz_171 => k_is))
    (case gPg_174 => refine' U.ga_mk KX G ?zz_175; (case zz_175 => k_is))
    (case gSy_178 => refine' U.ga_mk KX G ?zz_179; (case zz_179 => k_is))
    (case gMc_182 => refine' U.ga_mk KX G ?zz_183; (case zz_183 => k_is))
    (case n_int_186 => refine' U.no_mk KX G ?zz_187; (case zz_187 => k_is))
    (case n_bool_188 => refine' U.no_mk KX G ?zz_189; (case zz_189 => k_is))
    (case n_str_190 => refine' U.no_mk KX G ?zz_191; (case zz_191 => k_is))
    (case n_list_192 => refine' U.no_mk KX G ?zz_193; (case zz_193 => k_is))
    (case n_tuple_194 => refine' U.no_mk KX G ?zz_195; (case zz_195 => k_is))
    (case n_set_196 => refine' U.no_mk KX G ?zz_197; (case zz_197 => k_is))
    (case n_len_198 => refine' U.no_mk KX G ?zz_199; (case zz_199 => k_is))
    (case n_abs_200 => refine' U.no_mk KX G ?zz_201; (case zz_201 => k_is))
    (case n_all_202 => refine' U.no_mk KX G ?zz_203; (case zz_203 => k_is))
    (case n_iter_204 => refine' U.no_mk KX G ?zz_205; (case zz_205 => k_is))
    (case n_range_206 => refine' U.no_mk KX G ?zz_207; (case zz_207 => k_is))
    (case n_zip_208 => refine' U.no_mk KX G ?zz_209; (case zz_209 => k_is))
    (case n_isinstance_210 => refine' U.no_mk KX G ?zz_211; (case zz_211 => k_is))
    (case c_LETTERS_212 => refine' U.gs_mk KX G ?zz_213; (case zz_213 => k_is))
    (case c_MOST_LETTERS_214 => refine' U.gi_mk KX G ?zz_215; (case zz_215 => k_is))
    (case c_MOST_CELLS_216 => refine' U.gi_mk KX G ?zz_217; (case zz_217 => k_is))
    (case c_MOST_SIZE_218 => refine' U.gi_mk KX G ?zz_219; (case zz_219 => k_is))
    (case n_enumerate_220 => refine' U.no_mk KX G ?zz_221; (case zz_221 => k_is))
    (case c_MOST_STEPS_222 => refine' U.gi_mk KX G ?zz_223; (case zz_223 => k_is))
    (case c_MOST_ARGUMENTS_224 => refine' U.gi_mk KX G ?zz_225; (case zz_225 => k_is))
    (case c_Read_226 => refine' U.gr_mk KX G ?zz_227; (case zz_227 => k_is))
    (case c_Write_228 => refine' U.gr_mk KX G ?zz_229; (case zz_229 => k_is))
    (case c_ReadWrite_230 => refine' U.gr_mk KX G ?zz_231; (case zz_231 => k_is))
    (case c_MOST_PROGRAMS_305 => refine' U.gi_mk KX G ?zz_306; (case zz_306 => k_is))
    (case xdIC_1 => refine' U.xd_mk KX G ?zx_ox_2 ?zx_gc_3 ?zx_fi_4 ?zx_lk_5 ?zx_hcd_6 ?zx_ty_7 ?zx_par_8 ?zx_lc_9 ?zx_v2_10 ?zx_fl_11 ?zx_top_12 ?zx_lcc_13 ?zx_nos_14 ?zx_sub_15 ?zx_op_16 ?zx_al_17; (case zx_gc_3 => k_is); (case zx_ox_2 => refine' U.ox_mk ?zo_18 ?zo_19 ?zo_20 ?zo_21 ?zo_22 ?zo_23; (case zo_18 => k_is); (case zo_19 => rfl); (case zo_20 => k_is); (case zo_21 => k_is); (case zo_22 => k_is); (case zo_23 => k_is)); (case zx_fi_4 => k_is); (case zx_lk_5 => k_is); (case zx_hcd_6 => k_is); (case zx_ty_7 => k_is); (case zx_par_8 => exact ⟨_, rfl, rfl⟩); (case zx_lc_9 => k_is); (case zx_v2_10 => rfl); (case zx_fl_11 => first | rfl | decide +kernel); (case zx_top_12 => first | rfl | decide +kernel); (case zx_lcc_13 => k_is); (case zx_nos_14 => k_is); (case zx_sub_15 => k_is); (case zx_op_16 => k_is); (case zx_al_17 => ks_is))
    (case xdIS_24 => refine' U.xd_mk KX G ?zx_ox_25 ?zx_gc_26 ?zx_fi_27 ?zx_lk_28 ?zx_hcd_29 ?zx_ty_30 ?zx_par_31 ?zx_lc_32 ?zx_v2_33 ?zx_fl_34 ?zx_top_35 ?zx_lcc_36 ?zx_nos_37 ?zx_sub_38 ?zx_op_39 ?zx_al_40; (case zx_gc_26 => k_is); (case zx_ox_25 => refine' U.ox_mk ?zo_41 ?zo_42 ?zo_43 ?zo_44 ?zo_45 ?zo_46; (case zo_41 => k_is); (case zo_42 => rfl); (case zo_43 => k_is); (case zo_44 => k_is); (case zo_45 => k_is); (case zo_46 => k_is)); (case zx_fi_27 => k_is); (case zx_lk_28 => k_is); (case zx_hcd_29 => k_is); (case zx_ty_30 => k_is); (case zx_par_31 => exact ⟨_, rfl, rfl⟩); (case zx_lc_32 => k_is); (case zx_v2_33 => rfl); (case zx_fl_34 => first | rfl | decide +kernel); (case zx_top_35 => first | rfl | decide +kernel); (case zx_lcc_36 => k_is); (case zx_nos_37 => k_is); (case zx_sub_38 => k_is); (case zx_op_39 => k_is); (case zx_al_40 => ks_is))
    (case xdUC_47 => refine' U.xd_mk KX G ?zx_ox_48 ?zx_gc_49 ?zx_fi_50 ?zx_lk_51 ?zx_hcd_52 ?zx_ty_53 ?zx_par_54 ?zx_lc_55 ?zx_v2_56 ?zx_fl_57 ?zx_top_58 ?zx_lcc_59 ?zx_nos_60 ?zx_sub_61 ?zx_op_62 ?zx_al_63; (case zx_gc_49 => k_is); (case zx_ox_48 => refine' U.ox_mk ?zo_64 ?zo_65 ?zo_66 ?zo_67 ?zo_68 ?zo_69; (case zo_64 => k_is); (case zo_65 => rfl); (case zo_66 => k_is); (case zo_67 => k_is); (case zo_68 => k_is); (case zo_69 => k_is)); (case zx_fi_50 => k_is); (case zx_lk_51 => k_is); (case zx_hcd_52 => k_is); (case zx_ty_53 => k_is); (case zx_par_54 => exact ⟨_, rfl, rfl⟩); (case zx_lc_55 => k_is); (case zx_v2_56 => rfl); (case zx_fl_57 => first | rfl | decide +kernel); (case zx_top_58 => first | rfl | decide +kernel); (case zx_lcc_59 => k_is); (case zx_nos_60 => k_is); (case zx_sub_61 => k_is); (case zx_op_62 => k_is); (case zx_al_63 => ks_is))
    (case xdUP_70 => refine' U.xd_mk KX G ?zx_ox_71 ?zx_gc_72 ?zx_fi_73 ?zx_lk_74 ?zx_hcd_75 ?zx_ty_76 ?zx_par_77 ?zx_lc_78 ?zx_v2_79 ?zx_fl_80 ?zx_top_81 ?zx_lcc_82 ?zx_nos_83 ?zx_sub_84 ?zx_op_85 ?zx_al_86; (case zx_gc_72 => k_is); (case zx_ox_71 => refine' U.ox_mk ?zo_87 ?zo_88 ?zo_89 ?zo_90 ?zo_91 ?zo_92; (case zo_87 => k_is); (case zo_88 => rfl); (case zo_89 => k_is); (case zo_90 => k_is); (case zo_91 => k_is); (case zo_92 => k_is)); (case zx_fi_73 => k_is); (case zx_lk_74 => k_is); (case zx_hcd_75 => k_is); (case zx_ty_76 => k_is); (case zx_par_77 => exact ⟨_, rfl, rfl⟩); (case zx_lc_78 => k_is); (case zx_v2_79 => rfl); (case zx_fl_80 => first | rfl | decide +kernel); (case zx_top_81 => first | rfl | decide +kernel); (case zx_lcc_82 => k_is); (case zx_nos_83 => k_is); (case zx_sub_84 => k_is); (case zx_op_85 => k_is); (case zx_al_86 => ks_is))
    (case xdIT_93 => refine' U.xd_mk KX G ?zx_ox_94 ?zx_gc_95 ?zx_fi_96 ?zx_lk_97 ?zx_hcd_98 ?zx_ty_99 ?zx_par_100 ?zx_lc_101 ?zx_v2_102 ?zx_fl_103 ?zx_top_104 ?zx_lcc_105 ?zx_nos_106 ?zx_sub_107 ?zx_op_108 ?zx_al_109; (case zx_gc_95 => k_is); (case zx_ox_94 => refine' U.ox_mk ?zo_110 ?zo_111 ?zo_112 ?zo_113 ?zo_114 ?zo_115; (case zo_110 => k_is); (case zo_111 => rfl); (case zo_112 => k_is); (case zo_113 => k_is); (case zo_114 => k_is); (case zo_115 => k_is)); (case zx_fi_96 => k_is); (case zx_lk_97 => k_is); (case zx_hcd_98 => k_is); (case zx_ty_99 => k_is); (case zx_par_100 => exact ⟨_, rfl, rfl⟩); (case zx_lc_101 => k_is); (case zx_v2_102 => rfl); (case zx_fl_103 => first | rfl | decide +kernel); (case zx_top_104 => first | rfl | decide +kernel); (case zx_lcc_105 => k_is); (case zx_nos_106 => k_is); (case zx_sub_107 => k_is); (case zx_op_108 => k_is); (case zx_al_109 => ks_is))
    (case xdIv_116 => refine' U.xd_mk KX G ?zx_ox_117 ?zx_gc_118 ?zx_fi_119 ?zx_lk_120 ?zx_hcd_121 ?zx_ty_122 ?zx_par_123 ?zx_lc_124 ?zx_v2_125 ?zx_fl_126 ?zx_top_127 ?zx_lcc_128 ?zx_nos_129 ?zx_sub_130 ?zx_op_131 ?zx_al_132; (case zx_gc_118 => k_is); (case zx_ox_117 => refine' U.ox_mk ?zo_133 ?zo_134 ?zo_135 ?zo_136 ?zo_137 ?zo_138; (case zo_133 => k_is); (case zo_134 => rfl); (case zo_135 => k_is); (case zo_136 => k_is); (case zo_137 => k_is); (case zo_138 => k_is)); (case zx_fi_119 => k_is); (case zx_lk_120 => k_is); (case zx_hcd_121 => k_is); (case zx_ty_122 => k_is); (case zx_par_123 => exact ⟨_, rfl, rfl⟩); (case zx_lc_124 => k_is); (case zx_v2_125 => rfl); (case zx_fl_126 => first | rfl | decide +kernel); (case zx_top_127 => first | rfl | decide +kernel); (case zx_lcc_128 => k_is); (case zx_nos_129 => k_is); (case zx_sub_130 => k_is); (case zx_op_131 => k_is); (case zx_al_132 => ks_is))
    (case xdOR_139 => refine' U.xd_mk KX G ?zx_ox_140 ?zx_gc_141 ?zx_fi_142 ?zx_lk_143 ?zx_hcd_144 ?zx_ty_145 ?zx_par_146 ?zx_lc_147 ?zx_v2_148 ?zx_fl_149 ?zx_top_150 ?zx_lcc_151 ?zx_nos_152 ?zx_sub_153 ?zx_op_154 ?zx_al_155; (case zx_gc_141 => k_is); (case zx_ox_140 => refine' U.ox_mk ?zo_156 ?zo_157 ?zo_158 ?zo_159 ?zo_160 ?zo_161; (case zo_156 => k_is); (case zo_157 => rfl); (case zo_158 => k_is); (case zo_159 => k_is); (case zo_160 => k_is); (case zo_161 => k_is)); (case zx_fi_142 => k_is); (case zx_lk_143 => k_is); (case zx_hcd_144 => k_is); (case zx_ty_145 => k_is); (case zx_par_146 => exact ⟨_, rfl, rfl⟩); (case zx_lc_147 => k_is); (case zx_v2_148 => rfl); (case zx_fl_149 => first | rfl | decide +kernel); (case zx_top_150 => first | rfl | decide +kernel); (case zx_lcc_151 => k_is); (case zx_nos_152 => k_is); (case zx_sub_153 => k_is); (case zx_op_154 => k_is); (case zx_al_155 => ks_is))
    (case mkR_164 => k_is)
    (case kcR_165 => k_is)
    (case mkWr_168 => k_is)
    (case kcWr_169 => k_is)
    (case mkB_172 => k_is)
    (case kcB_173 => k_is)
    (case mkPg_176 => k_is)
    (case kcPg_177 => k_is)
    (case mkSy_180 => k_is)
    (case kcSy_181 => k_is)
    (case mkMc_184 => k_is)
    (case kcMc_185 => k_is)
    (case cR_232 => k_is)
    (case cR_233 => k_is)
    (case cR_234 => k_is)
    (case cR_235 => k_is)
    (case cW_236 => k_is)
    (case cW_237 => k_is)
    (case cW_238 => k_is)
    (case cW_239 => k_is)
    (case cB_240 => k_is)
    (case cB_241 => k_is)
    (case cB_242 => k_is)
    (case cB_243 => k_is)
    (case cP_244 => k_is)
    (case cP_245 => k_is)
    (case cP_246 => k_is)
    (case cP_247 => k_is)
    (case aR_source_248 => refine' U.na_mk  ?zz_249; (case zz_249 => k_is))
    (case aR_local_250 => refine' U.na_mk  ?zz_251; (case zz_251 => k_is))
    (case aW_target_252 => refine' U.na_mk  ?zz_253; (case zz_253 => k_is))
    (case aW_function_254 => refine' U.na_mk  ?zz_255; (case zz_255 => k_is))
    (case aW_arguments_256 => refine' U.na_mk  ?zz_257; (case zz_257 => k_is))
    (case aB_source_258 => refine' U.na_mk  ?zz_259; (case zz_259 => k_is))
    (case aB_local_260 => refine' U.na_mk  ?zz_261; (case zz_261 => k_is))
    (case aB_target_262 => refine' U.na_mk  ?zz_263; (case zz_263 => k_is))
    (case aB_function_264 => refine' U.na_mk  ?zz_265; (case zz_265 => k_is))
    (case aB_arguments_266 => refine' U.na_mk  ?zz_267; (case zz_267 => k_is))
    (case aP_name_268 => refine' U.na_mk  ?zz_269; (case zz_269 => k_is))
    (case aP_steps_270 => refine' U.na_mk  ?zz_271; (case zz_271 => k_is))
    (case iR_272 => k_is)
    (case iR_273 => k_is)
    (case iR_274 => k_is)
    (case iR_275 => k_is)
    (case iW_276 => k_is)
    (case iW_277 => k_is)
    (case iW_278 => k_is)
    (case iW_279 => k_is)
    (case iB_280 => k_is)
    (case iB_281 => k_is)
    (case iB_282 => k_is)
    (case iB_283 => k_is)
    (case kRR_284 => kernel_rfl)
    (case kWR_285 => kernel_rfl)
    (case kBR_286 => kernel_rfl)
    (case kRW_287 => kernel_rfl)
    (case kRB_288 => kernel_rfl)
    (case kWW_289 => kernel_rfl)
    (case kWB_290 => kernel_rfl)
    (case kBW_291 => kernel_rfl)
    (case kBB_292 => kernel_rfl)
    (case cls_293 => k_is)
    (case cls_294 => k_is)
    (case cls_295 => k_is)
    (case cls_296 => k_is)
    (case s_cells_297 => refine' U.na_mk  ?zz_298; (case zz_298 => k_is))
    (case s_programs_299 => refine' U.na_mk  ?zz_300; (case zz_300 => k_is))
    (case s_arities_301 => refine' U.na_mk  ?zz_302; (case zz_302 => k_is))
    (case s_names_303 => refine' U.na_mk  ?zz_304; (case zz_304 => k_is))
    (case naIS_307 => k_is)
    (case naUC_308 => k_is)
    (case naUP_309 => k_is)
    (case cM_310 => k_is)
    (case cM_311 => k_is)
    (case cM_312 => k_is)
    (case cM_313 => k_is)
    (case m_system_314 => refine' U.na_mk  ?zz_315; (case zz_315 => k_is))
    (case m_size_316 => refine' U.na_mk  ?zz_317; (case zz_317 => k_is))
    (case m_tables_318 => refine' U.na_mk  ?zz_319; (case zz_319 => k_is))
    (case m_ends_320 => refine' U.na_mk  ?zz_321; (case zz_321 => k_is))
    (case i1_322 => k_is)
    (case o1_323 => k_is)
    (case o2_324 => k_is)
    (case naIT_325 => k_is)
    (case cf_326 => refine' U.callf_mk  ?zz_327 ?zz_328; (case zz_327 => k_is); (case zz_328 => k_is))
    (case d_is_name_329 => refine' U.td_mk KX G ?zz_330 ?zz_331 ?zz_332 ?zz_333; (case zz_330 => k_is); (case zz_331 => k_is); (case zz_332 => k_is); (case zz_333 => k_is))
    (case d_parse_header_334 => refine' U.td_mk KX G ?zz_335 ?zz_336 ?zz_337 ?zz_338; (case zz_335 => k_is); (case zz_336 => k_is); (case zz_337 => k_is); (case zz_338 => k_is))
    (case d_parse_steps_339 => refine' U.td_mk KX G ?zz_340 ?zz_341 ?zz_342 ?zz_343; (case zz_340 => k_is); (case zz_341 => k_is); (case zz_342 => k_is); (case zz_343 => k_is))
    (case d_parse_step_344 => refine' U.td_mk KX G ?zz_345 ?zz_346 ?zz_347 ?zz_348; (case zz_345 => k_is); (case zz_346 => k_is); (case zz_347 => k_is); (case zz_348 => k_is))
    (case d_make_read_349 => refine' U.td_mk KX G ?zz_350 ?zz_351 ?zz_352 ?zz_353; (case zz_350 => k_is); (case zz_351 => k_is); (case zz_352 => k_is); (case zz_353 => k_is))
    (case d_make_write_354 => refine' U.td_mk KX G ?zz_355 ?zz_356 ?zz_357 ?zz_358; (case zz_355 => k_is); (case zz_356 => k_is); (case zz_357 => k_is); (case zz_358 => k_is))
    (case d_make_both_359 => refine' U.td_mk KX G ?zz_360 ?zz_361 ?zz_362 ?zz_363; (case zz_360 => k_is); (case zz_361 => k_is); (case zz_362 => k_is); (case zz_363 => k_is))
    (case d_is_argument_part_364 => refine' U.td_mk KX G ?zz_365 ?zz_366 ?zz_367 ?zz_368; (case zz_365 => k_is); (case zz_366 => k_is); (case zz_367 => k_is); (case zz_368 => k_is))
    (case d_check_names_369 => refine' U.td_mk KX G ?zz_370 ?zz_371 ?zz_372 ?zz_373; (case zz_370 => k_is); (case zz_371 => k_is); (case zz_372 => k_is); (case zz_373 => k_is))
    (case d_check_size_374 => refine' U.td_mk KX G ?zz_375 ?zz_376 ?zz_377 ?zz_378; (case zz_375 => k_is); (case zz_376 => k_is); (case zz_377 => k_is); (case zz_378 => k_is))
    (case d_check_state_379 => refine' U.td_mk KX G ?zz_380 ?zz_381 ?zz_382 ?zz_383; (case zz_380 => k_is); (case zz_381 => k_is); (case zz_382 => k_is); (case zz_383 => k_is))
    (case d_is_value_384 => refine' U.td_mk KX G ?zz_385 ?zz_386 ?zz_387 ?zz_388; (case zz_385 => k_is); (case zz_386 => k_is); (case zz_387 => k_is); (case zz_388 => k_is))
    (case d_list_states_389 => refine' U.td_mk KX G ?zz_390 ?zz_391 ?zz_392 ?zz_393; (case zz_390 => k_is); (case zz_391 => k_is); (case zz_392 => k_is); (case zz_393 => k_is))
    (case d_copy_table_394 => refine' U.td_mk KX G ?zz_395 ?zz_396 ?zz_397 ?zz_398; (case zz_395 => k_is); (case zz_396 => k_is); (case zz_397 => k_is); (case zz_398 => k_is))
    (case d_do_step_399 => refine' U.td_mk KX G ?zz_400 ?zz_401 ?zz_402 ?zz_403; (case zz_400 => k_is); (case zz_401 => k_is); (case zz_402 => k_is); (case zz_403 => k_is))
    (case d_do_program_404 => refine' U.td_mk KX G ?zz_405 ?zz_406 ?zz_407 ?zz_408; (case zz_405 => k_is); (case zz_406 => k_is); (case zz_407 => k_is); (case zz_408 => k_is))
    (case d_find_rows_409 => refine' U.td_mk KX G ?zz_410 ?zz_411 ?zz_412 ?zz_413; (case zz_410 => k_is); (case zz_411 => k_is); (case zz_412 => k_is); (case zz_413 => k_is))
    (case d_law_is_number_414 => refine' U.td_mk KX G ?zz_415 ?zz_416 ?zz_417 ?zz_418; (case zz_415 => k_is); (case zz_416 => k_is); (case zz_417 => k_is); (case zz_418 => k_is))
    (case d_law_mixed_419 => refine' U.td_mk KX G ?zz_420 ?zz_421 ?zz_422 ?zz_423; (case zz_420 => k_is); (case zz_421 => k_is); (case zz_422 => k_is); (case zz_423 => k_is))
    (case d_law_pool_424 => refine' U.td_mk KX G ?zz_425 ?zz_426 ?zz_427 ?zz_428; (case zz_425 => k_is); (case zz_426 => k_is); (case zz_427 => k_is); (case zz_428 => k_is))
    (case d_law_draw_429 => refine' U.td_mk KX G ?zz_430 ?zz_431 ?zz_432 ?zz_433; (case zz_430 => k_is); (case zz_431 => k_is); (case zz_432 => k_is); (case zz_433 => k_is))
    (case d_law_names_434 => refine' U.td_mk KX G ?zz_435 ?zz_436 ?zz_437 ?zz_438; (case zz_435 => k_is); (case zz_436 => k_is); (case zz_437 => k_is); (case zz_438 => k_is))
    (case d_law_cells_439 => refine' U.td_mk KX G ?zz_440 ?zz_441 ?zz_442 ?zz_443; (case zz_440 => k_is); (case zz_441 => k_is); (case zz_442 => k_is); (case zz_443 => k_is))
    (case d_law_functions_444 => refine' U.td_mk KX G ?zz_445 ?zz_446 ?zz_447 ?zz_448; (case zz_445 => k_is); (case zz_446 => k_is); (case zz_447 => k_is); (case zz_448 => k_is))
    (case d_law_step_449 => refine' U.td_mk KX G ?zz_450 ?zz_451 ?zz_452 ?zz_453; (case zz_450 => k_is); (case zz_451 => k_is); (case zz_452 => k_is); (case zz_453 => k_is))
    (case d_law_steps_454 => refine' U.td_mk KX G ?zz_455 ?zz_456 ?zz_457 ?zz_458; (case zz_455 => k_is); (case zz_456 => k_is); (case zz_457 => k_is); (case zz_458 => k_is))
    (case d_law_programs_459 => refine' U.td_mk KX G ?zz_460 ?zz_461 ?zz_462 ?zz_463; (case zz_460 => k_is); (case zz_461 => k_is); (case zz_462 => k_is); (case zz_463 => k_is))
    (case d_law_line_464 => refine' U.td_mk KX G ?zz_465 ?zz_466 ?zz_467 ?zz_468; (case zz_465 => k_is); (case zz_466 => k_is); (case zz_467 => k_is); (case zz_468 => k_is))
    (case d_law_text_469 => refine' U.td_mk KX G ?zz_470 ?zz_471 ?zz_472 ?zz_473; (case zz_470 => k_is); (case zz_471 => k_is); (case zz_472 => k_is); (case zz_473 => k_is))
    (case d_law_tables_474 => refine' U.td_mk KX G ?zz_475 ?zz_476 ?zz_477 ?zz_478; (case zz_475 => k_is); (case zz_476 => k_is); (case zz_477 => k_is); (case zz_478 => k_is))
    (case d_law_made_479 => refine' U.td_mk KX G ?zz_480 ?zz_481 ?zz_482 ?zz_483; (case zz_480 => k_is); (case zz_481 => k_is); (case zz_482 => k_is); (case zz_483 => k_is))
    (case d_law_do_484 => refine' U.td_mk KX G ?zz_485 ?zz_486 ?zz_487 ?zz_488; (case zz_485 => k_is); (case zz_486 => k_is); (case zz_487 => k_is); (case zz_488 => k_is))
    (case d_law_alone_489 => refine' U.td_mk KX G ?zz_490 ?zz_491 ?zz_492 ?zz_493; (case zz_490 => k_is); (case zz_491 => k_is); (case zz_492 => k_is); (case zz_493 => k_is))
    (case d_law_states_494 => refine' U.td_mk KX G ?zz_495 ?zz_496 ?zz_497 ?zz_498; (case zz_495 => k_is); (case zz_496 => k_is); (case zz_497 => k_is); (case zz_498 => k_is))
    (case d_law_same_499 => refine' U.td_mk KX G ?zz_500 ?zz_501 ?zz_502 ?zz_503; (case zz_500 => k_is); (case zz_501 => k_is); (case zz_502 => k_is); (case zz_503 => k_is))
    (case d_law_known_504 => refine' U.td_mk KX G ?zz_505 ?zz_506 ?zz_507 ?zz_508; (case zz_505 => k_is); (case zz_506 => k_is); (case zz_507 => k_is); (case zz_508 => k_is))
    (case d_law_known_names_509 => refine' U.td_mk KX G ?zz_510 ?zz_511 ?zz_512 ?zz_513; (case zz_510 => k_is); (case zz_511 => k_is); (case zz_512 => k_is); (case zz_513 => k_is))
    (case d_law_key_514 => refine' U.td_mk KX G ?zz_515 ?zz_516 ?zz_517 ?zz_518; (case zz_515 => k_is); (case zz_516 => k_is); (case zz_517 => k_is); (case zz_518 => k_is))
    (case d_law_pairs_519 => refine' U.td_mk KX G ?zz_520 ?zz_521 ?zz_522 ?zz_523; (case zz_520 => k_is); (case zz_521 => k_is); (case zz_522 => k_is); (case zz_523 => k_is))
    (case d_law_least_524 => refine' U.td_mk KX G ?zz_525 ?zz_526 ?zz_527 ?zz_528; (case zz_525 => k_is); (case zz_526 => k_is); (case zz_527 => k_is); (case zz_528 => k_is))
    (case m_R_init_529 => refine' U.md_mk  ?zz_530 ?zz_531 ?zz_532 ?zz_533 ?zz_534; (case zz_530 => k_is); (case zz_531 => k_is); (case zz_532 => k_is); (case zz_533 => k_is); (case zz_534 => k_is))
    (case m_R_reads_535 => refine' U.md_mk  ?zz_536 ?zz_537 ?zz_538 ?zz_539 ?zz_540; (case zz_536 => k_is); (case zz_537 => k_is); (case zz_538 => k_is); (case zz_539 => k_is); (case zz_540 => k_is))
    (case m_R_writes_541 => refine' U.md_mk  ?zz_542 ?zz_543 ?zz_544 ?zz_545 ?zz_546; (case zz_542 => k_is); (case zz_543 => k_is); (case zz_544 => k_is); (case zz_545 => k_is); (case zz_546 => k_is))
    (case m_Wr_init_547 => refine' U.md_mk  ?zz_548 ?zz_549 ?zz_550 ?zz_551 ?zz_552; (case zz_548 => k_is); (case zz_549 => k_is); (case zz_550 => k_is); (case zz_551 => k_is); (case zz_552 => k_is))
    (case m_Wr_reads_553 => refine' U.md_mk  ?zz_554 ?zz_555 ?zz_556 ?zz_557 ?zz_558; (case zz_554 => k_is); (case zz_555 => k_is); (case zz_556 => k_is); (case zz_557 => k_is); (case zz_558 => k_is))
    (case m_Wr_writes_559 => refine' U.md_mk  ?zz_560 ?zz_561 ?zz_562 ?zz_563 ?zz_564; (case zz_560 => k_is); (case zz_561 => k_is); (case zz_562 => k_is); (case zz_563 => k_is); (case zz_564 => k_is))
    (case m_B_init_565 => refine' U.md_mk  ?zz_566 ?zz_567 ?zz_568 ?zz_569 ?zz_570; (case zz_566 => k_is); (case zz_567 => k_is); (case zz_568 => k_is); (case zz_569 => k_is); (case zz_570 => k_is))
    (case m_B_reads_571 => refine' U.md_mk  ?zz_572 ?zz_573 ?zz_574 ?zz_575 ?zz_576; (case zz_572 => k_is); (case zz_573 => k_is); (case zz_574 => k_is); (case zz_575 => k_is); (case zz_576 => k_is))
    (case m_B_writes_577 => refine' U.md_mk  ?zz_578 ?zz_579 ?zz_580 ?zz_581 ?zz_582; (case zz_578 => k_is); (case zz_579 => k_is); (case zz_580 => k_is); (case zz_581 => k_is); (case zz_582 => k_is))
    (case m_Pg_init_583 => refine' U.md_mk  ?zz_584 ?zz_585 ?zz_586 ?zz_587 ?zz_588; (case zz_584 => k_is); (case zz_585 => k_is); (case zz_586 => k_is); (case zz_587 => k_is); (case zz_588 => k_is))
    (case m_Sy_init_589 => refine' U.md_mk  ?zz_590 ?zz_591 ?zz_592 ?zz_593 ?zz_594; (case zz_590 => k_is); (case zz_591 => k_is); (case zz_592 => k_is); (case zz_593 => k_is); (case zz_594 => k_is))
    (case m_Sy_take_program_595 => refine' U.md_mk  ?zz_596 ?zz_597 ?zz_598 ?zz_599 ?zz_600; (case zz_596 => k_is); (case zz_597 => k_is); (case zz_598 => k_is); (case zz_599 => k_is); (case zz_600 => k_is))
    (case m_Sy_take_step_601 => refine' U.md_mk  ?zz_602 ?zz_603 ?zz_604 ?zz_605 ?zz_606; (case zz_602 => k_is); (case zz_603 => k_is); (case zz_604 => k_is); (case zz_605 => k_is); (case zz_606 => k_is))
    (case m_Sy_take_function_607 => refine' U.md_mk  ?zz_608 ?zz_609 ?zz_610 ?zz_611 ?zz_612; (case zz_608 => k_is); (case zz_609 => k_is); (case zz_610 => k_is); (case zz_611 => k_is); (case zz_612 => k_is))
    (case m_Sy_program_named_613 => refine' U.md_mk  ?zz_614 ?zz_615 ?zz_616 ?zz_617 ?zz_618; (case zz_614 => k_is); (case zz_615 => k_is); (case zz_616 => k_is); (case zz_617 => k_is); (case zz_618 => k_is))
    (case m_Sy_functions_619 => refine' U.md_mk  ?zz_620 ?zz_621 ?zz_622 ?zz_623 ?zz_624; (case zz_620 => k_is); (case zz_621 => k_is); (case zz_622 => k_is); (case zz_623 => k_is); (case zz_624 => k_is))
    (case m_Sy_check_programs_625 => refine' U.md_mk  ?zz_626 ?zz_627 ?zz_628 ?zz_629 ?zz_630; (case zz_626 => k_is); (case zz_627 => k_is); (case zz_628 => k_is); (case zz_629 => k_is); (case zz_630 => k_is))
    (case m_Sy_known_631 => refine' U.md_mk  ?zz_632 ?zz_633 ?zz_634 ?zz_635 ?zz_636; (case zz_632 => k_is); (case zz_633 => k_is); (case zz_634 => k_is); (case zz_635 => k_is); (case zz_636 => k_is))
    (case m_Mc_init_637 => refine' U.md_mk  ?zz_638 ?zz_639 ?zz_640 ?zz_641 ?zz_642; (case zz_638 => k_is); (case zz_639 => k_is); (case zz_640 => k_is); (case zz_641 => k_is); (case zz_642 => k_is))
    (case m_Mc_apply_643 => refine' U.md_mk  ?zz_644 ?zz_645 ?zz_646 ?zz_647 ?zz_648; (case zz_644 => k_is); (case zz_645 => k_is); (case zz_646 => k_is); (case zz_647 => k_is); (case zz_648 => k_is))
    (case m_Mc_list_starts_649 => refine' U.md_mk  ?zz_650 ?zz_651 ?zz_652 ?zz_653 ?zz_654; (case zz_650 => k_is); (case zz_651 => k_is); (case zz_652 => k_is); (case zz_653 => k_is); (case zz_654 => k_is))
    (case m_Mc_call_655 => refine' U.md_mk  ?zz_656 ?zz_657 ?zz_658 ?zz_659 ?zz_660; (case zz_656 => k_is); (case zz_657 => k_is); (case zz_658 => k_is); (case zz_659 => k_is); (case zz_660 => k_is))
    (case m_Mc_check_start_661 => refine' U.md_mk  ?zz_662 ?zz_663 ?zz_664 ?zz_665 ?zz_666; (case zz_662 => k_is); (case zz_663 => k_is); (case zz_664 => k_is); (case zz_665 => k_is); (case zz_666 => k_is))
    (case b_R_667 => refine' U.cfn_mk  ?zz_668 ?zz_669 ?zz_670 ?zz_671 ?zz_672; (case zz_668 => k_is); (case zz_669 => k_is); (case zz_670 => k_is); (case zz_671 => k_is); (case zz_672 => k_is))
    (case b_Wr_673 => refine' U.cfn_mk  ?zz_674 ?zz_675 ?zz_676 ?zz_677 ?zz_678; (case zz_674 => k_is); (case zz_675 => k_is); (case zz_676 => k_is); (case zz_677 => k_is); (case zz_678 => k_is))
    (case cm_679 => refine' U.cm_mk  ?zz_680 ?zz_681 ?zz_682 ?zz_683 ?zz_684 ?zz_685 ?zz_686 ?zz_687; (case zz_680 => k_is); (case zz_681 => k_is); (case zz_682 => k_is); (case zz_683 => k_is); (case zz_684 => k_is); (case zz_685 => k_is); (case zz_686 => k_is); (case zz_687 => k_is))
    (case m_Mc_list_ends_688 => refine' U.mdc_mk  ?zz_689 ?zz_690 ?zz_691 ?zz_692 ?zz_693; (case zz_689 => k_is); (case zz_690 => k_is); (case zz_691 => k_is); (case zz_692 => k_is); (case zz_693 => k_is))
    (case d_rows_from_694 => refine' U.tdd_mk KX G ?zz_695 ?zz_696 ?zz_697 ?zz_698 ?zz_699 ?zz_700 ?zz_701 ?zz_702; (case zz_695 => simp); (case zz_696 => k_is); (case zz_697 => k_is); (case zz_698 => k_is); (case zz_699 => k_is); (case zz_700 => k_is); (case zz_701 => rfl); (case zz_702 => exact .cons rfl .nil))
    (case hcd => kernel_rfl)
    (case a1 => k_is); (case l1 => k_is); (case k1 => k_is); (case k2 => k_is)
end

import PyProof.Rows.All
import KE.OsRunLaw
import PySem.Challenge.RW_untoldrule_k17_places_that_are_opened
import Wide.All
import OpenK.AllK
import Wide.FinOn
import HandS.ForMost
import HandS.ForExc
import HandS.Wide
import HandS.IsInst
import HandS.Property
import HandS.GenList
import HandS.GenYield
import HandS.Star
import HandS.StrMore
import HandS.Conv
import HandS.Flow
import HandS.TupAny
import HandS.TupMul
import HandS.Deep
import HandS.Evl
import HandS.RaiseMore
import HandS.Zip
import HandS.Walk
import HandS.TryMany
import HandS.ExcInit
import HandS.ExcSuper
import HandS.Strs
import HandS.OwnIter
import HandS.IterNext
import KE.GoesMore
import KE.GoesZip
import HandS.Codes
import HandS.WordsExc
import KE.KSuper
import HandS.Nested
import HandS.ExcIs
import HandS.ExcOwn
import HandS.RaiseFrom
import HandS.HotCalls
import HandS.FStr
import PyProof.FString2
import KE.KWithOwn
import HandS.Finally
import KE.KUnpackStar
import HandS.ClsMeth
import HandS.CallLocal
import KE.GoesEnumKw
import HandS.ExcField
import HandS.DictComp
import HandS.ListItems
import HandS.SlotsOwn
import HandS.BoundDict
import HandS.TupLe
import HandS.IterVal
import KE.KCallOwn
import KE.KDictKeyed
import KE.GoesEnum
import PyProof.Rows.SumAny
import HandS.SetFor
import KE.KDictWalk
import HandS.Records
import HandS.Defaults
import HandS.EndTab
import HandS.Base
set_option Elab.async false
set_option maxRecDepth 100000
set_option maxHeartbeats 4000000
/-! the head's run, looked at in parts: each part is a run of its own in the kernel -/
section
open PySem PySem.W PyProof.Rows
theorem U.tri3 {α β γ δ : Type} {o : Option α} {f : α → β} {g : α → γ} {h : α → δ} {a : β} {b : γ} {c : δ} (h1 : o.map f = some a) (h2 : o.map g = some b) (h3 : o.map h = some c) (_ : (0 : Nat) = 0) : o.map (fun s => (f s, g s, h s)) = some (a, b, c) := by
  cases o with
  | none => cases h1
  | some x => cases h1; cases h2; cases h3; rfl
abbrev U.R0 : OpenRow := OpenLaw.row PySem.Challenge.rw_untoldrule_k17_places_that_are_opened
abbrev U.qv : Program := view U.R0.prog [0, 2, 3, 4, 5, 6, 7, 8, 9, 10, 12, 13, 14, 15, 16, 18, 19, 20, 22, 23, 24, 25, 26, 27, 28, 29, 30, 31, 32, 33, 34, 35, 36, 38, 39, 41, 42, 44, 46, 47, 48, 49, 50, 51, 52, 53, 54, 55, 56, 57, 58, 59, 60, 61, 62, 63, 64, 65, 66, 67, 68, 69, 70]
abbrev U.lo : List PySem.Str := ["Plan", "Weave", "ReadWrite", "Program"]
abbrev U.Xt (q : Program) (s : Shared) : Bool := xlAt q [] s && recOk (OpenRow.toRowW U.R0).records s
noncomputable abbrev U.run (w : World) (os : OsState) : Option SharedT := HeadRun.endF (HeadRun.stepQ (HeadRun.denQ HeadRun.tabQ) (OpenRow.toRowW U.R0).prog w) 14774 (OpenRow.toRowW U.R0).prog w os
theorem U.lookA (w : World) (os : OsState) : (U.run w os).map (fun s => HeadRun.looksF (OpenRow.toRowW U.R0).prog (boot_heap w.params) s.abs) = some true := by kernel_rfl
theorem U.lookB1 (w : World) (os : OsState) : (U.run w os).map (fun s => (HeadRun.seenQ U.qv U.lo (importedModules (OpenRow.toRowW U.R0).prog.main.body) (U.Xt U.qv) s.abs).1) = some (expectedOf U.qv) := by kernel_rfl
theorem U.lookB2 (w : World) (os : OsState) : (U.run w os).map (fun s => (HeadRun.seenQ U.qv U.lo (importedModules (OpenRow.toRowW U.R0).prog.main.body) (U.Xt U.qv) s.abs).2.1) = some (bltViewBooted) := by kernel_rfl
theorem U.lookB3 (w : World) (os : OsState) : (U.run w os).map (fun s => (HeadRun.seenQ U.qv U.lo (importedModules (OpenRow.toRowW U.R0).prog.main.body) (U.Xt U.qv) s.abs).2.2.1) = some (true) := by kernel_rfl
theorem U.lookB4 (w : World) (os : OsState) : (U.run w os).map (fun s => (HeadRun.seenQ U.qv U.lo (importedModules (OpenRow.toRowW U.R0).prog.main.body) (U.Xt U.qv) s.abs).2.2.2.1) = some (true) := by kernel_rfl
theorem U.lookB5 (w : World) (os : OsState) : (U.run w os).map (fun s => (HeadRun.seenQ U.qv U.lo (importedModules (OpenRow.toRowW U.R0).prog.main.body) (U.Xt U.qv) s.abs).2.2.2.2.1) = some (pinGoodD (drecsOf U.qv)) := by kernel_rfl
theorem U.lw1 : PySem.W.Fast.tw821141287760084731 U.qv U.lo = U.lo := by kernel_rfl
theorem U.lw2 : looseW U.qv U.lo = U.lo := by kernel_rfl
theorem U.b6 (q : Program) (lo mods : List Str) (Xt : Shared → Bool) (s : Shared) : (HeadRun.seenQ q lo mods Xt s).2.2.2.2.2.1 = PySem.W.Fast.tw2386780881361962483 q (PySem.W.Fast.tw821141287760084731 q lo) s := rfl
theorem U.lookB6' (w : World) (os : OsState) : (U.run w os).map (fun s => PySem.W.Fast.tw2386780881361962483 U.qv U.lo s.abs) = some (plainGoodE U.qv U.lo) := by kernel_rfl
theorem U.b6e {o : Option SharedT} {q : Program} {lo mods v v2 : List Str} {Xt : Shared → Bool} (hv : PySem.W.Fast.tw821141287760084731 q lo = v) (hv2 : v2 = v) {g : List Str → List (Option PlainShape)} (h : o.map (fun s => PySem.W.Fast.tw2386780881361962483 q v s.abs) = some (g v)) : o.map (fun s => (HeadRun.seenQ q lo mods Xt s.abs).2.2.2.2.2.1) = some (g v2) := by
  subst hv; rw [hv2, ← h]; exact congrArg (fun f => Option.map f o) (funext fun s => U.b6 q lo mods Xt s.abs)
theorem U.lookB6 (w : World) (os : OsState) : (U.run w os).map (fun s => (HeadRun.seenQ U.qv U.lo (importedModules (OpenRow.toRowW U.R0).prog.main.body) (U.Xt U.qv) s.abs).2.2.2.2.2.1) = some (plainGoodE U.qv (looseW U.qv U.lo)) := U.b6e (g := plainGoodE U.qv) U.lw1 U.lw2 (U.lookB6' w os)
theorem U.lookB7 (w : World) (os : OsState) : (U.run w os).map (fun s => (HeadRun.seenQ U.qv U.lo (importedModules (OpenRow.toRowW U.R0).prog.main.body) (U.Xt U.qv) s.abs).2.2.2.2.2.2) = some ((plainGoodD U.qv U.lo, wideGood U.qv, clsGoodW U.qv U.lo)) := by kernel_rfl
theorem U.pairO {σ β γ : Type} {o : Option σ} {f : σ → β × γ} {a : β} {b : γ} (h1 : o.map (fun s => (f s).1) = some a) (h2 : o.map (fun s => (f s).2) = some b) : o.map f = some (a, b) := by
  cases o with
  | none => cases h1
  | some x => exact congrArg some (Prod.ext (Option.some.inj h1) (Option.some.inj h2))
theorem U.lookB (w : World) (os : OsState) : (U.run w os).map (fun s => HeadRun.seenQ U.qv U.lo (importedModules (OpenRow.toRowW U.R0).prog.main.body) (U.Xt U.qv) s.abs) = some (openGood U.qv U.lo) :=
  U.pairO (U.lookB1 w os) (U.pairO (U.lookB2 w os) (U.pairO (U.lookB3 w os) (U.pairO (U.lookB4 w os) (U.pairO (U.lookB5 w os) (U.pairO (U.lookB6 w os) (U.lookB7 w os))))))
theorem U.headB {q : Program} (hq : U.qv = q) (w : World) (os : OsState) {d : Type} {h : SharedT → d} {c : d} (hC : (U.run w os).map h = some c) :
    (U.run w os).map (fun s => (HeadRun.looksF (OpenRow.toRowW U.R0).prog (boot_heap w.params) s.abs, HeadRun.seenQ q U.lo (importedModules (OpenRow.toRowW U.R0).prog.main.body) (U.Xt q) s.abs, h s)) = some (true, openGood q U.lo, c) := by
  subst hq
  exact U.tri3 (U.lookA w os) (U.lookB w os) hC rfl
local macro_rules | `(tactic| o_headL (kHook $k $a $e)) => `(tactic| assumption)
theorem U.early0 (hh : OpenRow.Holds (OpenLaw.row PySem.Challenge.rw_untoldrule_k17_places_that_are_opened)) : OpenRow.Holds (OpenLaw.row PySem.Challenge.rw_untoldrule_k17_places_that_are_opened) := by
  k_headL
abbrev U.as0 : List Addr := [2, 3, 15, 17, 18, 20, 21, 22, 29, 30, 31, 32, 35, 38, 43, 44, 46, 47, 49, 50, 51, 52, 53, 56, 59, 64, 65, 67, 68, 70, 71, 72, 73, 74, 77, 80, 85, 86, 88, 89, 91, 92, 93, 94, 95, 98, 101, 106, 107, 109, 110, 112, 113, 114, 115, 116, 119, 122, 127, 128, 130, 131, 133, 134, 135, 136, 137, 140, 143, 148, 149, 151, 152, 154, 155, 156, 157, 158, 161, 164, 169, 170, 172, 173, 175, 176, 177, 178, 179, 182, 185, 190, 191, 193, 194, 196, 197, 198, 199, 200, 210, 213, 214, 215, 217, 218, 220, 221, 222, 223, 224, 225, 227, 228, 230, 231, 232, 233, 234, 235, 237, 238, 240, 241, 242, 244, 245, 247, 248, 249, 250, 251, 252, 253, 263, 265, 266, 268, 269, 270, 271, 272, 273, 274, 284, 287, 288, 289, 291, 292, 294, 295, 296, 297, 299, 300, 302, 303, 304, 305, 307, 308, 310, 311, 312, 313, 315, 316, 318, 319, 320, 322, 323, 325, 326, 327, 330, 331, 332, 334, 335, 337, 338, 339, 341, 342, 344, 345, 346, 348, 349, 351, 352, 353, 355, 356, 358, 359, 360, 362, 363, 365, 366, 367, 369, 370, 372, 373, 374, 376, 377, 379, 380, 381, 383, 384, 386, 387, 388, 390, 391, 393, 394, 395, 396, 397, 398, 399, 402, 404, 405, 407, 408, 409, 412, 413, 414, 417, 418, 419, 421, 422, 424, 425, 426, 428, 429, 431, 432, 440, 442, 443, 445, 446, 447, 449, 450, 452, 453, 454, 456, 457, 459, 460, 461, 463, 464, 466, 467, 468, 469, 470, 471, 472, 482, 484, 485, 487, 488, 489, 491, 492, 494, 495, 496, 498, 499, 501, 502, 503, 505, 506, 508, 509, 510, 511, 512, 513, 514, 517, 524, 526, 527, 529, 530, 531, 533, 534, 536, 537, 538, 540, 541, 543, 544, 545, 547, 548, 550, 551, 552, 553, 554, 564, 566, 567, 569, 570, 571, 573, 574, 576, 577, 578, 579, 580, 581, 583, 584, 586, 587, 588, 589, 590, 591, 592, 595, 597, 598, 600, 601, 602, 604, 605, 607, 608, 609, 612, 613, 614, 616, 617, 619, 620, 621, 623, 624, 626, 627, 628, 630, 631, 633, 634, 635, 638, 639, 640, 643, 644, 652, 654, 655, 657, 658, 659, 661, 662, 664, 665, 666, 668, 669, 671, 672, 673, 675, 676, 678, 679, 680, 682, 683, 685, 686, 687, 689, 690, 692, 693, 694, 697, 698, 699, 701, 702, 704, 705, 706, 707, 708, 709, 710, 720, 722, 723, 725, 726, 727, 729, 730, 732, 733, 734, 736, 737, 739, 740, 741, 742, 743, 744, 745, 748, 750, 751, 753, 754, 755, 757, 758, 760, 761, 762, 764, 765, 767, 768, 769, 771, 772, 774, 775, 776, 778, 779, 781, 782, 783, 785, 786, 788, 789, 790, 792, 793, 795, 796, 797, 799, 800, 802, 803, 804, 806, 807, 809, 810, 811, 813, 814, 816, 817, 818, 820, 821, 823, 824, 825, 827, 828, 830, 831, 832, 834, 835, 837, 838, 839, 842, 843, 844, 846, 847, 849, 850, 851, 854, 855, 856, 859, 860, 861, 863, 864, 866, 867, 868, 870, 871, 873, 874, 875, 878, 879, 880, 882, 883, 885, 886, 887, 890, 891, 892, 895, 896, 897, 899, 900, 902, 903, 904, 907, 908]
theorem U.objs (w : World) (os : OsState) : (U.run w os).map (fun s => List.map (HeadRun.getT s) U.as0) = some (List.map (fun x => some x.2) (U.early0.heap_1 w.params)) := by kernel_rfl
end
set_option Elab.async false
set_option linter.all false
set_option maxRecDepth 100000
set_option maxHeartbeats 2000000
/-! rules of our own: text * int, tuple * int, len(set(texts)) -/
namespace UL
open PySem PySem.Spec PyProof.Rows L2
/-! ### text * 0, text * 1 -/
def rMulS : R2 := fun x y H Q => ∃ z n, x = .str z ∧ y = .int n ∧ ((n = 0 ∧ Q (.str Str.empty) H) ∨ (n = 1 ∧ Q (.str z) H))
theorem op_mulS {X : Cx} : OpR X (binaryOp .Mult) rMulS := by
  intro pins s σ H x y v u Q I rx ry h
  obtain ⟨z, n, rfl, rfl, h⟩ := h
  obtain ⟨t, rfl⟩ := rx
  obtain ⟨t', rfl⟩ := ry
  rcases h with ⟨rfl, q⟩ | ⟨rfl, q⟩
  · exact P.mul_str_none (by decide) (by decide) ⟨.str Str.empty, H, I.tok _, ⟨_, rfl⟩, q⟩
  · refine P.mul_str (by decide) (fun _ e => ?_) (fun _ e => ?_) ?_
    · simp at e
    · simp at e
    · rw [if_neg (by decide), if_pos (by simp)]
      exact ⟨.str z, H, I, ⟨_, rfl⟩, q⟩
/-! ### tuple * int -/
theorem tuple_mul1 (l : Addr) (items : Array Value) (n : Nat) (dd : Option Addr) (sl : Array (Option Value)) (x : Int) (u : Tok) (c0 : (decide (x < -(2 ^ 63)) || decide (x ≥ 2 ^ 63)) = false) (c1 : (items.isEmpty || x == 1) = true) :
    Meets (Builtin.«tuple.__mul__» ⟨[.ref l, .int x u], []⟩) (fun _ R s => s.heap.get? l = some { cls := .type "tuple", dict := dd, data := .seq items n, slots := sl } ∧
      R (.ok (.ret (Value.ref l))) s) :=
  .of_wp fun prog w A R s h => by
    obtain ⟨hp, g, d, tk, os⟩ := s
    obtain ⟨hl, h⟩ := h
    have f1 := AutoSeq1.idx_int
    wp_walk using wpAny_loadPart' hl
    repeat (first
      | (refine wpAny_ite_false (decide_eq_false (by rw [c0]; exact Bool.false_ne_true)) ?_; wp_walk using wpAny_loadPart' hl)
      | (refine wpAny_ite_true (decide_eq_true c1) ?_; wp_walk using wpAny_loadPart' hl))
    exact ⟨_, rfl, h⟩
/-- the answer is a tuple of the items so often: a new one, or the same -/
def rRepU (K : PySem.W.Frag) : R2 := fun x y H Q => ∃ l k xs, x = .ref l ∧ y = .int k ∧ SqT K H l xs ∧ xs ≠ [] ∧ 1 ≤ k ∧ k ≤ 1000 ∧ xs.length ≤ 1000 ∧ (k = 1 → Q (.ref l) H) ∧ (2 ≤ k → ∀ p, H p = none → Q (.ref p) (upd H p (.tup (List.replicate k.toNat xs).flatten)))
theorem op_repU {X : Cx} : OpR X (binaryOp .Mult) (rRepU X.K) := by
  intro pins s σ H x y v u Q I rx ry h
  obtain ⟨l, k, xs, rfl, rfl, hT, hne, h1, h2, hz, q1, q2⟩ := h
  by_cases hk : k = 1
  · subst hk
    cases rx
    obtain ⟨t, rfl⟩ := ry
    obtain ⟨its, r, ⟨⟨cls, dd, data, sl⟩, ho, hc, n, hd⟩, hs⟩ := I.tuple hT
    simp only at hc hd
    subst hc hd
    have c0 : (decide ((1 : Int) < -(2 ^ 63)) || decide ((1 : Int) ≥ 2 ^ 63)) = false := by decide
    have c1 : (its.toArray.isEmpty || (1 : Int) == 1) = true := by simp
    refine wpAny_binaryOp_repeat_ref (T := "tuple") (U := "int") (by decide) ⟨_, ho, rfl⟩ (fun s' => typeIs_int s' 1 t) noFill_tuple_mul F.fills_int_mul F.slot_int_rmul repeat_tuple F.slot_int_index.lookup
      (call_meets F.slot_int_rmul (typeIs_int s 1 t) F.entry_int_rmul (F.args_int_rmul_2 _ _) (int_rmul_tuple 1 t l its.toArray n dd sl)
        ⟨ho, rfl, ⟨_, ho, rfl⟩, call_meets F.slot_tuple_mul ⟨_, ho, rfl⟩ F.entry_tuple_mul (F.args_tuple_mul_2 _ _) (tuple_mul1 l its.toArray n dd sl 1 t c0 c1) ⟨ho, ?_⟩⟩)
    exact ⟨.ref l, H, I, rfl, q1 rfl⟩
  · exact op_repT pins s σ H _ _ v u Q I rx ry ⟨l, k, xs, rfl, rfl, hT, hne, by omega, h2, hz, fun p hp => q2 (by omega) p hp⟩
end UL
/-! ### len(set(texts)) -/
namespace UL
open PySem PySem.Spec PyProof.Rows
/-- the texts met so far, each once -/
def met (xs : List Str) : List Str := xs.foldl (fun acc x => if acc.any (· == x) then acc else acc ++ [x]) []
theorem met_snoc (xs : List Str) (x : Str) : met (xs ++ [x]) = if (met xs).any (· == x) then met xs else met xs ++ [x] := by
  unfold met
  rw [List.foldl_append]
  rfl
theorem met_len (xs : List Str) : (met xs).length ≤ xs.length := by
  have h : ∀ (ys acc : List Str), (ys.foldl (fun acc x => if acc.any (· == x) then acc else acc ++ [x]) acc).length ≤ acc.length + ys.length := by
    intro ys
    induction ys with
    | nil => intro acc; simp
    | cons y r ih =>
      intro acc
      rw [List.foldl_cons]
      refine Nat.le_trans (ih _) ?_
      split <;> simp only [List.length_append, List.length_cons, List.length_nil] <;> omega
  simpa [met] using h xs []
theorem met_take (xs : List Str) {i : Nat} (h : i < xs.length) (k : Str) :
    (((met (xs.take i)).any (· == k) || decide (k = xs.getD i Str.empty)) = (met (xs.take (i + 1))).any (· == k)) ∧
      (if (met (xs.take i)).any (· == xs.getD i Str.empty) = true then (met (xs.take i)).length else (met (xs.take i)).length + 1) = (met (xs.take (i + 1))).length := by
  have hx : xs[i]? = some (xs.getD i Str.empty) := by
    rw [List.getD_eq_getElem?_getD]; simp [h]
  have ht : xs.take (i + 1) = xs.take i ++ [xs.getD i Str.empty] := by
    rw [List.take_add_one, hx]; rfl
  rw [ht, met_snoc]; generalize xs.getD i Str.empty = x
  by_cases e : (met (xs.take i)).any (· == x) = true
  · rw [if_pos e, if_pos e]
    refine ⟨?_, rfl⟩
    by_cases e2 : k = x
    · subst e2; simp [e]
    · simp [e2]
  · rw [if_neg e, if_neg e, List.any_append]
    refine ⟨?_, by simp⟩
    by_cases e2 : k = x
    · subst e2; simp
    · have hb : (x == k) = false := beq_eq_false_iff_ne.mpr fun z => e2 z.symm
      simp [e2, hb]
section
variable {prog : Program} {w : World} {A : Around} {E : Value → Shared → Prop} {s : Shared} {I : Addr} {fp wr : List Addr} {G : Array GenState → Array GenState → Prop} {n : Nat} {P : Nat → Value → Prop} {St : Nat → Shared → Prop}
/-- the set at S holds the first i texts -/
def Holds (prog : Program) (w : World) (S : Addr) (xs : List Str) (i : Nat) (h : Heap) : Prop := h.SetOf (PySem.strKind prog w) S (fun k => (met (xs.take i)).any (· == k)) (met (xs.take i)).length
theorem Holds.at {S : Addr} {xs : List Str} {i : Nat} {h h' : Heap} (x : Holds prog w S xs i h) (k : ∀ o, h.get? S = some o → h'.get? S = some o) : Holds prog w S xs i h' := by
  obtain ⟨o, es, ep, t, ho, r⟩ := x; exact ⟨o, es, ep, t, k o ho, r⟩
/-- the walk that fills a set with texts, from turn i on -/
theorem fills (W : WalksS prog w A.in1 I fp wr G n P St) {S : Addr} (hS : S ∉ fp) {xs : List Str} (hl : xs.length = n) (hb : n + 1 < scanBound) (hv : ∀ i v, P i v → ∃ t, v = .str (xs.getD i Str.empty) t) {R : Result → Shared → Prop} :
    ∀ (d i : Nat) (s : Shared), i + d = n → St i s → Holds prog w S xs i s.heap → (∀ s', Moved (S :: wr) G s s' → Holds prog w S xs n s'.heap → R (.ok (.ret .none)) s') →
      codeAny (model prog w) A (.builtin "set.update.loop" ⟨[.ref S, .ref I], []⟩) R s := by
  have nw : S ∉ wr := fun z => hS (W.sub _ z)
  have up : ∀ b ∈ wr, b ∈ S :: wr := fun b z => List.mem_cons_of_mem _ z
  intro d
  induction d with
  | zero =>
    intro i s e st hd hR
    cases (show i = n from e)
    refine codeAny_builtin PyProof.Rows.F.entry_set_update_loop ?_; rw [Around.under_plainId PyProof.Rows.F.plain_set_update_loop _]
    refine wpAny_bind (m := pyNext (.ref I)) (W.done s _ _ st fun s' m => wpAny_pure (hR s' (m.mono up) (hd.at fun o q => m.heap S o nw q)))
  | succ d ih =>
    intro i s e st hd hR
    have lt : i < n := by omega
    refine codeAny_builtin PyProof.Rows.F.entry_set_update_loop ?_; rw [Around.under_plainId PyProof.Rows.F.plain_set_update_loop _]
    refine wpAny_bind (m := pyNext (.ref I)) (W.item i s _ _ lt st fun v s' p st' m => ?_)
    obtain ⟨t, rfl⟩ := hv i v p
    have ml : (met (xs.take i)).length ≤ i := Nat.le_trans (met_len _) (by rw [List.length_take]; omega)
    refine wpAny_bind (m := holding [Value.str (xs.getD i Str.empty) t] (setAdd S (.str (xs.getD i Str.empty) t))) (wpAny_holding ?_)
    unfold setAdd
    refine wpAny_holding (wpAny_bind ((PySem.strKind prog w).pyHash (k := xs.getD i Str.empty) (strKind_is _ _ _ _) ?_))
    have hd' : Holds prog w S xs i s'.heap := hd.at fun o q => m.heap S o nw q
    refine wpAny_setAddHashed_of (knd := PySem.strKind prog w) (s := { s' with toks := s'.toks + 1 }) (strKind_is _ _ _ _) rfl hd' (by omega) fun h' sb new => ?_
    have hd2 : Holds prog w S xs (i + 1) h' := by
      obtain ⟨o, es, ep, tb, ho, r⟩ := new
      have e1 := fun k => (met_take xs (show i < xs.length by omega) k).1
      have e2 := (met_take xs (show i < xs.length by omega) Str.empty).2
      exact SetOf_congr ⟨o, es, ep, tb, ho, r⟩ e1 e2
    have off : ∀ b, b ∈ fp → b ≠ S := fun b z q => hS (q ▸ z)
    refine wpAny_pure ⟨plainId_quiet PyProof.Rows.F.plain_set_update_loop _, ih (i + 1) _ (by omega) (W.frame _ s' _ _ st' (Nat.le_succ _) fun b z o q => (sb.2 b (off b z)).trans q) hd2 fun s2 m2 q2 => hR s2 ?_ q2⟩
    exact Moved.trans W.gtrans ((m.mono up).then_heap (Nat.le_succ _) fun b o z q => (sb.2 b fun y => z (y ▸ List.mem_cons_self)).trans q) m2
/-- set(x): a new set, then its __init__ -/
theorem call_set1 {x : Value} {Q : Value → Shared → Prop} (h : ∀ led : Bool, wpAny (model prog w) A.in1.in1 (Builtin.«set.__init__» ⟨[.ref s.heap.objs.size, x], []⟩)
      (fun fin s' => match fin with | .done f => wants (fun r s₂ => r = .none ∧ Q (.ref s.heap.objs.size) s₂) E (.ok f) s' | .again c' => c'.quiet = true ∧ codeAny (model prog w) A.in1 c' (wants (fun r s₂ => r = .none ∧ Q (.ref s.heap.objs.size) s₂) E) s')
      (fun e s' => wants (fun r s₂ => r = .none ∧ Q (.ref s.heap.objs.size) s₂) E (.error e) s') { s with heap := s.heap.push { cls := .type "set", dict := none, data := .set #[] 0 (.fresh 0 0 led) } }) :
    wpAny (model prog w) A (call (.type "set") [x]) Q E s := by
  have ⟨c, tl, hmro⟩ := PySem.F.called_set.mro; have hmade := PySem.F.called_set.made; have hsub := PySem.F.called_set.sub
  refine wpAny_call (codeAny_of_tree (wpAny_pure ⟨Code.quiet_builtin _ (by decide +kernel), codeAny_builtin PySem.F.entry_type_call ?_⟩))
  rw [Around.under_plain (weight_type_call_type "set" [x] []) rfl]
  have h1 := PySem.F.called_set.notType; have h2 := PySem.F.called_set.canCreate; have hct := PySem.F.typeCall_set_1 x
  repeat (any_goals (first | assumption | wp_step))
  refine codeAny_mono (code_set_new_1 x (E := E) (Q₁ := fun obj s₁ => ∃ led : Bool, obj = .ref s.heap.objs.size ∧ s₁ = { s with heap := s.heap.push { cls := .type "set", dict := none, data := .set #[] 0 (.fresh 0 0 led) } }) fun led => ⟨led, rfl, rfl⟩) fun r s₁ hr => ?_
  match r, hr with
  | .error e, hr => exact hr
  | .ok .next, hr | .ok .brk, hr | .ok .cont, hr => exact hr.elim
  | .ok (.ret obj), ⟨led, e1, e2⟩ =>
    subst e1 e2
    have hT : Shared.TypeIs { s with heap := s.heap.push { cls := .type "set", dict := none, data := .set #[] 0 (.fresh 0 0 led) } } (.ref s.heap.objs.size) "set" := ⟨_, Heap.get?_push_size _ rfl, rfl⟩
    have hli := PySem.F.called_set.init.lookup; have hbi := PySem.F.called_set.init.bind (.ref s.heap.objs.size)
    repeat (any_goals (first | assumption | wp_step))
    refine codeAny_mono (codeAny_call_builtin PySem.F.called_set.init.plain PySem.F.entry_set_init (check_set_init_1 hT (h led))) fun r₂ s₂ hr₂ => ?_
    match r₂, hr₂ with
    | .error e, hr₂ => exact hr₂
    | .ok .next, hr₂ | .ok .brk, hr₂ | .ok .cont, hr₂ => exact hr₂.elim
    | .ok (.ret r), ⟨e1, hq⟩ =>
      subst e1
      repeat (any_goals (first | assumption | wp_step))
abbrev freshSet (led : Bool) : Obj := { cls := .type "set", dict := none, data := .set #[] 0 (.fresh 0 0 led) }
/-- the same of a list, of a tuple -/
theorem call_set_strs {l : Addr} {items : Array Value} {xs : List Str} {Q : Value → Shared → Prop} (hh : A.handled = none) (hl : s.heap.IsList l items ∨ s.heap.IsTuple l items) (hi : StrsAre items.toList xs) (hb : items.size + 1 < scanBound)
    (h : ∀ (h' : Heap) (tk : Nat), Holds prog w s.heap.objs.size xs items.size h' → (∀ b o, b < s.heap.objs.size → s.heap.get? b = some o → h'.get? b = some o) → Q (.ref s.heap.objs.size) { s with heap := h', toks := tk }) :
    wpAny (model prog w) A (call (.type "set") [.ref l]) Q E s := by
  have hsz : xs.length = items.size := by rw [← StrsAre.len_eq hi, Array.length_toList]
  have hval : ∀ (i : Nat) (v : Value), items[i]? = some v → ∃ t, v = .str (xs.getD i Str.empty) t := fun i v hv => SS.strs_at hi i v (by rw [Array.getElem?_toList]; exact hv)
  have h3 : A.in1.in1.in1.handled = none := by simp [hh]
  refine call_set1 fun led => ?_
  have gS : (s.heap.push (freshSet led)).get? s.heap.objs.size = some (freshSet led) := Heap.get?_push_size _ rfl
  -- once an iterator stands behind the set
  have fin : ∀ (cl : String) (vs : Array Value) (l0 : Addr) (P : Nat → Value → Prop) (St : Nat → Heap → Prop), (∀ i v, P i v → ∃ t, v = .str (xs.getD i Str.empty) t) →
      Walks prog w A.in1.in1.in1 (s.heap.objs.size + 1) [s.heap.objs.size + 1, l0] [s.heap.objs.size + 1] items.size P St → l0 < s.heap.objs.size → St 0 ((s.heap.push (freshSet led)).push { cls := .type cl, data := .fields vs }) →
      codeAny (model prog w) A.in1.in1 (.builtin "set.update.loop" ⟨[.ref s.heap.objs.size, .ref (s.heap.objs.size + 1)], []⟩) (fun r s' => r = .ok (.ret .none) ∧ ∃ h' tk, s' = { s with heap := h', toks := tk } ∧ Holds prog w s.heap.objs.size xs items.size h' ∧
        (∀ b o, b < s.heap.objs.size → s.heap.get? b = some o → h'.get? b = some o)) { s with heap := (s.heap.push (freshSet led)).push { cls := .type cl, data := .fields vs } } := by
    intro cl vs l0 P St hP W hl0 st
    refine fills W.toS (by simp only [List.mem_cons, List.not_mem_nil, or_false, not_or]; exact ⟨Nat.ne_of_lt (Nat.lt_succ_self _), Nat.ne_of_gt hl0⟩) hsz hb hP items.size 0 _ (by omega) st ?_ fun s' m q => ?_
    · exact SetOf_congr ((setObjOf_fresh (knd := PySem.strKind prog w) led).setOf (Heap.get?_push_of_some _ gS) (by unfold scanBound; omega)) (fun _ => rfl) rfl
    · obtain ⟨h', g', d', tk', os'⟩ := s'
      cases (show g' = s.gens from m.gens); cases (show d' = s.drawn from m.drawn); cases (show os' = s.os from m.os)
      refine ⟨rfl, h', tk', rfl, q, fun b o lt e => m.heap b o ?_ (Heap.get?_push_of_some _ (Heap.get?_push_of_some _ e))⟩
      simp only [List.mem_cons, List.not_mem_nil, or_false, not_or]; exact ⟨Nat.ne_of_lt lt, Nat.ne_of_lt (Nat.lt_succ_of_lt lt)⟩
  have push1 : (s.heap.push (freshSet led)).objs.size = s.heap.objs.size + 1 := Heap.size_push _ _
  have gI : ∀ (cl : String) (vs : Array Value), ((s.heap.push (freshSet led)).push { cls := .type cl, data := .fields vs }).get? (s.heap.objs.size + 1) = some { cls := .type cl, data := .fields vs } := fun cl vs => by
    have g := Heap.get?_push_size (s.heap.push (freshSet led)) (o := { cls := .type cl, data := .fields vs }) rfl
    rwa [push1] at g
  rcases hl with ⟨⟨ocls, odict, odata, oslots⟩, ho, hc, nl, hd⟩ | ⟨⟨ocls, odict, odata, oslots⟩, ho, hc, nl, hd⟩
  all_goals (simp only at hc hd; subst hc hd)
  · have ho' := Heap.get?_push_of_some (freshSet led) ho
    have hl1 : (s.heap.push (freshSet led)).IsList l items := ⟨_, ho', rfl, nl, rfl⟩
    have f1 := PySem.F.sub_list_set; have f2 := PySem.F.sub_list_frozenset; have f3 : (Value.type "list" == Value.type "dict") = false := by decide
    unfold Builtin.«set.__init__» noKeywords Builtin.Frozenset.updateFrom; generalize hPI : pyIter = PI; wp_walk; subst hPI
    refine wpAny_pyIter_list hl1 (wpAny_bind (wpAny_runValue ?_))
    rw [push1]
    have lt := Heap.lt_size ho
    refine codeAny_mono (fin _ _ l _ _ hval (Walks.list h3 _ l (Nat.ne_of_lt (Nat.lt_succ_of_lt lt)) items) lt ⟨⟨_, gI _ _, rfl, rfl⟩, hl1.push _⟩) fun r s' q => ?_
    obtain ⟨e1, h', tk, e2, q1, q2⟩ := q
    subst e1 e2
    exact wpAny_pure (wpAny_pure ⟨rfl, h h' tk q1 q2⟩)
  · have ho' := Heap.get?_push_of_some (freshSet led) ho
    have hl1 : (s.heap.push (freshSet led)).IsTuple l items := ⟨_, ho', rfl, nl, rfl⟩
    have f1 : isSubtype (.type "tuple") (.type "set") = pure false := by rw [isSubtype_type]; kernel_rfl
    have f2 : isSubtype (.type "tuple") (.type "frozenset") = pure false := by rw [isSubtype_type]; kernel_rfl
    have f3 : (Value.type "tuple" == Value.type "dict") = false := by decide
    unfold Builtin.«set.__init__» noKeywords Builtin.Frozenset.updateFrom; generalize hPI : pyIter = PI; wp_walk; subst hPI
    refine wpAny_pyIter_tuple hl1 (wpAny_bind (wpAny_runValue ?_))
    rw [push1]
    have lt := Heap.lt_size ho
    refine codeAny_mono (fin _ _ l _ _ hval (Walks.tuple h3 _ l (Nat.ne_of_lt (Nat.lt_succ_of_lt lt)) items) lt ⟨⟨_, gI _ _, rfl, rfl⟩, hl1.push _⟩) fun r s' q => ?_
    obtain ⟨e1, h', tk, e2, q1, q2⟩ := q
    subst e1 e2
    exact wpAny_pure (wpAny_pure ⟨rfl, h h' tk q1 q2⟩)
end
section
open L2
variable {X : Cx}
theorem strs_of_vals : ∀ {zs : List Str} {us : List Value}, Vals (zs.map V.str) us → StrsAre us zs
  | [], _, .nil => .nil
  | z :: zs, _, .cons r t => by obtain ⟨tk, rfl⟩ := r; exact .cons _ _ (strs_of_vals t)
def tLenSetS (K : PySem.W.Frag) (ta : TE) : TE := fun σ H Q => ta σ H fun x H1 => ∃ (l : Addr) (zs : List Str), x = V.ref l ∧ (SqL K H1 l (zs.map V.str) ∨ SqT K H1 l (zs.map V.str)) ∧ zs.length < 64 ∧ Q (.int (met zs).length) H1
theorem pe_lenSetS {a : Expr} {ta : TE} {p p2 q pos : Pos} (hc : X.calm = true) (hg : Gl X "len") (hm : X.mg "len" = none) (hg2 : Gl X "set") (hm2 : X.mg "set" = none) (ha : PE X a ta)
    (na : starEach [a] X.env = (false, eval a X.env) :: starEach [] X.env := by rfl) : PE X (.Call (.Name "len" p) [.Call (.Name "set" p2) [a] [] q] [] pos) (tLenSetS X.K ta) := by
  refine ⟨fun pins s σ H Q I h => Call_ (ld_blt I hg hm PySem.boot_len (callWith_builtin1 (args_cons (Call_ (ld_blt I hg2 hm2 boot_set ?_)) rfl) rfl rfl))⟩
  refine callWith_type1 (args_cons (thn (ha.run pins s σ H _ I h) fun v s1 ⟨x, H1, I1, r1, q1⟩ => args_nil ?_) na) na rfl
  obtain ⟨l, zs, rfl, hq, hn, q1⟩ := q1
  cases r1
  have go : ∀ its : List Value, Vals (zs.map V.str) its → (s1.heap.IsList l its.toArray ∨ s1.heap.IsTuple l its.toArray) → its.length = zs.length := fun its r _ => by rw [← r.length, List.length_map]
  obtain ⟨its, r, pl⟩ : ∃ its : List Value, Vals (zs.map V.str) its ∧ (s1.heap.IsList l its.toArray ∨ s1.heap.IsTuple l its.toArray) := by
    rcases hq with hq | hq
    · obtain ⟨its, r, pl, _⟩ := I1.list hq; exact ⟨its, r, .inl pl.isList⟩
    · obtain ⟨its, r, pl, _⟩ := I1.tuple hq; exact ⟨its, r, .inr pl⟩
  have hl : its.toArray.size = zs.length := by rw [List.size_toArray, ← r.length, List.length_map]
  refine call_set_strs (I1.ok.hd hc) pl (xs := zs) (by simpa using strs_of_vals r) (by unfold scanBound; omega) fun h' tk hS hk => args_nil ?_
  rw [hl] at hS
  unfold Holds at hS
  rw [List.take_length] at hS
  obtain ⟨o, es, ep, t, ho, hex, hd, _, _, _, hf, hn2⟩ := hS
  have I2 : Inv X pins σ H1 { s1 with heap := h', toks := tk } := I1.kept fun b o e => hk b o (Heap.lt_size e) e
  have := met_len zs
  exact call_len_set ho hex hd hf (by rw [hn2] <;> omega) ⟨.int (met zs).length, H1, I2.tok _, ⟨_, by rw [hn2]⟩, q1⟩
end
end UL
set_option Elab.async false
set_option linter.all false
set_option maxRecDepth 100000
set_option maxHeartbeats 2000000
/-! own __getitem__, __setitem__, __iter__ -/
namespace UL
open PySem PySem.Spec PyProof.Rows L2
section
variable {X : Cx} {CX : CXT} {k : Nat} {C f a dx : Addr} {fs : List (Str × V)} {fd : FuncData} {ps : List Str} {sp : Sp} {E : XK} {pins : List (Addr × Obj)} {σ : L2.St} {H : Hp} {s : Shared}
theorem inst_of (I : Inv X pins σ H s) (e : H a = some (.ins C dx fs)) : ∃ od, PySem.W.InstAt s.heap a (PySem.W.instObj C dx) C (some od) := by
  obtain ⟨mA, O, _⟩ := ins_get I.hok e
  obtain ⟨od, J, _⟩ := O.look
  exact ⟨od, J⟩
/-! ### o[i] by an own __getitem__ -/
def tSubO (C : Addr) (sp : Sp) (E : XK) (ta tb : TE) : TE := fun σ H Q => ta σ H fun x H1 => tb σ H1 fun y H2 => ∃ a dx fs, x = .ref a ∧ H2 a = some (.ins C dx fs) ∧ sp [.ref a, y] H2 Q E
/-! ### o[i] = v by an own __setitem__ -/
/-! ### iter(a tuple) -/
/-! ### list(o), where o's own __iter__ hands back an iterator over a tuple -/
theorem upd_self {H : Hp} {a : Addr} {o : HO} (h : H a = some o) : upd H a o = H := by
  funext b
  by_cases e : b = a
  · rw [e, upd_same, h]
  · rw [upd_ne e]
end
end UL
set_option Elab.async false
set_option linter.all false
set_option maxRecDepth 100000
set_option maxHeartbeats 2000000
/-! zip of two sequences of any two kinds; yield from a list -/
namespace UL
open PySem PySem.Spec PyProof.Rows L2
inductive Kd where | l | t
def Kd.Iter : Kd → Heap → Addr → Addr → Nat → Prop
  | .l, h, it, a, i => h.IsListIter it a i
  | .t, h, it, a, i => h.IsTupleIter it a i
def Kd.Is : Kd → Heap → Addr → Array Value → Prop
  | .l, h, a, xs => h.IsList a xs
  | .t, h, a, xs => h.IsTuple a xs
def Kd.Sq : Kd → PySem.W.Frag → Hp → Addr → List V → Prop
  | .l, K, H, a, xs => SqL K H a xs
  | .t, K, H, a, xs => SqT K H a xs
def Kd.obj : Kd → Addr → Obj
  | .l, a => { cls := .type "list_iterator", data := .fields #[.ref a, .int 0 0] }
  | .t, a => { cls := .type "tuple_iterator", data := .fields #[.ref a, .int 0 0] }
theorem Kd.start (k : Kd) {h : Heap} {it a : Addr} (e : h.get? it = some (k.obj a)) : k.Iter h it a 0 := match k, e with
  | .l, e => ⟨_, e, rfl, rfl⟩
  | .t, e => ⟨_, e, rfl, rfl⟩
section
variable {X : Cx} {pins : List (Addr × Obj)} {σ : L2.St} {H : Hp} {s : Shared} {a : Addr} {xs ys : List V}
theorem Kd.inj (k : Kd) (I : Inv X pins σ H s) (h : k.Sq X.K H a xs) (h' : k.Sq X.K H a ys) : xs = ys := match k, h, h' with
  | .l, h, h' => I.list_inj h h'
  | .t, h, h' => I.tuple_inj h h'
theorem Kd.lt (k : Kd) {h : Heap} {xs : Array Value} (x : k.Is h a xs) : a < h.objs.size := match k, x with
  | .l, ⟨_, e, _⟩ => Heap.lt_size e
  | .t, ⟨_, e, _⟩ => Heap.lt_size e
end
/-- the items of the two at each turn, in new pairs -/
def ItzK (k1 k2 : Kd) (K : PySem.W.Frag) (a b : Addr) : It :=
  ⟨fun i H => ∃ (xs ys : List V) (x y : V), k1.Sq K H a xs ∧ k2.Sq K H b ys ∧ xs[i]? = some x ∧ ys[i]? = some y,
    fun i H v H' => ∃ T x y, v = .ref T ∧ H T = none ∧ H' = upd H T (.tup [x, y]) ∧ (∀ xs, k1.Sq K H a xs → xs[i]? = some x) ∧ ∀ ys, k2.Sq K H b ys → ys[i]? = some y,
    fun i H => ∃ xs ys : List V, k1.Sq K H a xs ∧ k2.Sq K H b ys ∧ i ≤ xs.length ∧ i ≤ ys.length ∧ (xs.length = i ∨ ys.length = i)⟩
/-- the same where either kind may come -/
def iZipB (K : PySem.W.Frag) (ta : TA) : TI := fun σ H R => ta σ H fun vs H1 => ∃ a b xs ys k1 k2, vs = [.ref a, .ref b] ∧ Kd.Sq k1 K H1 a xs ∧ Kd.Sq k2 K H1 b ys ∧ R (ItzK k1 k2 K a b) H1
/-- a loop over two sequences of one length that stay as they are -/
theorem for_zipK {K : PySem.W.Frag} {k1 k2 : Kd} {a b : Addr} {xs ys : List V} {g : TG} {tb : TS} {D : Ends} {σ : L2.St} {H : Hp} (hl : xs.length = ys.length) (Pv : Nat → L2.St → Hp → Prop) (h0 : Pv 0 σ H) (hq : ∀ i σ H, Pv i σ H → k1.Sq K H a xs ∧ k2.Sq K H b ys)
    (hs : ∀ (i : Nat) (x y : V) (T : Addr) (σ : L2.St) (H : Hp), xs[i]? = some x → ys[i]? = some y → Pv i σ H → H T = none → g (.ref T) σ (upd H T (.tup [x, y])) fun σ2 H2 => tb { D with nx := Pv (i + 1), ct := Pv (i + 1), bk := D.nx } σ2 H2) (hd : ∀ σ H, Pv xs.length σ H → D.nx σ H) :
    ∃ W : Nat → Nat → L2.St → Hp → Prop, (∃ m, W 0 m σ H) ∧ ∀ i m σ H, W i m σ H →
      ((ItzK k1 k2 K a b).stop i H ∧ D.nx σ H) ∨ ((ItzK k1 k2 K a b).go i H ∧ ∃ N : L2.St → Hp → Prop, (∀ σ' H', N σ' H' → ∃ m', m' < m ∧ W (i + 1) m' σ' H') ∧ ∀ x H', (ItzK k1 k2 K a b).yld i H x H' → g x σ H' fun σ2 H2 => tb { D with nx := N, ct := N, bk := D.nx } σ2 H2) := by
  refine ⟨fun i m σ H => m = xs.length - i ∧ i ≤ xs.length ∧ Pv i σ H, ⟨xs.length, by simp, Nat.zero_le _, h0⟩, ?_⟩
  rintro i m σ H ⟨rfl, hi, p⟩
  obtain ⟨q1, q2⟩ := hq i σ H p
  by_cases lt : i < xs.length
  · have lt2 : i < ys.length := by omega
    refine .inr ⟨⟨xs, ys, xs[i], ys[i], q1, q2, by simp [lt], by simp [lt2]⟩, Pv (i + 1), fun σ' H' p' => ⟨xs.length - (i + 1), by omega, rfl, lt, p'⟩, fun x H' y => ?_⟩
    obtain ⟨T, x1, y1, e, hT, e2, z1, z2⟩ := y
    subst e e2
    exact hs i x1 y1 T σ H (z1 xs q1) (z2 ys q2) p hT
  · have e : i = xs.length := by omega
    subst e
    exact .inl ⟨⟨xs, ys, q1, q2, Nat.le_refl _, by omega, .inl rfl⟩, hd σ H p⟩
end UL
set_option Elab.async false
set_option linter.all false
set_option maxRecDepth 100000
set_option maxHeartbeats 2000000
/-! yield from a list -/
namespace UL
open PySem PySem.Spec PyProof.Rows L2
def tYfLst (te : TE) : TYf := fun σ H Q => te σ H fun x H1 => ∃ a xs, x = .ref a ∧ H1 a = some (.lst xs) ∧ Q xs H1
end UL
set_option Elab.async false
set_option linter.all false
set_option maxRecDepth 100000
set_option maxHeartbeats 2000000
/-! bundles: a def, a method as they stand; rules for what may be of several kinds -/
namespace UL
open PySem PySem.Spec PyProof.Rows L2
/-! ### operators on values of several kinds -/
section
variable {X : Cx}
abbrev rAddS' : R2 := fun x y H Q => ∃ i j, x = .str i ∧ y = .str j ∧ i.length + j.length ≤ sizeLine ∧ Q (.str (i ++ j)) H
def rAddA (K : PySem.W.Frag) : R2 := fun x y H Q => rI0 (fun i j => .int (i + j)) x y H Q ∨ rAddS' x y H Q ∨ rCatA K x y H Q ∨ rCat x y H Q
theorem op_addA : OpR X (binaryOp .Add) (rAddA X.K) := OpR.or op_add (OpR.or op_add_str (OpR.or op_catA op_cat))
def rMulA (K : PySem.W.Frag) : R2 := fun x y H Q => rI CMul (fun i j => .int (i * j)) x y H Q ∨ rMulS x y H Q ∨ rRepU K x y H Q
theorem op_mulA : OpR X (binaryOp .Mult) (rMulA X.K) := OpR.or op_mul (OpR.or op_mulS op_repU)
def rEqA (K : PySem.W.Frag) : R2 := fun x y H Q => rEq x y H Q ∨ rEqD K x y H Q
def rNeA (K : PySem.W.Frag) : R2 := fun x y H Q => rNe x y H Q ∨ rNeD K x y H Q
theorem op_eqA (hu : X.A.units + 64 < cLine) : OpR X (compareOp .Eq) (rEqA X.K) := OpR.or op_eq (op_eqD hu)
theorem op_neA (hu : X.A.units + 64 < cLine) : OpR X (compareOp .NotEq) (rNeA X.K) := OpR.or op_ne (op_neD hu)
abbrev rInC : R2 := fun x y H Q => ∃ (c : Nat) (z : Str), x = .str ⟨#[c]⟩ ∧ y = .str z ∧ Q (.bl (decide (c ∈ z.cps.toList))) H
abbrev rNInC : R2 := fun x y H Q => ∃ (c : Nat) (z : Str), x = .str ⟨#[c]⟩ ∧ y = .str z ∧ Q (.bl (!decide (c ∈ z.cps.toList))) H
def rInA (K : PySem.W.Frag) : R2 := fun x y H Q => rInC x y H Q ∨ rIn K false x y H Q
def rNInA (K : PySem.W.Frag) : R2 := fun x y H Q => rNInC x y H Q ∨ rIn K true x y H Q
theorem op_inA : OpR X (compareOp .In) (rInA X.K) := OpR.or op_in_sign op_in_seq
theorem op_ninA : OpR X (compareOp .NotIn) (rNInA X.K) := OpR.or op_notIn_sign op_notIn_seq
def rIsNone : R2 := fun x y H Q => y = .non ∧ Q (.bl (decide (x = .non))) H
def rNotNone : R2 := fun x y H Q => y = .non ∧ Q (.bl (!decide (x = .non))) H
theorem op_isNone : OpR X (compareOp .Is) rIsNone := op_isN
theorem op_notNone : OpR X (compareOp .IsNot) rNotNone := op_notN
def rMod : R2 := rI (fun _ j => 0 < j) fun i j => .int (i % j)
def rDivW : R2 := rI CDivW fun i j => .int (i / j)
def rSub_ : R2 := rI0 fun i j => .int (i - j)
def rLt : R2 := rI0 fun i j => .bl (decide (i < j))
def rLe : R2 := rI0 fun i j => .bl (decide (i ≤ j))
def rGt_ : R2 := rI0 fun i j => .bl (decide (j < i))
def rGe_ : R2 := rI0 fun i j => .bl (decide (j ≤ i))
def rPow : R2 := rI CPow fun i j => .int (i ^ j.toNat)
theorem op_modA : OpR X (binaryOp .Mod) rMod := op_mod
theorem op_divA : OpR X (binaryOp .FloorDiv) rDivW := op_fdivW
theorem op_subA : OpR X (binaryOp .Sub) rSub_ := op_sub
theorem op_powA : OpR X (binaryOp .Pow) rPow := op_pow
theorem op_ltA : OpR X (compareOp .Lt) rLt := op_lt
theorem op_leA : OpR X (compareOp .LtE) rLe := op_le
theorem op_gtA : OpR X (compareOp .Gt) rGt_ := op_gt
def rNeg : V → Hp → VK → Prop := rU fun i => .int (-i)
/-! ### built-in calls -/
def cLen (K : PySem.W.Frag) : List V → Hp → VK → Prop := fun xs H Q => ∃ x n, xs = [x] ∧ LenV K x H n ∧ Q (.int n) H
theorem call_lenA : CallR X (.builtin "len") (cLen X.K) := call_len
def cAbs : List V → Hp → VK → Prop := fun xs H Q => ∃ i, xs = [.int i] ∧ Q (.int (if i < 0 then -i else i)) H
theorem call_absA : CallR X (.builtin "abs") cAbs := call_abs
def cInt : List V → Hp → VK → Prop := fun xs H Q => ∃ i, xs = [.int i] ∧ Q (.int i) H
theorem call_intA : CallR X (.type "int") cInt := fun pins s σ H xs us Q I r h => call_int1 pins s σ H xs us Q I r (.inl h)
def cList (K : PySem.W.Frag) : List V → Hp → VK → Prop := fun xs H Q => ∃ p ys, xs = [.ref p] ∧ (SqL K H p ys ∨ SqT K H p ys) ∧ ∀ l, H l = none → Q (.ref l) (upd H l (.lst ys))
theorem call_listA : CallR X (.type "list") (cList X.K) := call_list_of
def cTup (K : PySem.W.Frag) : List V → Hp → VK → Prop := fun xs H Q => ∃ p ys, xs = [.ref p] ∧ ((SqL K H p ys ∧ ∀ l, H l = none → Q (.ref l) (upd H l (.tup ys))) ∨ (SqT K H p ys ∧ Q (.ref p) H))
theorem call_tupA : CallR X (.type "tuple") (cTup X.K) := call_tuple_of
end
/-! ### a def of the top, a method, as they stand -/
structure TD (K : PySem.W.Frag) (mg : Str → Option Value) (x : Str) (st : Stmt) : Prop where
  ex : ∃ f fd, Fun K x x st f fd ∧ mg x = some (.ref f)
/-- .. and what it promises -/
structure Dn (P : Program) (w : World) (K : PySem.W.Frag) (mg : Str → Option Value) (base : Heap) (CX : CXT) (k : Nat) (x : Str) (sp : Sp) : Prop where
  ex : ∃ (f : Addr) (fd : FuncData) (ps : List Str), FnOk P w K mg base CX k f fd ps sp ∧ mg x = some (.ref f) ∧ PySem.W.keepIn K (.ref f) = true ∧ Binds K fd ps []
structure MD (K : PySem.W.Frag) (C : Addr) (m qual : Str) (st : Stmt) : Prop where
  ex : ∃ f fd, Fun K m qual st f fd ∧ Meth K C m f
structure Mn (P : Program) (w : World) (K : PySem.W.Frag) (mg : Str → Option Value) (base : Heap) (CX : CXT) (k : Nat) (C : Addr) (m : Str) (sp : Sp) : Prop where
  ex : ∃ (f : Addr) (fd : FuncData) (ps : List Str), FnOk P w K mg base CX k f fd ps sp ∧ Meth K C m f ∧ Binds K fd ps []
section
variable {P : Program} {w : World} {K : PySem.W.Frag} {mg : Str → Option Value} {base : Heap} {C : Addr} {x m qual : Str} {st : Stmt} {N ps : List Str} {k : Nat} {sp : Sp}
abbrev BindOk (x qual : Str) (st : Stmt) (ps : List Str) : Prop := ∀ (kV doc pm : Value) (an : Option Addr) (cdv ct : Value) (us : List Value), us.length = ps.length → bindArgs (PySem.W.fnOf x qual (defArgs st) (defBody st) (defScope st) .none kV doc pm an cdv ct) ⟨us, []⟩ = pure (ps.zip us)
abbrev Body0 (P : Program) (w : World) (K : PySem.W.Frag) (mg : Str → Option Value) (base : Heap) (qual : Str) (st : Stmt) (N : List Str) (k : Nat) (sp : Sp) : Prop :=
  ∀ (f : Addr) (cdv : Value) (A : Around) (outer : List Env) (s : Shared) (H : Hp) (vs : List V) (Q : VK) (E : XK), Room k (A.deeper (envOfC qual (defScope st) s.heap.objs.size f cdv)) → sp vs H Q E →
      ∃ t, PSs (cxOf CX0 P w K mg base N qual (defScope st) f cdv A outer s H E).nox (defBody st) t ∧ t { nx := fun _ H' => Q .non H', rt := Q } (L2.start N vs) H
abbrev BodyX (P : Program) (w : World) (K : PySem.W.Frag) (mg : Str → Option Value) (base : Heap) (qual : Str) (st : Stmt) (N : List Str) (k : Nat) (sp : Sp) : Prop :=
  ∀ (f : Addr) (cdv : Value) (A : Around) (outer : List Env) (s : Shared) (H : Hp) (vs : List V) (Q : VK) (E : XK), Room k (A.deeper (envOfC qual (defScope st) s.heap.objs.size f cdv)) → sp vs H Q E →
      ∃ t, PSs (cxOf (L2.CX P w) P w K mg base N qual (defScope st) f cdv A outer s H E) (defBody st) t ∧ t { nx := fun _ H' => Q .non H', rt := Q } (L2.start N vs) H
theorem TD.dn (D : TD K mg x st) (S : FnScope N ps (defScope st)) (b : BindOk x x st ps) (len : ∀ vs H Q E, sp vs H Q E → vs.length = ps.length) (body : Body0 P w K mg base x st N k sp) : Dn P w K mg base CX0 (k + 1) x sp :=
  let ⟨f, fd, F, hm⟩ := D.ex
  ⟨f, fd, ps, F.ok S len (body f), hm, F.kp, F.binds b⟩
theorem TD.dx (D : TD K mg x st) (S : FnScope N ps (defScope st)) (b : BindOk x x st ps) (len : ∀ vs H Q E, sp vs H Q E → vs.length = ps.length) (body : BodyX P w K mg base x st N k sp) : Dn P w K mg base (L2.CX P w) (k + 1) x sp :=
  let ⟨f, fd, F, hm⟩ := D.ex
  ⟨f, fd, ps, F.okX S len (body f), hm, F.kp, F.binds b⟩
theorem MD.mn (D : MD K C m qual st) (S : FnScope N ps (defScope st)) (b : BindOk m qual st ps) (len : ∀ vs H Q E, sp vs H Q E → vs.length = ps.length) (body : Body0 P w K mg base qual st N k sp) : Mn P w K mg base CX0 (k + 1) C m sp :=
  let ⟨f, fd, F, hm⟩ := D.ex
  ⟨f, fd, ps, F.ok S len (body f), hm, F.binds b⟩
theorem MD.mx (D : MD K C m qual st) (S : FnScope N ps (defScope st)) (b : BindOk m qual st ps) (len : ∀ vs H Q E, sp vs H Q E → vs.length = ps.length) (body : BodyX P w K mg base qual st N k sp) : Mn P w K mg base (L2.CX P w) (k + 1) C m sp :=
  let ⟨f, fd, F, hm⟩ := D.ex
  ⟨f, fd, ps, F.okX S len (body f), hm, F.binds b⟩
end
section
variable {X : Cx} {CX : CXT} {k j : Nat} {C : Addr} {sp : Sp} {E : XK} {x m : Str} {p pos apos : Pos} {e o : Expr} {es : List Expr} {ta : TE} {t : TA}
/-- f(e, ..) -/
theorem pe_d (d : Dn X.prog X.w X.K X.mg X.base CX k x sp) (hr : Room j X.A) (hk : k ≤ j) (hx : Passes CX X E) (hg : Gl X x) (ha : PA X (e :: es) t) (hdb : (x == ("__debug__" : Str)) = false := by decide)
    (he : starEach (e :: es) X.env = (false, eval e X.env) :: starEach es X.env := by rfl) (hpl : (backTo pos (starEach es X.env)).any (·.1) = false := by rfl) : PE X (.Call (.Name x p) (e :: es) [] pos) (tCall sp [] E t) := by
  obtain ⟨f, fd, ps, F, hm, hkp, hb⟩ := d.ex
  exact pe_call F (hr.mono hk) hg hm hkp hb .nil hx ha hdb he hpl
/-- o.m(e, ..), o.m() -/
theorem pe_m {pl : Sem Bool} (d : Mn X.prog X.w X.K X.mg X.base CX k C m sp) (c : Cls X.K C) (hr : Room j X.A) (hk : k ≤ j) (hx : Passes CX X E) (he : PE X o ta) (ha : PA X (e :: es) t)
    (hst : starEach (e :: es) X.env = (false, eval e X.env) :: starEach es X.env := by rfl) (hpl : (backTo pos (starEach es X.env)).any (·.1) = false := by rfl)
    (ht : eval (.Call (.Attribute o m apos) (e :: es) [] pos) X.env = (do
      let ov ← eval o X.env
      standAt apos.atName
      let (f, first) ← holding [ov] (getMethod ov m pl)
      callWith pos f first (backTo pos (starEach (e :: es) X.env)) (backToKw pos (keywordEach [] X.env))) := by rfl) : PE X (.Call (.Attribute o m apos) (e :: es) [] pos) (tMeth C m sp [] E ta t) := by
  obtain ⟨f, fd, ps, F, hm, hb⟩ := d.ex
  exact pe_meth he c hm F (hr.mono hk) hb .nil hx ha hst hpl ht
theorem pe_m' {pl : Sem Bool} (d : Mn X.prog X.w X.K X.mg X.base CX k C m sp) (c : Cls X.K C) (hr : Room j X.A) (hk : k ≤ j) (hx : Passes CX X E) (he : PE X o ta)
    (ht : eval (.Call (.Attribute o m apos) [] [] pos) X.env = (do
      let ov ← eval o X.env
      standAt apos.atName
      let (f, first) ← holding [ov] (getMethod ov m pl)
      callWith pos f first (backTo pos (starEach [] X.env)) (backToKw pos (keywordEach [] X.env))) := by rfl) : PE X (.Call (.Attribute o m apos) [] [] pos) (tMeth C m sp [] E ta tNil) := by
  obtain ⟨f, fd, ps, F, hm, hb⟩ := d.ex
  exact pe_meth0 he c hm F (hr.mono hk) hb .nil hx ht
/-- C(e, ..) -/
structure Kn (P : Program) (w : World) (K : PySem.W.Frag) (mg : Str → Option Value) (base : Heap) (CX : CXT) (k : Nat) (C : Addr) (x : Str) (sp : Sp) : Prop where
  ex : ∃ (f : Addr) (fd : FuncData) (ps : List Str), FnOk P w K mg base CX k f fd ps sp ∧ Mk K C f ∧ Binds K fd ps [] ∧ mg x = some (.ref C)
theorem pe_k (d : Kn X.prog X.w X.K X.mg X.base CX k C x sp) (hr : Room j X.A) (hk : k + 1 ≤ j) (hx : Passes CX X E) (hg : Gl X x) (ha : PA X (e :: es) t) (hdb : (x == ("__debug__" : Str)) = false := by decide)
    (he : starEach (e :: es) X.env = (false, eval e X.env) :: starEach es X.env := by rfl) (hpl : (backTo pos (starEach es X.env)).any (·.1) = false := by rfl) : PE X (.Call (.Name x p) (e :: es) [] pos) (tMake C sp [] E t) := by
  obtain ⟨f, fd, ps, F, M, hb, hm⟩ := d.ex
  exact pe_make M F (hr.mono hk) hg hm hb .nil hx ha hdb he hpl
end
/-! ### what of the heap is kept -/
/-- all but p is as it was -/
def But (p : Addr) (H H' : Hp) : Prop := ∀ b o, H b = some o → b ≠ p → H' b = some o
theorem Same.but {p : Addr} {H H' : Hp} (s : Same H H') : But p H H' := fun b o e _ => s b o e
theorem But.trans {p : Addr} {H H1 H2 : Hp} (a : But p H H1) (b : But p H1 H2) : But p H H2 := fun c o e n => b c o (a c o e n) n
theorem Same.new {H : Hp} {p : Addr} {o : HO} (h : H p = none) : Same H (upd H p o) := fun b u e => by rw [upd_ne (ne_of_none e h)]; exact e
theorem But.at_ {p : Addr} {H : Hp} {o : HO} : But p H (upd H p o) := fun b u e n => by rw [upd_ne n]; exact e
/-- changed at a place that H does not know -/
theorem Same.put {H H' : Hp} {p : Addr} {o : HO} (s : Same H H') (h : H p = none) : Same H (upd H' p o) := fun b u e => by rw [upd_ne (ne_of_none e h)]; exact s b u e
theorem But.put {q : Addr} {H H' : Hp} {p : Addr} {o : HO} (s : But q H H') (h : H p = none) : But q H (upd H' p o) := fun b u e n => by rw [upd_ne (ne_of_none e h)]; exact s b u e n
theorem Same.sqT {K : PySem.W.Frag} {a : Addr} {H H' : Hp} {xs : List V} (s : Same H H') (h : SqT K H a xs) : SqT K H' a xs := by
  rcases h with (h | ⟨o, h⟩) | h
  · exact .inl (.inl (s _ _ h))
  · exact .inl (.inr ⟨o, s _ _ h⟩)
  · exact .inr h
theorem Same.sqL {K : PySem.W.Frag} {a : Addr} {H H' : Hp} {xs : List V} (s : Same H H') (h : SqL K H a xs) : SqL K H' a xs := Same.seq s h
/-- the pool of drawn ints -/
def Pl (H : Hp) (p : Addr) : Prop := ∃ ns : List Int, H p = some (.lst (ns.map V.int))
theorem Pl.same {H H' : Hp} {p : Addr} (x : Pl H p) (s : Same H H') : Pl H' p := let ⟨ns, e⟩ := x; ⟨ns, s _ _ e⟩
theorem Pl.put {H : Hp} {p q : Addr} {o : HO} (x : Pl H p) (n : p ≠ q) : Pl (upd H q o) p := let ⟨ns, e⟩ := x; ⟨ns, by rw [upd_ne n]; exact e⟩
theorem Pl.ne {H : Hp} {p q : Addr} (x : Pl H p) (h : H q = none) : p ≠ q := let ⟨_, e⟩ := x; ne_of_none e h
theorem But.free {H H' : Hp} {p q : Addr} (s : But p H H') (x : Pl H' p) (h : H' q = none) : H q = none := by
  cases e : H q with
  | none => rfl
  | some o => rw [s q o e (Ne.symm (x.ne h))] at h; cases h
end UL
set_option Elab.async false
set_option linter.all false
set_option maxRecDepth 100000
set_option maxHeartbeats 2000000
/-! readings of the unions at values of known kind -/
namespace UL
open PySem PySem.Spec PyProof.Rows L2
section
variable {X : Cx} {K : PySem.W.Frag} {H : Hp} {Q : VK} {i j : Int} {x y : Str} {a b : Addr}
theorem op_inK (K : PySem.W.Frag) (h : X.K = K) : OpR X (compareOp .In) (rInA K) := h ▸ op_inA
theorem pa_starK (K : PySem.W.Frag) (hK : X.K = K) {e : Expr} {es : List Expr} {p : Pos} {te : TE} {t : TA} (he : PE X e te) (hr : PA X es t) (hs : starEach (.Starred e p :: es) X.env = (true, eval e X.env) :: starEach es X.env := by rfl) : PA X (.Starred e p :: es) (StX.tStar K te t) := hK ▸ StX.pa_star he hr hs
theorem cxK {CX : CXT} {P : Program} {w : World} {mg : Str → Option Value} {base : Heap} {N : List Str} {qual : Str} {scope : Scope} {f : Addr} {cd : Value} {A : Around} {outer : List Env} {s : Shared} {H : Hp} {E : XK} : (cxOf CX P w K mg base N qual scope f cd A outer s H E).K = K := rfl
theorem noxK : (X.nox).K = X.K := rfl
theorem addII : rAddA K (.int i) (.int j) H Q ↔ Q (.int (i + j)) H := by
  simp [rAddA, rI0, rCatA, rCat]
theorem addSS : rAddA K (.str x) (.str y) H Q ↔ (x.length + y.length ≤ sizeLine ∧ Q (.str (x ++ y)) H) := by
  simp [rAddA, rAddS', rI0, rCatA, rCat]
theorem mulII : rMulA K (.int i) (.int j) H Q ↔ (CMul i j ∧ Q (.int (i * j)) H) := by
  simp [rMulA, rI, rMulS, rRepU]
theorem cIntI : cInt [.int i] H Q ↔ Q (.int i) H := by simp [cInt]
theorem cAbsI : cAbs [.int i] H Q ↔ Q (.int (if i < 0 then -i else i)) H := by simp [cAbs]
theorem dpI {d : PyData} : Dp K H (.int i) d ↔ d = .int i := ⟨fun h => by cases h; rfl, fun h => h ▸ .int i⟩
theorem dpS {d : PyData} : Dp K H (.str x) d ↔ d = .str x := ⟨fun h => by cases h; rfl, fun h => h ▸ .str x⟩
theorem eqII : rEqA K (.int i) (.int j) H Q ↔ Q (.bl (decide (i = j))) H := by
  have e : (i == j) = decide (i = j) := rfl
  constructor
  · rintro (⟨_, q⟩ | ⟨d, e', h1, h2, _, _, q⟩)
    · simpa using q
    · rw [dpI] at h1 h2; subst h1 h2; exact q
  · intro q; exact .inl ⟨rfl, by simpa using q⟩
theorem neII : rNeA K (.int i) (.int j) H Q ↔ Q (.bl (!decide (i = j))) H := by
  constructor
  · rintro (⟨_, q⟩ | ⟨d, e', h1, h2, _, _, q⟩)
    · simpa using q
    · rw [dpI] at h1 h2; subst h1 h2; exact q
  · intro q; exact .inl ⟨rfl, by simpa using q⟩
theorem neSS : rNeA K (.str x) (.str y) H Q ↔ Q (.bl (!decide (x = y))) H := by
  have e : (x == y) = decide (x = y) := by rw [Bool.eq_iff_iff]; simp
  constructor
  · rintro (⟨_, q⟩ | ⟨d, e', h1, h2, _, _, q⟩)
    · simpa using q
    · rw [dpS] at h1 h2; subst h1 h2; rw [← e]; exact q
  · intro q; exact .inl ⟨rfl, by simpa using q⟩
/-- an int or a text -/
def fl2 : V → Bool
  | .int _ => true
  | .str x => PyData.strOk x
  | _ => false
def dV : V → PyData
  | .int i => .int i
  | .str x => .str x
  | _ => .none
theorem dV_dp {v : V} (h : fl2 v = true) : Dp K H v (dV v) := by
  cases v <;> first | exact .int _ | exact .str _ | exact nomatch h
theorem dV_all : ∀ {xs : List V}, xs.all fl2 = true → DpAll K H xs (xs.map dV)
  | [], _ => .nil
  | x :: r, h => by
    rw [List.all_cons, Bool.and_eq_true] at h
    exact .cons (dV_dp h.1) (dV_all h.2)
theorem dV_shape : ∀ {xs : List V}, xs.all fl2 = true → PyData.canLayAll0 (xs.map dV) = true ∧ PyData.depthAll (xs.map dV) ≤ 1
  | [], _ => by simp [PyData.canLayAll0, PyData.depthAll]
  | x :: r, h => by
    rw [List.all_cons, Bool.and_eq_true] at h
    have ih := dV_shape (xs := r) h.2
    have h0 : PyData.canLay0 (dV x) = true ∧ PyData.depth (dV x) ≤ 1 := by cases x <;> simp_all [dV, fl2, PyData.canLay0, PyData.depth]
    simp only [List.map_cons, PyData.canLayAll0, PyData.depthAll, h0.1, ih.1, Bool.and_self, true_and]
    omega
theorem dV_eqv : ∀ {xs : List V}, PyData.eqvAll (xs.map dV) (xs.map dV) = true
  | [] => by simp [PyData.eqvAll]
  | x :: r => by
    have ih := dV_eqv (xs := r)
    have h0 : PyData.eqv (dV x) (dV x) = true := by cases x <;> simp [dV, PyData.eqv]
    simp only [List.map_cons, PyData.eqvAll, h0, ih, Bool.and_self]
theorem lst_shape {xs : List V} (hf : xs.all fl2 = true) : SeqAt.shaped (.list (xs.map dV)) = true := by
  have h := dV_shape hf
  have h2 := h.2
  have h1 : PyData.canLay0 (.list (xs.map dV)) = true := by rw [PyData.canLay0]; exact h.1
  have h3 : PyData.depth (.list (xs.map dV)) ≤ 64 := by rw [PyData.depth]; omega
  show (_ && _) = true
  rw [h1, decide_eq_true h3]; rfl
theorem neLL {xs : List V} (hf : xs.all fl2 = true) (ha : SqL K H a xs) (hb : SqL K H b xs) (q : Q (.bl false) H) : rNeA K (.ref a) (.ref b) H Q :=
  .inr ⟨.list (xs.map dV), .list (xs.map dV), .lst ha (dV_all hf), .lst hb (dV_all hf), lst_shape hf, lst_shape hf, by rw [PyData.eqv, dV_eqv]; exact q⟩
/-- xs == [] -/
theorem eqL0 {xs : List V} (hf : xs.all fl2 = true) (ha : SqL K H a xs) (hb : SqL K H b []) (q : Q (.bl (decide (xs = []))) H) : rEqA K (.ref a) (.ref b) H Q :=
  .inr ⟨.list (xs.map dV), .list [], .lst ha (dV_all hf), .lst hb .nil, lst_shape hf, lst_shape (xs := []) rfl, by
    have e : PyData.eqv (.list (xs.map dV)) (.list []) = decide (xs = []) := by cases xs <;> simp [PyData.eqv, PyData.eqvAll]
    rw [e]; exact q⟩
theorem fl2_ints {ns : List Int} : (ns.map V.int).all fl2 = true := by simp [fl2]
/-- isinstance of what is known -/
theorem isiI {t : String} {r : Bool} (hk : PySem.W.kitOne K (.type "int") (.type t) = some r) (q : Q (.bl r) H) : rIsi K [.int i, .ty t] H Q := ⟨_, _, _, _, _, rfl, .ty t, .base (.int i), hk, q⟩
theorem lenL {xs : List V} (h : SqL K H a xs) (q : Q (.int xs.length) H) : cLen K [.ref a] H Q := ⟨_, _, rfl, .inl ⟨xs, h, rfl⟩, q⟩
theorem lenT {xs : List V} (h : SqT K H a xs) (q : Q (.int xs.length) H) : cLen K [.ref a] H Q := ⟨_, _, rfl, .inr ⟨xs, h, rfl⟩, q⟩
theorem lenS (h : x.length ≤ sizeLine) (q : Q (.int x.length) H) : cLen K [.str x] H Q := ⟨_, _, rfl, ⟨h, rfl⟩, q⟩
theorem ixL {xs : List V} {v : V} (h : SqL K H a xs) (e : atI xs i = some v) (q : Q v H) : rIx K (.ref a) (.int i) H Q := .inl ⟨a, xs, i, v, rfl, rfl, h, e, q⟩
theorem ixT {xs : List V} {v : V} (h : SqT K H a xs) (e : atI xs i = some v) (q : Q v H) : rIx K (.ref a) (.int i) H Q := .inr (.inl ⟨a, xs, i, v, rfl, rfl, h, e, q⟩)
theorem ixS {c : Nat} (h : x.length ≤ sizeLine) (e : atI x.cps.toList i = some c) (q : Q (.str ⟨#[c]⟩) H) : rIx K (.str x) (.int i) H Q := .inr (.inr ⟨x, i, c, rfl, rfl, h, e, q⟩)
theorem atN {α : Type} {xs : List α} {n : Nat} {v : α} (h : xs[n]? = some v) : atI xs (n : Int) = some v := by
  obtain ⟨l, _⟩ := List.getElem?_eq_some_iff.mp h
  unfold atI ixN
  rw [if_pos (Int.natCast_nonneg n), if_pos (by omega)]
  exact h
end
end UL
set_option Elab.async false
set_option linter.all false
set_option maxRecDepth 100000
set_option maxHeartbeats 2000000
/-! loops as words that a reading stops at -/
namespace UL
open PySem PySem.Spec PyProof.Rows L2
/-- what a for over J wants -/
def FJ (J : It) (g : TG) (tb : TS) (D : Ends) (σ : L2.St) (H : Hp) : Prop := ∃ W : Nat → Nat → L2.St → Hp → Prop, (∃ m, W 0 m σ H) ∧ ∀ i m σ H, W i m σ H →
  (J.stop i H ∧ D.nx σ H) ∨ (J.go i H ∧ ∃ N : L2.St → Hp → Prop, (∀ σ' H', N σ' H' → ∃ m', m' < m ∧ W (i + 1) m' σ' H') ∧ ∀ x H', J.yld i H x H' → g x σ H' fun σ2 H2 => tb { D with nx := N, ct := N, bk := D.nx } σ2 H2)
theorem tFor_eq {wi : TI} {g : TG} {tb : TS} {D : Ends} {σ : L2.St} {H : Hp} : tFor wi g tb D σ H = wi σ H fun J H1 => FJ J g tb D σ H1 := rfl
/-- what a comprehension over J wants of its list at D -/
def LJ (J : It) (g : TG) (tt : TT) (te : TE) (vs : List Nat) (σ : L2.St) (D : Addr) (Qd : Hp → Prop) (H1 : Hp) : Prop := ∃ W : Nat → Nat → Hp → Prop, (∃ m, W 0 m (upd H1 D (.lst []))) ∧ ∀ i m H, W i m H →
  (J.stop i H ∧ Qd H) ∨ (J.go i H ∧ ∃ Nx : Hp → Prop, (∀ H', Nx H' → ∃ m', m' < m ∧ W (i + 1) m' H') ∧ ∀ x H', J.yld i H x H' → g x (wipe σ vs) H' fun σ2 H2 => wipe σ2 vs = wipe σ vs ∧ tt σ2 H2 fun b H3 =>
    if b = true then te σ2 H3 fun y H4 => ∃ acc, H4 D = some (.lst acc) ∧ acc.length < sizeLine ∧ Nx (upd H4 D (.lst (acc ++ [y]))) else Nx H3)
theorem tLc_eq {wi : TI} {g : TG} {tt : TT} {te : TE} {vs : List Nat} {σ : L2.St} {H : Hp} {Q : VK} : tLc wi g tt te vs σ H Q = wi σ H fun J H1 => ∀ D, H1 D = none → LJ J g tt te vs σ D (fun H2 => Q (.ref D) H2) H1 := rfl
theorem iRng1_eq {ta : TA} {σ : L2.St} {H : Hp} {R : It → Hp → Prop} : iRng1 ta σ H R = ta σ H fun vs H1 => ∃ j : Int, vs = [.int j] ∧ -(2 ^ 62) ≤ j ∧ j < 2 ^ 62 ∧ R (Itr 0 j.toNat) H1 := rfl
section
variable {K : PySem.W.Frag} {J : It} {n : Nat} {G : Hp → Prop} {Y : Nat → Hp → V → Hp → Prop} {g : TG} {tb : TS} {D : Ends} {σ : L2.St} {H : Hp} {a b : Addr} {xs ys : List V} {lo : Int}
theorem FJ.range (Pv : Nat → L2.St → Hp → Prop) (h0 : Pv 0 σ H) (hs : ∀ i σ H, i < n → Pv i σ H → g (.int (lo + i)) σ H fun σ2 H2 => tb { D with nx := Pv (i + 1), ct := Pv (i + 1), bk := D.nx } σ2 H2) (hd : ∀ σ H, Pv n σ H → D.nx σ H) : FJ (Itr lo n) g tb D σ H := for_range Pv h0 hs hd
/-- range(j) -/
theorem FJ.rangeI {j : Int} (Pv : Nat → L2.St → Hp → Prop) (hj : 0 ≤ j) (h0 : Pv 0 σ H) (hs : ∀ (i : Nat) σ H, (i : Int) < j → Pv i σ H → g (.int i) σ H fun σ2 H2 => tb { D with nx := Pv (i + 1), ct := Pv (i + 1), bk := D.nx } σ2 H2) (hd : ∀ σ H, Pv j.toNat σ H → D.nx σ H) : FJ (Itr 0 j.toNat) g tb D σ H :=
  for_range Pv h0 (fun i σ H hi p => by have := hs i σ H (by omega) p; simpa using this) hd
theorem FJ.list (Pv : Nat → L2.St → Hp → Prop) (h0 : Pv 0 σ H) (hl : ∀ i σ H, i ≤ xs.length → Pv i σ H → SqL K H a xs)
    (hs : ∀ i x σ H, xs[i]? = some x → Pv i σ H → g x σ H fun σ2 H2 => tb { D with nx := Pv (i + 1), ct := Pv (i + 1), bk := D.nx } σ2 H2) (hd : ∀ σ H, Pv xs.length σ H → D.nx σ H) : FJ (Itl K a) g tb D σ H := for_list Pv h0 hl hs hd
theorem FJ.tup (Pv : Nat → L2.St → Hp → Prop) (h0 : Pv 0 σ H) (hl : ∀ i σ H, i ≤ xs.length → Pv i σ H → SqT K H a xs)
    (hs : ∀ i x σ H, xs[i]? = some x → Pv i σ H → g x σ H fun σ2 H2 => tb { D with nx := Pv (i + 1), ct := Pv (i + 1), bk := D.nx } σ2 H2) (hd : ∀ σ H, Pv xs.length σ H → D.nx σ H) : FJ (Itt K a) g tb D σ H := for_tup Pv h0 hl hs hd
theorem FJ.zip {k1 k2 : Kd} (hl : xs.length = ys.length) (Pv : Nat → L2.St → Hp → Prop) (h0 : Pv 0 σ H) (hq : ∀ i σ H, Pv i σ H → k1.Sq K H a xs ∧ k2.Sq K H b ys)
    (hs : ∀ (i : Nat) (x y : V) (T : Addr) (σ : L2.St) (H : Hp), xs[i]? = some x → ys[i]? = some y → Pv i σ H → H T = none → g (.ref T) σ (upd H T (.tup [x, y])) fun σ2 H2 => tb { D with nx := Pv (i + 1), ct := Pv (i + 1), bk := D.nx } σ2 H2) (hd : ∀ σ H, Pv xs.length σ H → D.nx σ H) :
    FJ (ItzK k1 k2 K a b) g tb D σ H := for_zipK hl Pv h0 hq hs hd
variable {tt : TT} {te : TE} {vs : List Nat} {D : Addr} {Qd : Hp → Prop} {H1 : Hp}
theorem LJ.it (w : Walk J n G Y) (Pv : Nat → Hp → Prop) (h0 : Pv 0 (upd H1 D (.lst []))) (hG : ∀ i H, i ≤ n → Pv i H → G H)
    (hs : ∀ i x H H', i < n → Pv i H → Y i H x H' → g x (wipe σ vs) H' fun σ2 H2 => wipe σ2 vs = wipe σ vs ∧ tt σ2 H2 fun b H3 =>
      if b = true then te σ2 H3 fun y H4 => ∃ acc, H4 D = some (.lst acc) ∧ acc.length < sizeLine ∧ Pv (i + 1) (upd H4 D (.lst (acc ++ [y]))) else Pv (i + 1) H3) (hd : ∀ H, Pv n H → Qd H) : LJ J g tt te vs σ D Qd H1 := lc_it w Pv h0 hG hs hd
end
/-- the inner loop of a comprehension with two fors -/
def NJ (J1 : It) (g1 : TG) (tt1 : TT) (te : TE) (vs1 : List Nat) (σ2 : L2.St) (D : Addr) (Nx : Hp → Prop) (H4 : Hp) : Prop := ∃ W1 : Nat → Nat → Hp → Prop, (∃ m, W1 0 m H4) ∧ ∀ j k H, W1 j k H →
      (J1.stop j H ∧ Nx H) ∨ (J1.go j H ∧ ∃ Nx1 : Hp → Prop, (∀ H', Nx1 H' → ∃ k', k' < k ∧ W1 (j + 1) k' H') ∧ ∀ x H', J1.yld j H x H' → g1 x (wipe σ2 vs1) H' fun σ3 H5 => wipe σ3 vs1 = wipe σ2 vs1 ∧ tt1 σ3 H5 fun b H6 =>
        if b = true then te σ3 H6 fun y H7 => ∃ acc, H7 D = some (.lst acc) ∧ acc.length < sizeLine ∧ Nx1 (upd H7 D (.lst (acc ++ [y]))) else Nx1 H6)
def LJ2 (J : It) (g : TG) (tt : TT) (wi1 : TI) (g1 : TG) (tt1 : TT) (te : TE) (vs vs1 : List Nat) (σ : L2.St) (D : Addr) (Qd : Hp → Prop) (H1 : Hp) : Prop := ∃ W : Nat → Nat → Hp → Prop, (∃ m, W 0 m (upd H1 D (.lst []))) ∧ ∀ i m H, W i m H →
  (J.stop i H ∧ Qd H) ∨ (J.go i H ∧ ∃ Nx : Hp → Prop, (∀ H', Nx H' → ∃ m', m' < m ∧ W (i + 1) m' H') ∧ ∀ x H', J.yld i H x H' → g x (wipe σ vs) H' fun σ2 H2 => wipe σ2 vs = wipe σ vs ∧ tt σ2 H2 fun b H3 =>
    if b = true then wi1 σ2 H3 fun J1 H4 => NJ J1 g1 tt1 te vs1 σ2 D Nx H4 else Nx H3)
theorem tLc2_eq {wi : TI} {g : TG} {tt : TT} {wi1 : TI} {g1 : TG} {tt1 : TT} {te : TE} {vs vs1 : List Nat} {σ : L2.St} {H : Hp} {Q : VK} :
    tLc2 wi g tt wi1 g1 tt1 te vs vs1 σ H Q = wi σ H fun J H1 => ∀ D, H1 D = none → LJ2 J g tt wi1 g1 tt1 te vs vs1 σ D (fun H2 => Q (.ref D) H2) H1 := rfl
end UL
set_option Elab.async false
set_option linter.all false
set_option maxRecDepth 100000
set_option maxHeartbeats 2000000
/-! a tuple that is known to have no dict: tuple(list), and its methods -/
namespace UL
open PySem PySem.Spec PyProof.Rows L2
section
variable {X : Cx}
/-- of a tuple without a dict -/
def tBMF (r : V → List V → Hp → VK → Prop) (to : TE) (t : TA) : TE := fun σ H Q => to σ H fun x H1 => (∃ p o ys, x = .ref p ∧ H1 p = some (.frz o (.tup ys)) ∧ o.dict = none) ∧ t σ H1 fun xs H2 => r x xs H2 Q
variable {o e : Expr} {es : List Expr} {to : TE} {t : TA} {name : Str} {apos cpos : Pos} {id : String} {r : V → List V → Hp → VK → Prop}
theorem pe_bmF (slot : Slot "tuple" name id) (hty : typeOf (.builtin id) = pure (.type "method_descriptor")) (hm : MtR X id r) (ho : PE X o to) (ha : PA X (e :: es) t)
    (hbase : attributeBase o name X.env (eval o X.env) = eval o X.env := by rfl)
    (hfew : ((backTo cpos (starEach (e :: es) X.env)).all (fun x => !x.1) && (backToKw cpos (keywordEach [] X.env)).all (fun x => x.1.isSome)
      && decide ((e :: es).length + ([] : List Keyword).length + (if ([] : List Keyword).isEmpty then 0 else 1) < 30)) = true := by rfl)
    (hline : (apos.endLine == cpos.line) = true := by rfl) (hs : starEach (e :: es) X.env = (false, eval e X.env) :: starEach es X.env := by rfl) (hplain : (backTo cpos (starEach es X.env)).any (·.1) = false := by rfl) :
    PE X (.Call (.Attribute o name apos) (e :: es) [] cpos) (tBMF r to t) := by
  refine ⟨fun pins s σ H Q I h => ?_⟩
  refine wpAny_Call_method_late hbase hfew hline rfl (thn (ho.run pins s σ H _ I h) fun v s1 ⟨x, H1, I1, r1, ⟨p, ob, ys, ex, hp, hd⟩, q1⟩ => ?_)
  subst ex
  cases r1
  obtain ⟨e1, hl, its, rv, ht⟩ := I1.hok p _ hp
  obtain ⟨o2, e2, hc2, _⟩ := ht
  refine ⟨"tuple", id, PySem.F.plainAttrs_tuple, slot, hty, ⟨o2, e2, hc2⟩, fun a ea => ?_, ?_⟩
  · cases ea; exact ⟨ob, e1, hd⟩
  have hA := ha.run cpos pins s1 σ H1 _ I1 q1
  rw [hs] at hA ⊢
  refine Calls.callWith_builtin (by show (false || (backTo cpos (starEach es X.env)).any (·.1)) = false; rw [hplain] <;> rfl) (Calls.evalArgs_plain ?_)
  exact thn hA fun us s2 ⟨vs, H2, I2, r2, q2⟩ => hm pins s2 σ H2 (.ref p) vs (.ref p) us Q I2 rfl r2 q2
end
end UL
set_option Elab.async false
set_option linter.all false
set_option maxRecDepth 100000
set_option maxHeartbeats 2000000
/-! bundles: own __getitem__, __iter__, a property, a generator method -/
namespace UL
open PySem PySem.Spec PyProof.Rows L2
section
variable {X : Cx} {CX : CXT} {k j : Nat} {C : Addr} {sp : Sp} {spg : SpG} {E : XK} {x m : Str} {p pos apos : Pos} {e o : Expr} {es : List Expr} {ta tb : TE} {t : TA}
theorem gcxK {P : Program} {w : World} {K : PySem.W.Frag} {mg : Str → Option Value} {base : Heap} {N : List Str} {qual : Str} {scope : Scope} {f : Addr} {cd : Value} {A : Around} {outer : List Env} {s : Shared} {H : Hp} {E : XK} {pn : List (Addr × Obj)} : (gcxOf P w K mg base N qual scope f cd A outer s H E pn).K = K := rfl
end
end UL
set_option Elab.async false
set_option linter.all false
set_option maxRecDepth 100000
set_option maxHeartbeats 4000000
/-! super().__init__(x) of an own class over ValueError: the wrapper bound to the instance, at the library's level -/
namespace UV
open PySem PySem.W PySem.Calls PyProof.Rows
abbrev wr : Value := .builtin "ValueError.__init__"
abbrev bv (a : Addr) : Obj := { cls := .type "method-wrapper", dict := none, data := .fields #[wr, .ref a], slots := #[] }
abbrev su (D a C : Addr) : Obj := { cls := .type "super", dict := none, data := .fields #[.ref D, .ref a, .ref C], slots := #[] }
theorem ty_wr : typeOf wr = pure (.type "wrapper_descriptor") := by show builtinType _ = _; rw [builtinType_eq_fast]; kernel_rfl
theorem nm_wr : (kfb_private% "nameAndClass") wr = (pure (("__init__" : Str), Value.type "ValueError") : Sem (Str × Value)) := by kernel_rfl
section
variable {P : Program} {w : World} {M : Model} {A : Around} {E : Value → Shared → Prop} {h : Heap} {g : Array GenState} {d : Drawn} {t : Nat} {os : OsState}
theorem get_wr {a C : Addr} {R : Fin → Shared → Prop} (is : W.Looks M h (isInstance (.ref a) (.type "ValueError")) true) (q : R (.done (.ret (.ref h.objs.size))) ⟨h.push (bv a), g, d, t, os⟩) : wpAny M A (Builtin.«wrapper_descriptor.__get__» ⟨[wr, .ref a, .ref C], []⟩) R E ⟨h, g, d, t, os⟩ := by
  unfold Builtin.«wrapper_descriptor.__get__»
  refine wpAny_bind (wpAny_of_eq (a := (wr, some (.ref a), some (.ref C))) (by first | rfl | kernel_rfl) ?_); show wpAny M A ((kfb_private% "checkInstance") wr (.ref a) >>= fun _ => newFields "method-wrapper" [wr, .ref a] >>= fun r => ret r) R E _
  refine wpAny_bind ?_; show wpAny M A ((kfb_private% "nameAndClass") wr >>= _) _ E _
  refine wpAny_bind (wpAny_of_eq nm_wr ?_); show wpAny M A (isInstance (.ref a) (.type "ValueError") >>= _) _ E _
  exact wpAny_bind (is.at (KFB.if_not rfl (wpAny_pure (wpAny_bind (wpAny_newObj_type (wpAny_pure q))))))
theorem sup_get {so D a C : Addr} {m0 m1 : List Value} {K : Frag} {tk : Tok} {R : Fin → Shared → Prop} (e : h.get? so = some (su D a C)) (no : W.Looks (model P w) h (opaqueClassAbove (.ref C)) none) (mr : W.Looks (model P w) h (mroOf (.ref C)) m0) (cut : (m0.dropWhile (· != .ref D)).drop 1 = m1)
    (X : K.In h) (al : alongIn K "__init__" m1 = some (some wr)) (ne : a ≠ C) (is : W.Looks (model P w) h (isInstance (.ref a) (.type "ValueError")) true) (q : R (.done (.ret (.ref h.objs.size))) ⟨h.push (bv a), g, d, t, os⟩) :
    wpAny (model P w) A (Builtin.«super.__getattribute__» ⟨[.ref so, .str "__init__" tk], []⟩) R E ⟨h, g, d, t, os⟩ := by
  have l1 := ESX.slot_wd.lookup
  have nq : (Value.ref a == Value.ref C) = false := by simp [ne]
  have t1 := ty_wr
  have t2 : Shared.TypeIs ⟨h, g, d, t, os⟩ wr "wrapper_descriptor" := ty_wr
  have dt : (su D a C).data = .fields #[.ref D, .ref a, .ref C] := rfl
  have k0 : (#[.ref D, .ref a, .ref C] : Array Value)[0]? = some (.ref D) := rfl
  have k1 : (#[.ref D, .ref a, .ref C] : Array Value)[1]? = some (.ref a) := rfl
  have k2 : (#[.ref D, .ref a, .ref C] : Array Value)[2]? = some (.ref C) := rfl
  have hn : (("__init__" : Str) == ("__class__" : Str)) = false := by decide
  unfold Builtin.«super.__getattribute__»
  repeat (first | (with_reducible refine wpAny_field e dt k0 ?_) | (with_reducible refine wpAny_field e dt k1 ?_) | (with_reducible refine wpAny_field e dt k2 ?_) | (with_reducible refine ks_wpAny_notOpaque no ?_) | (with_reducible refine Looks.at mr ?_; rw [cut]) | (refine ks_forIn_along X (fun _ _ => rfl) rfl ?_ al) | (with_reducible refine wpAny_call_entry ESX.slot_wd t2 ESX.entry_wd ?_ (ESX.args_wd _ _ _)) | (with_reducible refine get_wr is ?_) | (with_reducible refine ⟨_, rfl, ?_⟩) | (simp only [hn, nq, Bool.or_false, Bool.false_eq_true, if_false]) | wp_step | dsimp only)
  all_goals exact q
theorem sup_meth {so D a C : Addr} {m0 m1 : List Value} {K : Frag} {pl : Sem Bool} {R : Value × List Value → Shared → Prop} (e : h.get? so = some (su D a C)) (no : W.Looks (model P w) h (opaqueClassAbove (.ref C)) none) (mr : W.Looks (model P w) h (mroOf (.ref C)) m0) (cut : (m0.dropWhile (· != .ref D)).drop 1 = m1)
    (X : K.In h) (al : alongIn K "__init__" m1 = some (some wr)) (ne : a ≠ C) (is : W.Looks (model P w) h (isInstance (.ref a) (.type "ValueError")) true) (q : R (.ref h.objs.size, []) ⟨h.push (bv a), g, d, t + 1, os⟩) : wpAny (model P w) A (getMethod (.ref so) "__init__" pl) R E ⟨h, g, d, t, os⟩ := by
  have l1 := F.ks_slot_super_ga.lookup
  have ty : ∀ t', (⟨h, g, d, t', os⟩ : Shared).TypeIs (.ref so) "super" := fun _ => ⟨_, e, rfl⟩
  unfold getMethod
  refine wpAny_bind (wpAny_specialOf (ty _) l1 ?_); show wpAny _ _ (if (Manifest.canonical "super.__getattribute__" != "object.__getattribute__") = true then _ else _) _ _ _
  rw [if_pos F.ks_canon_super_ga]; unfold getAttr getAttrBy
  refine wpAny_bind (wpAny_bind (wpAny_mkText (wpAny_holding (wpAny_bind (wpAny_typeOf (ty _) (wpAny_bind (wpAny_of_eq l1 ?_))))))); show wpAny _ _ (getAttrByItsOwn (.ref so) (.str "__init__" t) (.type "super") (.builtin "super.__getattribute__") true false) _ _ _
  unfold getAttrByItsOwn hookBefore callGetattribute boundAndCalled
  refine wpAny_bind (wpAny_of_eq (show (if onTheHeap (.type "super") then typeLookup (.type "super") "__getattr__" else pure none) = pure none from rfl) (wpAny_bind (wpAny_attempt (wpAny_holding ?_)))); show wpAny _ _ (bindSpecial (.builtin "super.__getattribute__") (.ref so) >>= _) _ _ _
  refine wpAny_bind (wpAny_of_eq (F.ks_slot_super_ga.bind _) (wpAny_mono (Q := fun v s' => v = .ref h.objs.size ∧ s' = ⟨h.push (bv a), g, d, t + 1, os⟩) (E := fun _ _ => False) (wpAny_call_entry F.ks_slot_super_ga (ty _) F.ks_entry_super_ga (sup_get e no mr cut X al ne is ⟨_, rfl, rfl, rfl⟩) (F.ks_gaArgs_super _ _)) (fun v s' hv => ?_) fun _ _ z => z.elim))
  obtain ⟨rfl, rfl⟩ := hv; exact wpAny_pure (wpAny_pure q)
end
section
variable {P : Program} {w : World} {M : Model} {A : Around} {E : Value → Shared → Prop} {s : Shared}
theorem cw0 {pos : Pos} {u a : Addr} {args : List (Bool × Sem Value)} {Q : Value → Shared → Prop} (pl : args.any (·.1) = false)
    (q : wpAny M A (evalArgs (.ref u) true args []) (fun r s₁ => s₁.heap.get? u = some (bv a) ∧ wpAny M A (call (.ref u) ([] ++ r.pos) r.kw) Q E s₁) E s) : wpAny M A (callWith pos (.ref u) [] args []) Q E s := by
  unfold callWith
  refine wpAny_bind (wpAny_holding (wpAny_mono q (fun r s₁ z => wpAny_bind (wpAny_standAt ?_)) fun _ _ x => x)); obtain ⟨o, z⟩ := z
  simp only [pl, List.any_nil, Bool.or_false]
  refine wpAny_bind (m := keeperOf (.ref u)) ?_; unfold keeperOf
  refine wpAny_bind (wpAny_load o ?_); simp only [bv, show (Value.type "method-wrapper" != Value.type "method") = true by decide, show (Value.type "method-wrapper" == Value.type "builtin_function_or_method" || Value.type "method-wrapper" == Value.type "method-wrapper") = true by decide, if_true]
  exact wpAny_pure (wpAny_bind (wpAny_mono z (fun r s₂ hr => wpAny_bind (wpAny_holding (wpAny_point (wpAny_pure hr)))) fun _ _ x => x))
theorem cw_bv {pos : Pos} {u a : Addr} {env : Env} {e : Expr} {es : List Expr} {Q : Value → Shared → Prop} (q : wpAny M A (spliced (backTo pos (starEach (e :: es) env))) (fun vs s₁ => s₁.heap.get? u = some (bv a) ∧ wpAny M A (call (.ref u) vs) Q E s₁) E s)
    (he : starEach (e :: es) env = (false, eval e env) :: starEach es env := by rfl) (pl : (backTo pos (starEach es env)).any (·.1) = false := by rfl) : wpAny M A (callWith pos (.ref u) [] (backTo pos (starEach (e :: es) env)) []) Q E s := by
  rw [he] at q ⊢
  exact cw0 (a := a) (by show (false || (backTo pos (starEach es env)).any (·.1)) = false; rw [pl]; rfl) (evalArgs_plain q)
end
section
variable {P : Program} {w : World} {A : Around} {E : Value → Shared → Prop} {h : Heap} {g : Array GenState} {d : Drawn} {t : Nat} {os : OsState} {nm q : Str} {C N : Addr} {bs bm : List Value} {hdct : Bool} {sn : List Str} {sub : List Value} {ab : Bool} {col : Option Bool} {dd : Option Addr} {k0 k1 k2 k3 k5 : Option Value}
theorem chk_bv (hm : HandSPX.refsVE bm = true) {e : Addr} {oe : Obj} {us : List Value} {Q : Unit → Shared → Prop} (hC : h.get? C = some (excClassObj nm q C N bs bm hdct sn sub ab col dd k0 k1 k2 k3 k5 "ValueError.__new__")) (he : h.get? e = some oe) (hc : oe.cls = .ref C) (z : Q () ⟨h, g, d, t, os⟩) :
    wpAny (model P w) A (checkBoundCall "ValueError.__init__" ⟨.ref e :: us, []⟩) Q E ⟨h, g, d, t, os⟩ := by
  have F := PySem.F.excBase_ValueError
  have f1 := F.noStar
  simp only [checkBoundCall, F.initKind, F.initRow]
  repeat (first | (with_reducible refine wpAny_loadPart_at he ?_; rw [hc]) | with_reducible refine wpAny_loadPart_at hC ?_ | wp_step)
  refine wpAny_onRaise ?_; rw [show ∀ (x y : String) (i : Nat), Bind.check ⟨.positional, "*", "ValueError", .self, [⟨"args", .varPos, false⟩]⟩ x y i (List.map (fun z => z.fst) ({ pos := Value.ref e :: us } : Args).kw) = pure () from fun x y i => check_star_args _ _ _ _ _ _]
  exact wpAny_pure z
theorem call_bv (hm : HandSPX.refsVE bm = true) {u e t0 : Addr} {us : List Value} {Q : Value → Shared → Prop} (hC : h.get? C = some (excClassObj nm q C N bs bm hdct sn sub ab col dd k0 k1 k2 k3 k5 "ValueError.__new__")) (he : h.get? e = some (HandSPX.excO C t0)) (hu : h.get? u = some (bv e)) (hl : us.length ≤ sizeLine)
    (z : ∀ h' t1, (∀ b o, b ≠ e → h.get? b = some o → h'.get? b = some o) → h'.get? e = some (HandSPX.excO C t1) → Q .none ⟨h', g, d, t, os⟩) : wpAny (model P w) A (call (.ref u) us) Q E ⟨h, g, d, t, os⟩ := by
  refine wpAny_call (codeAny_of_tree ?_); show wpAny _ A.in1 (callAny (.ref u) ⟨us, []⟩) _ _ _
  simp only [callAny]; refine wpAny_bind (wpAny_load hu ?_)
  simp only [bv, show (Value.type "method-wrapper" == Value.type "method" || Value.type "method-wrapper" == Value.type "builtin_function_or_method" || Value.type "method-wrapper" == Value.type "method-wrapper") = true by decide, if_true]
  refine W.KFB.if_so (by decide) (wpAny_bind (chk_bv hm hC he rfl (wpAny_bind (wpAny_pure (wpAny_pure ⟨Code.quiet_builtin _ (by decide +kernel), codeAny_builtin F.excBase_ValueError.initEntry ?_⟩)))))
  rw [Around.under_plainId F.excBase_ValueError.init.plain _]
  wp_walk
  refine z _ h.objs.size (fun b o nb ob => (Heap.get?_update_other _ _ (Ne.symm nb)).trans (Heap.get?_push_of_some _ ob)) ?_
  rw [Heap.get?_update_self _ (Heap.get?_push_of_some _ he) rfl] <;> rfl
end
end UV
set_option Elab.async false
set_option linter.all false
set_option maxRecDepth 100000
set_option maxHeartbeats 4000000
/-! super().__init__(x) as the first statement of an exception's __init__, over the layer -/
namespace UV
open PySem PySem.W PySem.Calls PyProof.Rows L2
structure SupF (P : Program) (K : PySem.W.Frag) (mg : Str → Option Value) (C f c cc : Addr) (fd : FuncData) : Prop where
  fn : ∃ oc od osl, K.lookup f = some ⟨oc, od, .func fd, osl⟩
  par : ∃ ar, (fd.params.posonlyargs ++ fd.params.args).head? = some ar ∧ ar.arg = "self"
  code : ∃ ccl cdd vs ccs file tf, K.lookup c = some ⟨ccl, cdd, .fields vs, ccs⟩ ∧ vs[2]? = some (.str file tf) ∧ ((P.main.file : Str) == file) = true
  top : (P.main.scope.names.lookup ("super" : Str)).isSome = false
  cell : ∃ cl cld csl, K.lookup cc = some ⟨cl, cld, .cell (some (.ref C)), csl⟩
  nos : mg "super" = none
  sub : PySem.W.mroIn K C (.ref C) = some true
  op : PySem.W.nsIn K cStatics "thirdparty.any" = some none
  al : PySem.W.ks_superIn K C C "__init__" = some (some wr)
section
variable {X : Cx} {pins : List (Addr × Obj)} {σ : L2.St} {H : Hp} {s : Shared}
theorem pin1 {u : Addr} {o : Obj} (I : Inv X pins σ H s) (e : s.heap.get? u = some o) (n : H u = none) (l : u ≠ X.env.locals) (f : u ∉ X.fs) (d : ∀ v, o.data ≠ .cell v) : Inv X ((u, o) :: pins) σ H s :=
  ⟨I.ok, I.os, I.bare, I.base, I.loc, I.cell, I.free, I.freeC, fun p hp => (List.mem_append.mp hp).elim (fun z => I.pin p (List.mem_append_left _ z)) fun z => (List.mem_cons.mp z).elim (fun w => w ▸ ⟨e, n, l, f, d⟩) fun w => I.pin p (List.mem_append_right _ w), I.hok, I.len⟩
theorem unpin1 {q : Addr × Obj} (I : Inv X (q :: pins) σ H s) : Inv X pins σ H s :=
  ⟨I.ok, I.os, I.bare, I.base, I.loc, I.cell, I.free, I.freeC, fun p hp => (List.mem_append.mp hp).elim (fun z => I.pin p (List.mem_append_left _ z)) fun z => I.pin p (List.mem_append_right _ (List.mem_cons_of_mem _ z)), I.hok, I.len⟩
theorem sup_stmt {C f c cc a : Addr} {fd : FuncData} {body : List Stmt} {e : Expr} {ta : TA} {p0 p1 p2 p3 p4 : Pos} {R : List V → Hp → Prop} {Q : Flow → Shared → Prop} (T : OexC X.K C) (F : SupF X.prog X.K X.mg C f c cc fd)
    (hfu : X.env.func = some f) (hco : X.env.code = .ref c) (hce : X.env.cells.lookup ("__class__" : Str) = some cc) (hks : X.env.kindOf "super" = some .globalImplicit) (hkc : X.env.kindOf "__class__" = some .free) (hka : X.env.kindOf "self" = some .local)
    (hN : X.N[0]? = some ("self" : Str)) (I : Inv X pins σ H s) (h0 : σ[0]? = some (some (.ref a))) (ha : H a = some (exo a C none)) (he : PA X [e] ta) (h : ta σ H fun vs H1 => vs.length ≤ 1000 ∧ H1 a = some (exo a C none) ∧ R vs H1)
    (q : ∀ s' y H1, Inv X pins σ H1 s' → R y H1 → Q .next s') (hi : interactive X.env = false := by rfl) (hs : swapsWith (.Call (.Attribute (.Call (.Name "super" p0) [] [] p1) "__init__" p2) [e] [] p3) none p4.line X.env = pure false := by rfl)
    (hst : starEach [e] X.env = (false, eval e X.env) :: starEach [] X.env := by rfl)
    {pl : Sem Bool} (hev : eval (.Call (.Attribute (.Call (.Name "super" p0) [] [] p1) "__init__" p2) [e] [] p3) X.env = (do
      let ov ← attributeBase (.Call (.Name "super" p0) [] [] p1) "__init__" X.env (eval (.Call (.Name "super" p0) [] [] p1) X.env)
      standAt p2.atName
      let (f, first) ← holding [ov] (getMethod ov "__init__" pl)
      callWith p3 f first (backTo p3 (starEach [e] X.env)) []) := by rfl) :
    _root_.PySem.wpAt (model X.prog X.w) X.A (.func body X.env) (exec (.Expr (.Call (.Attribute (.Call (.Name "super" p0) [] [] p1) "__init__" p2) [e] [] p3) p4) X.env) Q X.xe s := by
  obtain ⟨nm, qn, N, bs, bm, sn, sub, ab, col, dd, k0, k1, k2, k3, k5, hC, hbm⟩ := T.cls
  obtain ⟨oc, od, osl, lf⟩ := F.fn
  obtain ⟨ar, hp, har⟩ := F.par
  obtain ⟨ccl, cdd, vs, ccs, file, tf, lc, hvs, hfile⟩ := F.code
  obtain ⟨cl, cld, csl, lcc⟩ := F.cell
  obtain ⟨mb, hb1, hb2⟩ := I.mod.blt
  refine ks_wpAt_Expr_any (ks_wpAt_MethodCall (pl := pl) (ks_wpAt_super_base hks hkc (by decide) hfu (I.kIn _ _ lf) rfl hp hco (I.kIn _ _ lc) rfl hvs hfile F.top ?_) hev) hi hs
  refine ks_loadName_global I.ok.kind hks (loadGlobal_builtin (by rw [I.ok.glob]; exact I.mod.glob.keeps I.bk) F.nos (by rw [I.ok.blt]; exact hb1.keeps I.bk) ((hb2 _ (by decide)).trans (by decide +kernel)) ⟨rfl, ?_⟩)
  refine wpAny_loadName_free I.ok.kind hkc hce ⟨_, I.kIn _ _ lcc, rfl⟩ ?_
  obtain ⟨ml, hns, hlk⟩ := I.loc
  obtain ⟨u0, ru, lk⟩ := hlk 0 "self" (.ref a) hN h0 (.inl hka)
  obtain rfl : u0 = Value.ref a := ru
  have hv : ml "self" = some (.ref a) := lk.elim (fun z => z.2) fun z => by
    rcases z.1 with y | y <;> · rw [hka] at y; cases y
  rw [har]
  refine wpAny_loadName_local I.ok.kind hka hns hv ?_
  obtain ⟨t1, ho⟩ := exo_at I.hok ha
  have hcl : PySem.W.clsIn X.K C = some { name := nm, bases := bs, mro := .ref C :: bm, ns := N, qualname := qn, hasDict := true, slotNames := sn, subclasses := sub, abstract := ab, collection := col, hasDel := false } := by unfold PySem.W.clsIn; rw [hC] <;> rfl
  have kin := I.kIn
  have hfr := I.hok
  obtain ⟨hp0, g, dr, tk, os⟩ := s
  refine ks_wpAny_isType_cls (kin _ _ hC) rfl ⟨rfl, ks_wpAny_call_super (kin _ _ hC) rfl ho rfl (fun c z => by cases z) (looks_mroIn kin F.sub) fun h1 e1 kp1 => ?_⟩
  have I1 : L2.Inv X pins σ H ⟨h1, g, dr, tk, os⟩ := I.kept (t' := tk) kp1
  have hal : alongIn X.K "__init__" bm = some (some wr) := by
    have z := F.al
    unfold ks_superIn at z
    rw [hcl, Option.bind_some, ESX.drop_own] at z
    exact z
  have J1 : InstAt h1 a (HandSPX.excO C t1) C none := ⟨kp1 _ _ ho, rfl, rfl, trivial⟩
  have hbm2 : HandSPX.refsVE (.ref C :: bm) = true := hbm
  have hve : PySem.W.mroIn X.K C (.type "ValueError") = some true := by
    unfold PySem.W.mroIn
    rw [hcl, Option.bind_some, if_neg (by rw [HandSPX.refsVE_ne hbm2]; decide), HandSPX.refsVE_contains "ValueError" _ hbm2]
    decide +kernel
  have kin1 := I1.kIn
  refine sup_meth e1 (looks_opaque kin1 F.op) ((looks_clsIn kin1 hcl).andThen .now) (ESX.drop_own C bm) kin1 hal (ks_ne kin1 J1 hcl) (J1.type.andThen (looks_mroIn kin1 hve)) ?_
  have eb : (h1.push (bv a)).get? h1.objs.size = some (bv a) := Heap.get?_push_size _ rfl
  have I2 : L2.Inv X pins σ H ⟨h1.push (bv a), g, dr, tk + 1, os⟩ := I1.kept (t' := tk + 1) fun b o z => Heap.get?_push_of_some _ z
  have I3 := pin1 I2 eb (I1.hok.fresh (Nat.le_refl _)) (Nat.ne_of_gt I1.lt) (I1.nofs (Nat.le_refl _)) (fun v z => nomatch z)
  refine cw_bv (a := a) (thn (he.run p3 _ _ σ H _ I3 h) fun us s2 hz => ?_) hst rfl
  obtain ⟨vs2, H1, I4, r4, hl4, ha4, hr4⟩ := hz
  have hu4 := (I4.pin _ (List.mem_append_right _ List.mem_cons_self)).1
  have kin4 := I4.kIn
  obtain ⟨t4, ho4⟩ := exo_at I4.hok ha4
  obtain ⟨hp4, g4, d4, tk4, os4⟩ := s2
  refine ⟨hu4, call_bv hbm (kin4 _ _ hC) ho4 hu4 (by rw [← r4.length, sizeLine_eq]; omega) fun h5 t5 kp5 ho5 => ?_⟩
  have I5 := I4.write (t' := tk4) (x := a) (e := a) (o := exo a C none) (by rw [ha4]; exact True.intro) (.inl rfl) kp5 ⟨_, ho5⟩ (exo_ok ho5)
  rw [UL.upd_self ha4] at I5
  exact q _ vs2 H1 (unpin1 I5) hr4
end
end UV
set_option Elab.async false
set_option linter.all false
set_option maxRecDepth 100000
set_option maxHeartbeats 4000000
/-! an exception's __init__ that begins with super().__init__(x): its promise by its body -/
namespace UV
open PySem PySem.W PySem.Calls PyProof.Rows L2 NdefX
abbrev supSt (e : Expr) (p0 p1 p2 p3 p4 : Pos) : Stmt := .Expr (.Call (.Attribute (.Call (.Name "super" p0) [] [] p1) "__init__" p2) [e] [] p3) p4
section
variable {CX : CXT} {P : Program} {w : World} {K : PySem.W.Frag} {mg : Str → Option Value} {base : Heap} {k : Nat} {f c cc C : Addr} {name qual : Str} {params : Arguments} {e : Expr} {p0 p1 p2 p3 p4 : Pos} {rest : List Stmt} {scope : Scope}
  {kV doc pm ct oc : Value} {an od : Option Addr} {osl : Array (Option Value)} {N ps : List Str} {sp : Sp}
abbrev supNF (name qual : Str) (params : Arguments) (e : Expr) (p0 p1 p2 p3 p4 : Pos) (rest : List Stmt) (scope : Scope) (cc c : Addr) : NF := ⟨name, qual, params, supSt e p0 p1 p2 p3 p4 :: rest, scope, [("__class__", cc)], c⟩
theorem fn_sup (lk : K.lookup f = some ⟨oc, od, .func (fnX name qual params (supSt e p0 p1 p2 p3 p4 :: rest) scope [("__class__", cc)] .none kV doc pm an (.ref c) ct), osl⟩) (hcd : codeIn K (.ref c) qual = true) (S : NScope N ("self" :: ps) ["__class__"] scope) (T : OexC K C)
    (F : SupF P K mg C f c cc (fnX name qual params (supSt e p0 p1 p2 p3 p4 :: rest) scope [("__class__", cc)] .none kV doc pm an (.ref c) ct)) (hks : scope.names.lookup ("super" : Str) = some .globalImplicit) (len : ∀ vs H Q E, sp vs H Q E → vs.length = ("self" :: ps : List Str).length)
    (hbody : ∀ (A : Around) (outer : List Env) (s : Shared) (H : Hp) (vs : List V) (Q : VK) (E : XK), Room k (A.deeper (envF (supNF name qual params e p0 p1 p2 p3 p4 rest scope cc c) f s.heap.objs.size)) → sp vs H Q E →
      ∃ (a : Addr) (ta : TA) (t : TS), vs.head? = some (.ref a) ∧ H a = some (exo a C none) ∧ PA (ncx CX P w K mg base N (supNF name qual params e p0 p1 p2 p3 p4 rest scope cc c) f A outer s H E) [e] ta ∧
        PSs (ncx CX P w K mg base N (supNF name qual params e p0 p1 p2 p3 p4 rest scope cc c) f A outer s H E) rest t ∧
        ta (startF N vs [some (.ref C)]) H fun us H1 => us.length ≤ 1000 ∧ H1 a = some (exo a C none) ∧ t { nx := fun _ H' => Q .non H', rt := Q } (startF N vs [some (.ref C)]) H1)
    (hi : ∀ L, interactive (envF (supNF name qual params e p0 p1 p2 p3 p4 rest scope cc c) f L) = false := by intro _; rfl) (hs : ∀ env, swapsWith (.Call (.Attribute (.Call (.Name "super" p0) [] [] p1) "__init__" p2) [e] [] p3) none p4.line env = pure false := by intro _; rfl)
    (hst : ∀ env, starEach [e] env = (false, eval e env) :: starEach [] env := by intro _; rfl) {pl : Sem Bool} (hev : ∀ env, eval (.Call (.Attribute (.Call (.Name "super" p0) [] [] p1) "__init__" p2) [e] [] p3) env = (do
      let ov ← attributeBase (.Call (.Name "super" p0) [] [] p1) "__init__" env (eval (.Call (.Name "super" p0) [] [] p1) env)
      standAt p2.atName
      let (f, first) ← holding [ov] (getMethod ov "__init__" pl)
      callWith p3 f first (backTo p3 (starEach [e] env)) []) := by intro _; rfl) :
    FnOk P w K mg base CX (k + 1) f (fnX name qual params (supSt e p0 p1 p2 p3 p4 :: rest) scope [("__class__", cc)] .none kV doc pm an (.ref c) ct) ("self" :: ps) sp := by
  refine ⟨len, fun A outer s H args us vs Q E hr e0 hb r hsp => ?_⟩
  have hl := len _ _ _ _ hsp
  have KX : K.In s.heap := e0.mod.kin.keeps fun b o z => (e0.bs b o z).1
  have lim : s.heap.NoLimit := e0.mod.nolimit.keeps fun b o z => (e0.bs b o z).1
  obtain ⟨cl, cld, csl, lcc⟩ := F.cell
  have hcc := e0.bs _ _ (e0.mod.kin _ _ lcc)
  have CA : CellsAt [(("__class__" : Str), cc)] ["__class__"] [some (V.ref C)] s.heap H := by
    have one : ∀ y c', List.lookup y [(("__class__" : Str), cc)] = some c' → c' = cc ∧ y = "__class__" := fun y c' z => by
      by_cases hy : y = "__class__"
      · subst hy; simp at z; exact ⟨z.symm, rfl⟩
      · have : (y == ("__class__" : Str)) = false := by simpa using hy
        simp [List.lookup, this] at z
    refine ⟨rfl, fun y c' z => ?_, fun x y c' zx zy => ?_, fun i y z => ?_⟩
    · obtain ⟨rfl, _⟩ := one y c' z
      exact ⟨hcc.2, _, _, hcc.1, rfl⟩
    · rw [(one x c' zx).2, (one y c' zy).2]
    · cases i with
      | zero =>
        cases z
        exact ⟨cc, by simp [List.lookup], fun v zv => by cases zv; exact ⟨.ref C, rfl, _, hcc.1, rfl⟩⟩
      | succ i => simp at z
  refine codeAny_call_function hr.depth (KX _ _ lk) rfl S.co S.gen rfl (codeRec_of KX hcd) (hb _ _ _ _ ?_)
  refine wpAny_newFunctionEnv S.nocell (fun ⟨n, _⟩ hy => S.par n (List.of_mem_zip hy).1) (fun h₁ hns hsb => ⟨lim.fresh _ hsb, ?_⟩) S.kind
  show codeAny _ _ (.func (supSt e p0 p1 p2 p3 p4 :: rest) (envF (supNF name qual params e p0 p1 p2 p3 p4 rest scope cc c) f s.heap.objs.size)) _ _
  refine ks_codeAny_funcAt ?_
  have kp : ∀ b o, s.heap.get? b = some o → h₁.get? b = some o := fun b o z => hsb.extBut b o (Nat.ne_of_lt (Heap.lt_size z)) (Heap.get?_push_of_some _ z)
  obtain ⟨a, ta, t, hva, ha, pa, ht, hq⟩ := hbody A outer s H vs Q E (hr.deeper _) hsp
  have I : L2.Inv (ncx CX P w K mg base N (supNF name qual params e p0 p1 p2 p3 p4 rest scope cc c) f A outer s H E) [] (startF N vs [some (.ref C)]) H { s with heap := h₁, toks := s.toks + ((("self" : Str) :: ps).zip us).length } := inv_startN S hr.hd e0 hl r CA hns kp
  have hN : N[0]? = some ("self" : Str) := by
    have z := congrArg (fun l : List Str => l[0]?) S.pre
    simp only [List.cons_append, List.getElem?_cons_zero] at z
    rw [List.getElem?_take_of_lt (by simp)] at z
    exact z
  have h0 : (startF N vs [some (V.ref C)])[0]? = some (some (.ref a)) := by
    cases vs with
    | nil => cases hva
    | cons v r => cases hva; rfl
  have hkF : ∀ (x : Str) (nk : NameKind), scope.names.lookup x = some nk → (ncx CX P w K mg base N (supNF name qual params e p0 p1 p2 p3 p4 rest scope cc c) f A outer s H E).env.kindOf x = some nk := fun x nk z => z
  refine ks_wpAt_mono (ks_wpAt_execs_cons (sup_stmt (X := ncx CX P w K mg base N (supNF name qual params e p0 p1 p2 p3 p4 rest scope cc c) f A outer s H E) (R := fun _ H1 => t { nx := fun _ H' => Q .non H', rt := Q } (startF N vs [some (V.ref C)]) H1) T F rfl rfl (by show List.lookup _ [_] = _; simp [List.lookup]) (hkF _ _ hks) (hkF _ _ (S.frk _ List.mem_cons_self)) (hkF _ _ (S.par _ List.mem_cons_self)) hN I h0 ha pa hq
    (fun s' us' H1 I1 h1 => _root_.PySem.wpAt_of_wpAny (ht.run [] s' _ H1 _ I1 h1)) (hi _) (hs _) (hst _) (hev _))) (fun fl s' hs => ?_) fun e s' hs => hs
  have fin : ∀ {σ' : L2.St} {H' : Hp} {v : V} {u : Value}, L2.Inv (ncx CX P w K mg base N (supNF name qual params e p0 p1 p2 p3 p4 rest scope cc c) f A outer s H E) [] σ' H' s' → L2.RelV v u → Q v H' → CE outer P w H s Q u s' :=
    fun {σ' H' v u} J rv q => ⟨v, H', J.os, J.bare, J.base, J.hok, rv, q⟩
  cases fl with
  | next => obtain ⟨σ', H', J, z⟩ := hs; exact fin (v := V.non) (u := Value.none) J rfl z
  | ret u => obtain ⟨v, σ', H', J, rv, z⟩ := hs; exact fin J rv z
  | brk => obtain ⟨_, _, _, z⟩ := hs; exact z.elim
  | cont => obtain ⟨_, _, _, z⟩ := hs; exact z.elim
end
end UV
set_option Elab.async false
set_option linter.all false
set_option maxRecDepth 100000
set_option maxHeartbeats 4000000
/-! isinstance of a caught exception that has a dict; several except clauses, each `as n` -/
namespace UV
open PySem PySem.W PySem.Calls PyProof.Rows L2
/-! ### several except clauses, each `as n` -/
end UV
set_option Elab.async false
set_option linter.all false
set_option maxRecDepth 100000
set_option maxHeartbeats 4000000
/-! calls in a try's body: what is raised is wished for at the caller's slots -/
namespace UV
open PySem PySem.Spec PyProof.Rows L2 UL
end UV
set_option Elab.async false
set_option linter.all false
set_option maxRecDepth 100000
set_option maxHeartbeats 4000000
/-! o.f = v by a property's own setter -/
namespace UW
open PySem PySem.Spec PyProof.Rows L2 UL UV
end UW
set_option Elab.async false
set_option linter.all false
set_option maxRecDepth 100000
set_option maxHeartbeats 4000000
/-! raise C(..) from D(..) -/
namespace UW
open PySem PySem.Spec PyProof.Rows L2 UL UV
end UW
set_option Elab.async false
set_option linter.all false
set_option maxRecDepth 100000
set_option maxHeartbeats 4000000
/-! a def that is handed a caught exception, called in the suite that caught it -/
namespace UW
open PySem PySem.Spec PyProof.Rows L2 UL UV
end UW
set_option Elab.async false
set_option linter.all false
set_option maxRecDepth 100000
set_option maxHeartbeats 4000000
/-! {x} of None; == of flat lists and tuples of ints, texts and None -/
namespace UW
open PySem PySem.Spec PyProof.Rows L2 UL UV
section
variable {X : Cx}
/-- {x}: a text, an int, None -/
def tFmtN (te : TE) : TE := fun σ H Q => te σ H fun x H1 => (∃ y : Str, x = .str y ∧ y.length ≤ sizeLine ∧ Q (.str y) H1) ∨ (∃ i : Int, x = .int i ∧ i.natAbs.log2 < 1920 ∧ Q (.str (toString i)) H1) ∨ (x = .non ∧ Q (.str "None") H1)
end
section
variable {K : PySem.W.Frag} {H : Hp} {Q : VK} {a b : Addr} {xs ys : List V}
def fl3 : V → Bool
  | .int _ => true
  | .str x => PyData.strOk x
  | .non => true
  | _ => false
theorem d3_dp {v : V} (h : fl3 v = true) : Dp K H v (dV v) := by
  cases v <;> first | exact .int _ | exact .str _ | exact .non | exact nomatch h
theorem d3_all : ∀ {xs : List V}, xs.all fl3 = true → DpAll K H xs (xs.map dV)
  | [], _ => .nil
  | x :: r, h => by
    rw [List.all_cons, Bool.and_eq_true] at h
    exact .cons (d3_dp h.1) (d3_all h.2)
theorem d3_shape : ∀ {xs : List V}, xs.all fl3 = true → PyData.canLayAll0 (xs.map dV) = true ∧ PyData.depthAll (xs.map dV) ≤ 1
  | [], _ => by simp [PyData.canLayAll0, PyData.depthAll]
  | x :: r, h => by
    rw [List.all_cons, Bool.and_eq_true] at h
    have ih := d3_shape (xs := r) h.2
    have h0 : PyData.canLay0 (dV x) = true ∧ PyData.depth (dV x) ≤ 1 := by cases x <;> simp_all [dV, fl3, PyData.canLay0, PyData.depth]
    simp only [List.map_cons, PyData.canLayAll0, PyData.depthAll, h0.1, ih.1, Bool.and_self, true_and]
    omega
theorem d3_eq {x y : V} (hx : fl3 x = true) (hy : fl3 y = true) : PyData.eqv (dV x) (dV y) = decide (x = y) := by
  cases x <;> cases y <;> simp_all [fl3, dV, PyData.eqv] <;> rw [Bool.eq_iff_iff] <;> simp
theorem d3_eqAll : ∀ {xs ys : List V}, xs.all fl3 = true → ys.all fl3 = true → PyData.eqvAll (xs.map dV) (ys.map dV) = decide (xs = ys)
  | [], [], _, _ => by simp [PyData.eqvAll]
  | [], _ :: _, _, _ => by simp [PyData.eqvAll]
  | _ :: _, [], _, _ => by simp [PyData.eqvAll]
  | x :: r, y :: t, h1, h2 => by
    rw [List.all_cons, Bool.and_eq_true] at h1 h2
    rw [List.map_cons, List.map_cons, PyData.eqvAll, d3_eq h1.1 h2.1, d3_eqAll h1.2 h2.2, Bool.eq_iff_iff]
    simp
theorem l3_shape {xs : List V} (hf : xs.all fl3 = true) : SeqAt.shaped (.list (xs.map dV)) = true ∧ SeqAt.shaped (.tuple (xs.map dV)) = true := by
  have h := d3_shape hf
  have h2 := h.2
  have h1 : PyData.canLay0 (.list (xs.map dV)) = true := by rw [PyData.canLay0]; exact h.1
  have h3 : PyData.depth (.list (xs.map dV)) ≤ 64 := by rw [PyData.depth]; omega
  have h4 : PyData.canLay0 (.tuple (xs.map dV)) = true := by rw [PyData.canLay0]; exact h.1
  have h5 : PyData.depth (.tuple (xs.map dV)) ≤ 64 := by rw [PyData.depth]; omega
  refine ⟨?_, ?_⟩
  · show (_ && _) = true
    rw [h1, decide_eq_true h3]; rfl
  · show (_ && _) = true
    rw [h4, decide_eq_true h5]; rfl
/-- == and != of two lists, two tuples -/
theorem eqL3 (hx : xs.all fl3 = true) (hy : ys.all fl3 = true) (ha : SqL K H a xs) (hb : SqL K H b ys) (q : Q (.bl (decide (xs = ys))) H) : rEqA K (.ref a) (.ref b) H Q :=
  .inr ⟨_, _, .lst ha (d3_all hx), .lst hb (d3_all hy), (l3_shape hx).1, (l3_shape hy).1, by rw [PyData.eqv, d3_eqAll hx hy]; exact q⟩
theorem neT3 (hx : xs.all fl3 = true) (hy : ys.all fl3 = true) (ha : SqT K H a xs) (hb : SqT K H b ys) (q : Q (.bl (!decide (xs = ys))) H) : rNeA K (.ref a) (.ref b) H Q :=
  .inr ⟨_, _, .tup ha (d3_all hx), .tup hb (d3_all hy), (l3_shape hx).2, (l3_shape hy).2, by rw [PyData.eqv, d3_eqAll hx hy]; exact q⟩
end
end UW
set_option Elab.async false
set_option linter.all false
set_option maxRecDepth 100000
set_option maxHeartbeats 4000000
/-! with an own context manager, whose block may raise -/
namespace UW
open PySem PySem.Spec PyProof.Rows L2 UL UV
section
variable {X : Cx} {tg l : Expr} {tl : TE}
theorem pg_tupK (K : PySem.W.Frag) (n : Nat) {es : List Expr} {k : Nat} {t : TGs} {pos : Pos} (hK : X.K = K) (hc : X.calm = true) (h : PGs X es t) (hn : (assignEach es X.env).length = n := by rfl) (hst : (assignEach es X.env).findIdx? (·.1) = none := by rfl) : PG X (.Tuple es k pos) (gTup K n t) := hK ▸ pg_tup hc h hn hst
end
end UW
set_option Elab.async false
set_option linter.all false
set_option maxRecDepth 100000
set_option maxHeartbeats 4000000
/-! an own exception without arguments: raised, caught, asked for its class -/
namespace UW
open PySem PySem.Spec PyProof.Rows L2 UL UV
section
variable {X : Cx} {pins : List (Addr × Obj)} {σ : L2.St} {H : Hp} {s : Shared} {G : Heap} {a C : Addr} {d : Option Addr}
/-- a tracked record is let go and hidden -/
theorem forget (J : Inv X pins σ H s) (ha : H a = some (exo a C d)) (h0 : X.s_0.heap.get? a = none) (gk : ∀ b, b ≠ a → G.get? b = s.heap.get? b) : Inv X pins σ (del H a) { s with heap := G } := by
  have n0 : ∀ {b : Addr} {o : Obj}, X.s_0.heap.get? b = some o → b ≠ a := fun {b o} z q => by rw [q, h0] at z; cases z
  have nn : ∀ {b : Addr}, H b = none → b ≠ a := fun {b} z q => by rw [q, ha] at z; cases z
  have dn : ∀ {b : Addr}, H b = none → del H a b = none := fun {b} z => by rw [del_ne (nn z)]; exact z
  have ic : ∀ {x c v}, X.env.cells.lookup x = some c → s.heap.IsCell c v → G.IsCell c v := fun {x c v} z q => let ⟨o, e, y⟩ := q; ⟨o, (gk c (nn (J.freeC x c z))).trans e, y⟩
  obtain ⟨m, hn, hl⟩ := J.loc
  refine ⟨J.ok, J.os, J.bare, ⟨fun b o e n hb hx => (gk b (n0 e)).trans (J.base.keep b o e n hb hx), fun b o e n hb hx => let ⟨sl, z⟩ := J.base.slot b o e n hb hx; ⟨sl, (gk b (n0 e)).trans z⟩, fun b o e n hx => dn (J.base.free b o e n hx), fun b o e hx => let ⟨u, z⟩ := J.base.there b o e hx; ⟨u, (gk b (n0 e)).trans z⟩,
      fun b xs e => ?_, fun b o u e => ?_, fun b ps e => ?_⟩, ⟨m, hn.at fun o z => (gk _ (nn J.free)).trans z, fun i x v e1 e2 e3 => ?_⟩, fun x c z => let ⟨v, q⟩ := J.cell x c z; ⟨v, ic z q⟩, dn J.free, fun x c z => dn (J.freeC x c z), fun p hp => let ⟨e, n, l, f, y⟩ := J.pin p hp; ⟨(gk _ (nn n)).trans e, dn n, l, f, y⟩, fun b o z => ?_, J.len⟩
  · have z := J.base.tups b xs e
    rw [del_ne (at_ne ha z exo_tup)]; exact z
  · have z := J.base.frzs b o u e
    rw [del_ne (at_ne ha z exo_frz)]; exact z
  · obtain ⟨more, z⟩ := J.base.tbls b ps e
    exact ⟨more, by rw [del_ne (at_ne ha z exo_tbl)]; exact z⟩
  · obtain ⟨u, ru, lk⟩ := hl i x v e1 e2 e3
    exact ⟨u, ru, lk.elim .inl fun ⟨k, c, ce, q⟩ => .inr ⟨k, c, ce, ic ce q⟩⟩
  · have hb : b ≠ a := fun q => by rw [q, del_same] at z; cases z
    rw [del_ne hb] at z
    refine (J.hok b o z).stay (fun c u hc q => (gk c ?_).trans q) (fun c hc => ?_) fun c xs hc => ?_
    · rcases hc with hc | hc
      · rw [hc]; exact hb
      · exact at_ne ha hc exo_own
    · rw [del_ne (at_ne ha hc exo_own)]; exact hc
    · rw [del_ne (at_ne ha hc exo_tup)]; exact hc
end
section
variable {X : Cx} {C g : Addr} {k j : Nat} {fd : FuncData} {ps : List Str} {sp : Sp} {x : Str} {p pos : Pos}
/-- C(), C's own __init__ keeping sp: the exception has no dict -/
def tMk0 (C : Addr) (sp : Sp) : L2.St → Hp → XK → Prop := fun σ H Q => ∀ a, H a = none → sp [.ref a] (upd H a (exo a C none)) (fun v H2 => v = .non ∧ H2 a = some (exo a C none) ∧ Q (.ref C) none (del H2 a)) E0
theorem made0 (T : OexC X.K C) (fi : PySem.W.findIn X.K (.ref C) "__init__" = some (some (.ref g))) (ty : PySem.W.typeIn X.K (.ref g) = some (.type "function")) (Fn : FnOk X.prog X.w X.K X.mg X.base CX0 k g fd ps sp) (hr : Room j X.A) (hk : k + 1 ≤ j) (B : Binds X.K fd ps [])
    (hex : X.ex = []) (hg : Gl X x) (hm : X.mg x = some (.ref C)) (hdb : (x == ("__debug__" : Str)) = false := by decide) : PMk X (.Call (.Name x p) [] [] pos) (tMk0 C sp) := by
  intro pn z1 sg Ha Qx Ia qa
  obtain ⟨nm, q, N, bs, bm, sn, sub, ab, col, dd, k0, k1, k2, k3, k5, lkC, bmE⟩ := T.cls
  refine wpAny_Call_Name_kw (ld_glob Ia hg hm (PySem.W.callWith_K0 Ia.kIn T.kC ?_) hdb)
  show wpAny _ _ (call (.ref C) []) _ _ _
  have hsz := Ia.sz
  obtain ⟨hz, gz, dz, tz, oz⟩ := z1
  have le1 : hz.objs.size ≤ hz.objs.size + 1 := Nat.le_succ _
  have fresh := Ia.hok.fresh le1
  have want := qa (hz.objs.size + 1) fresh
  have kp : ∀ b o, hz.get? b = some o → ((hz.push (PySem.W.kdv_tup [])).push (PySem.HandSPX.excO C hz.objs.size)).get? b = some o := fun b o e => Heap.get?_push_of_some _ (Heap.get?_push_of_some _ e)
  have at2 : ((hz.push (PySem.W.kdv_tup [])).push (PySem.HandSPX.excO C hz.objs.size)).get? (hz.objs.size + 1) = some (PySem.HandSPX.excO C hz.objs.size) := by heap_get
  have Ib : Inv X pn sg (upd Ha (hz.objs.size + 1) (exo (hz.objs.size + 1) C none)) ⟨((hz.push (PySem.W.kdv_tup [])).push (PySem.HandSPX.excO C hz.objs.size)), gz, dz, tz, oz⟩ := Ia.laid (t' := tz) (a := hz.objs.size + 1) (o := exo (hz.objs.size + 1) C none) (h' := ((hz.push (PySem.W.kdv_tup [])).push (PySem.HandSPX.excO C hz.objs.size))) kp le1 (exo_ok at2)
  have rb : Vals [V.ref (hz.objs.size + 1)] [Value.ref (hz.objs.size + 1)] := .cons rfl .nil
  have lb : ([Value.ref (hz.objs.size + 1)] ++ ([] : List Value)).length = ps.length := by
    rw [List.append_nil, ← rb.length]; exact Fn.len _ _ _ _ want
  have bb := B ⟨((hz.push (PySem.W.kdv_tup [])).push (PySem.HandSPX.excO C hz.objs.size)), gz, dz, tz, oz⟩ [Value.ref (hz.objs.size + 1)] Ib.kIn lb
  rw [List.append_nil] at bb
  refine wpAny_call (PySem.HandSPX.call_own F.excBase_ValueError (fun Y => PySem.HandSPX.refsVE_contains Y bm bmE) (Ia.kIn _ _ lkC) (PySem.W.looks_findIn Ia.kIn fi) (fun self => PySem.W.bind_fn Ia.kIn self ty) (by rw [sizeLine_eq]; simp)
    (codeAny_mono (Fn.run _ X.stack _ _ ⟨[Value.ref (hz.objs.size + 1)], []⟩ [Value.ref (hz.objs.size + 1)] _ _ E0 ((hr.mono hk).make C [] []) (Ib.env0.make C [] []) bb rb want) fun r z3 hq => ?_))
  match r, hq with
  | .error er, hq => exact hq.elim
  | .ok .next, hq | .ok .brk, hq | .ok .cont, hq => exact hq.elim
  | .ok (.ret u), hq =>
    obtain ⟨v, H3, I3, rv, ev, ea, q3⟩ := Ib.after hq
    subst ev
    refine ⟨rv, ?_⟩
    obtain ⟨t0, hoe⟩ := exo_at I3.hok ea
    have s0 : X.s_0.heap.get? (hz.objs.size + 1) = none := by
      cases z : X.s_0.heap.get? (hz.objs.size + 1) with
      | none => rfl
      | some o =>
        exact absurd (Nat.lt_of_lt_of_le (Heap.lt_size z) hsz) (Nat.not_lt.mpr (Nat.le_succ _))
    obtain ⟨G, g1, g2⟩ := restrict z3.heap fun b => decide (b ≠ hz.objs.size + 1)
    have gk : ∀ b, b ≠ hz.objs.size + 1 → G.get? b = z3.heap.get? b := fun b hb => g1 b (decide_eq_true hb)
    have ge : G.get? (hz.objs.size + 1) = none := g2 _ (by simp)
    have I4 := forget I3 ea s0 gk
    refine ⟨hz.objs.size + 1, _, _, { z3 with heap := G }, _, .ref C, none, rfl, I4, fun b o z => ?_, ge, hoe, ⟨rfl, rfl⟩, rfl, rfl, del_same, rfl, I3.bare, raises_own T.exC T.tyC, q3⟩
    have n : b ≠ hz.objs.size + 1 := fun y => by rw [y, ge] at z; cases z
    exact (gk b n).symm.trans z
end
end UW
set_option Elab.async false
set_option linter.all false
set_option maxRecDepth 100000
set_option maxHeartbeats 4000000
/-! match of a list of texts against sequences of words and names, the last one with a star -/
namespace UX
open PySem PySem.Spec PyProof.Rows L2 UL UV UW
/-- an item of a sequence pattern: a word, or a name (by its place among the locals) -/
inductive Itm where
  | wd (c : Str)
  | nm (i : Nat)
def NmOk (X : Cx) (i : Nat) (x : Str) : Prop := X.N[i]? = some x ∧ Loc X.env.scope x ∧ (X.fn x = true ∨ X.env.scope.names.lookup x = some .local)
def ItOk (X : Cx) : Itm → Pattern → Prop
  | .wd c, p => ∃ k q q', p = .MatchValue (.Constant (.str c) k q) q'
  | .nm i, p => ∃ x q, p = .MatchAs none (some x) q ∧ NmOk X i x
inductive ItsOk (X : Cx) : List Itm → List Pattern → Prop
  | nil : ItsOk X [] []
  | cons {i p is ps} : ItOk X i p → ItsOk X is ps → ItsOk X (i :: is) (p :: ps)
/-- what the words bind, or none -/
def mt : List Itm → List Str → Option (List (Nat × V))
  | [], [] => some []
  | .wd c :: r, s :: ss => if s = c then mt r ss else none
  | .nm i :: r, s :: ss => match mt r ss with
    | none => none
    | some bs => some ((i, .str s) :: bs)
  | _, _ => none
def puts (σ : L2.St) : List (Nat × V) → L2.St
  | [] => σ
  | (i, v) :: r => puts (σ.set i (some v)) r
inductive Bds (X : Cx) : List (Nat × V) → List (Str × Value) → Prop
  | nil : Bds X [] []
  | cons {i v x u bs cs} : NmOk X i x → RelV v u → Bds X bs cs → Bds X ((i, v) :: bs) ((x, u) :: cs)
theorem Bds.app {X : Cx} : ∀ {a b : List (Nat × V)} {c d : List (Str × Value)}, Bds X a c → Bds X b d → Bds X (a ++ b) (c ++ d)
  | _, _, _, _, .nil, h => h
  | _, _, _, _, .cons n r t, h => .cons n r (t.app h)
def Res (X : Cx) : Option (List (Nat × V)) → Option (List (Str × Value)) → Prop
  | none, none => True
  | some bs, some cs => Bds X bs cs
  | _, _ => False
section
variable {X : Cx} {pins : List (Addr × Obj)}
theorem each {prog : Program} {w : World} {A : Around} {E : Value → Shared → Prop} {pt : List Pattern} {ut : List Value} {bt : List (Str × Value)} (tail : ∀ (R' : Option (List (Str × Value)) → Shared → Prop) (s' : Shared), R' (some bt) s' → wpAny (model prog w) A (matchEach pt X.env ut) R' E s') :
    ∀ (its : List Itm) {ps : List Pattern} {ws : List Str} {us : List Value} {s : Shared} {R : Option (List (Str × Value)) → Shared → Prop}, ItsOk X its ps → its.length = ws.length → Vals (ws.map V.str) us →
      (∀ tk r, Res X (mt its ws) r → R (r.map (· ++ bt)) { s with toks := tk }) → wpAny (model prog w) A (matchEach (ps ++ pt) X.env (us ++ ut)) R E s
  | [], ps, ws, us, s, R, ok, hl, hv, hR => by
    cases ok
    cases ws with
    | cons _ _ => cases hl
    | nil =>
      cases hv
      exact tail R s (hR s.toks (some []) .nil)
  | .wd c :: its, ps, ws, us, s, R, ok, hl, hv, hR => by
    cases ok with
    | cons hi ht =>
      obtain ⟨k, q, q', rfl⟩ := hi
      cases ws with
      | nil => cases hl
      | cons a ws =>
        cases hv with
        | cons r rs =>
          obtain ⟨t, rfl⟩ := r
          refine wpAny_matchEach_cons (wpAny_matchPattern_Value (wpAny_Constant_str (PyProof.Rows.eq_str (wpAny_truthy_bool ?_))))
          by_cases e : a = c
          · subst e
            rw [beq_self_eq_true, if_pos rfl]
            refine each tail its (s := { s with toks := s.toks + 1 }) ht (Nat.succ.inj hl) rs fun tk r hr => ?_
            have := hR tk r (by show Res X (if a = a then mt its ws else none) r; rw [if_pos rfl]; exact hr)
            cases r with
            | none => exact this
            | some cs => exact this
          · rw [if_neg (by simpa using e)]
            exact hR (s.toks + 1) none (by show Res X (if a = c then mt its ws else none) none; rw [if_neg e]; trivial)
  | .nm i :: its, ps, ws, us, s, R, ok, hl, hv, hR => by
    cases ok with
    | cons hi ht =>
      obtain ⟨x, q, rfl, hn⟩ := hi
      cases ws with
      | nil => cases hl
      | cons a ws =>
        cases hv with
        | cons r rs =>
          refine wpAny_matchEach_cons (wpAny_matchPattern_Capture ?_)
          refine each tail its ht (Nat.succ.inj hl) rs fun tk r' hr => ?_
          cases e : mt its ws with
          | none =>
            rw [e] at hr
            cases r' with
            | none => exact hR tk none (by show Res X (match mt its ws with | none => none | some bs => some ((i, V.str a) :: bs)) none; rw [e]; trivial)
            | some cs => exact hr.elim
          | some bs =>
            rw [e] at hr
            cases r' with
            | none => exact hr.elim
            | some cs => exact hR tk (some ((x, _) :: cs)) (by show Res X (match mt its ws with | none => none | some bs => some ((i, V.str a) :: bs)) _; rw [e]; exact .cons hn r hr)
/-- the names are bound one after another -/
theorem binds {prog : Program} {w : World} {A : Around} {E : Value → Shared → Prop} (hN : X.N.Nodup) : ∀ {bs : List (Nat × V)} {cs : List (Str × Value)} {σ : L2.St} {H : Hp} {s : Shared} {Q : Unit → Shared → Prop}, Bds X bs cs → Inv X pins σ H s → (∀ s', Inv X pins (puts σ bs) H s' → Q () s') →
    wpAny (model prog w) A (assignInOrder (cs.map fun (n, _) => bindName X.env n) (cs.map (·.2))) Q E s
  | _, _, σ, H, s, Q, .nil, I, h => wpAny_assignInOrder_none (h s I)
  | _, _, σ, H, s, Q, .cons hn r t, I, h => by
    refine wpAny_assignInOrder_more (wpAny_bindName (store_ok I hN hn.1 hn.2.1 r (fun s1 I1 => ?_) hn.2.2))
    exact binds hN t I1 h
/-- cases, of a list of texts -/
structure PM (X : Cx) (cs : List MatchCase) (t : List Str → TS) : Prop where
  run : ∀ (pins : List (Addr × Obj)) (s : Shared) (σ : L2.St) (H : Hp) (D : Ends) (p : Addr) (ws : List Str) (b : Bool), Inv X pins σ H s → SqL X.K H p (ws.map V.str) → t ws D σ H → wpAny (model X.prog X.w) X.A (matchCases cs X.env (.ref p) b) (SP X pins D) X.xe s
theorem pm_any {body : List Stmt} {cs : List MatchCase} {q : Pos} {tb : TS} (hb : PSs X body tb) : PM X (⟨.MatchAs none none q, none, body⟩ :: cs) (fun _ => tb) :=
  ⟨fun pins s σ H D p ws b I _ h => wpAny_matchCases_cons (wpAny_matchPattern_Capture (wpAny_assignInOrder_none (hb.run pins s σ H D I h)))⟩
theorem mt_len : ∀ {its : List Itm} {ws : List Str} {bs : List (Nat × V)}, mt its ws = some bs → its.length = ws.length
  | [], [], _, _ => rfl
  | [], _ :: _, _, h => by cases h
  | .wd _ :: _, [], _, h => by cases h
  | .nm _ :: _, [], _, h => by cases h
  | .wd c :: r, a :: ss, bs, h => by
    have h : (if a = c then mt r ss else none) = some bs := h
    by_cases e : a = c
    · rw [if_pos e] at h
      exact congrArg Nat.succ (mt_len h)
    · rw [if_neg e] at h; cases h
  | .nm i :: r, a :: ss, bs, h => by
    have h : (match mt r ss with | none => none | some bs => some ((i, V.str a) :: bs)) = some bs := h
    cases e : mt r ss with
    | none => rw [e] at h; cases h
    | some cs => exact congrArg Nat.succ (mt_len e)
theorem its_len {X : Cx} : ∀ {its : List Itm} {ps : List Pattern}, ItsOk X its ps → its.length = ps.length
  | _, _, .nil => rfl
  | _, _, .cons _ t => congrArg Nat.succ (its_len t)
/-- a sequence without a star -/
def sSeq (its : List Itm) (tb : TS) (tn : List Str → TS) : List Str → TS := fun ws D σ H => match mt its ws with
  | some bs => tb D (puts σ bs) H
  | none => tn ws D σ H
theorem pm_seq {its : List Itm} {ps : List Pattern} {body : List Stmt} {cs : List MatchCase} {q : Pos} {tb : TS} {tn : List Str → TS} (hN : X.N.Nodup) (hc : X.calm = true) (ok : ItsOk X its ps) (hb : PSs X body tb) (hn : PM X cs tn)
    (hst : ps.findIdx? (·.isStar) = none := by rfl) (hw : (ps.all fun p => p.isWildcard || (p.isStar && p.names.isEmpty)) = false := by rfl) : PM X (⟨.MatchSequence ps q, none, body⟩ :: cs) (sSeq its tb tn) := by
  refine ⟨fun pins s σ H D p ws b I hp h => ?_⟩
  obtain ⟨us, rv, pl, hz⟩ := I.list hp
  have lu : ws.length = us.length := by rw [← List.length_map (f := V.str)]; exact rv.length
  have zs : sizeLine < 2 ^ 63 := by rw [sizeLine_eq]; decide
  rw [List.length_map] at hz
  refine wpAny_matchCases_cons (wpAny_matchPattern_Sequence (wpAny_collectionFlag pl.isList.typeIs flag_seq_list ?_) hst hw)
  rw [if_pos rfl]
  refine pyLen_list pl.isList (by simp only [List.size_toArray]; omega) ?_
  have lp := its_len ok
  have no : ∀ {tk : Nat} {hh : Heap}, (∀ b o, s.heap.get? b = some o → hh.get? b = some o) → mt its ws = none → wpAny (model X.prog X.w) X.A (matchCases cs X.env (.ref p) false) (SP X pins D) X.xe { s with heap := hh, toks := tk } := fun {tk hh} k e => by
    have h : (match mt its ws with | some bs => tb D (puts σ bs) H | none => tn ws D σ H) := h
    rw [e] at h
    exact hn.run pins _ σ H D p ws false (I.kept k) hp h
  by_cases e : us.length = ps.length
  · rw [if_neg (by simp [e])]
    have e' : ps.length = us.toArray.size := by rw [List.size_toArray, e]
    rw [e']
    refine PySem.W.kun_itemsOf (I.ok.hd hc) pl.isList fun h' hx => ?_
    have kp : ∀ b o, s.heap.get? b = some o → h'.get? b = some o := fun b o z => hx b o (Nat.ne_of_lt (Heap.lt_size z)) z
    have go := each (X := X) (prog := X.prog) (w := X.w) (A := X.A) (E := X.xe) (pt := []) (ut := []) (bt := []) (fun R' s' z => wpAny_matchEach_nil z) its (ps := ps) (ws := ws) (us := us) (s := { s with heap := h', toks := s.toks + 1 + 1 }) ok (by omega) rv
      (R := fun r s₁ => match r with
        | none => wpAny (model X.prog X.w) X.A (matchCases cs X.env (.ref p) false) (SP X pins D) X.xe s₁
        | some bs => wpAny (model X.prog X.w) X.A (assignInOrder (bs.map fun (n, _) => bindName X.env n) (bs.map (·.2))) (fun _ s₂ => wpAny (model X.prog X.w) X.A (execs body X.env) (SP X pins D) X.xe s₂) X.xe s₁) (fun tk r hr => ?_)
    · rw [List.append_nil, List.append_nil] at go
      exact go
    · have h : (match mt its ws with | some bs => tb D (puts σ bs) H | none => tn ws D σ H) := h
      cases em : mt its ws with
      | none =>
        rw [em] at hr
        cases r with
        | some _ => exact hr.elim
        | none => exact no kp em
      | some bs =>
        rw [em] at hr h
        cases r with
        | none => exact hr.elim
        | some cs' =>
          show wpAny _ _ (assignInOrder ((cs' ++ []).map _) ((cs' ++ []).map _)) _ _ _
          rw [List.append_nil]
          exact binds hN hr (I.kept kp) fun s' I' => hb.run pins s' (puts σ bs) H D I' h
  · have e2 : mt its ws = none := by
      cases em : mt its ws with
      | none => rfl
      | some bs => exact absurd (mt_len em) (by omega)
    rw [if_pos (by simp only [List.size_toArray, bne_iff_ne, ne_eq]; omega)]
    exact no (fun _ _ z => z) e2
theorem unpackS {prog : Program} {w : World} {A : Around} {E : Value → Shared → Prop} {s : Shared} {l : Addr} {items : Array Value} {i : Nat} {Q : List Value → Shared → Prop} (hl : s.heap.IsList l items) (hh : A.handled = none) (hn : i ≤ items.size) (hz : items.size ≤ sizeLine)
    (h : ∀ (h' : Heap) (tk : Nat), (∀ b o, s.heap.get? b = some o → h'.get? b = some o) → Q (items.toList.take i ++ [.ref h'.objs.size]) { s with heap := h'.push { cls := .type "list", data := .seq (items.toList.drop i).toArray }, toks := tk }) : wpAny (model prog w) A (unpackItems (.ref l) (i + 1) (some i)) Q E s := by
  have hl' := hl
  obtain ⟨o0, e0, _⟩ := hl'
  have hlt : l < s.heap.objs.size := Heap.lt_size e0
  have hne : l ≠ s.heap.objs.size := Nat.ne_of_lt hlt
  unfold unpackItems notIterableAtAll
  refine wpAny_bind (wpAny_bind (wpAny_specialOf hl.typeIs slot_list_iter.lookup (wpAny_pure ?_)))
  rw [if_neg (by simp)]
  refine wpAny_bind (wpAny_holding (wpAny_pyIter_list hl (wpAny_bind (wpAny_holding (PySem.W.kun_draw hne i 0 _ _ ⟨_, Heap.get?_push_size _ rfl, rfl, rfl⟩ (hl.push _) (by omega) fun h₁ hit hs => ?_)))))
  rw [Nat.zero_add] at hit
  have L1 : h₁.IsList l items := (hl.push _).extBut hs.extBut hne
  have hit' := hit
  have L1' := L1
  obtain ⟨oi, ei, _⟩ := hit'
  obtain ⟨ol, el, _⟩ := L1'
  rw [List.drop_zero]
  have f1 : (items.toList.take i).length = i := by rw [List.length_take, Array.length_toList]; omega
  rw [f1, if_neg (Nat.lt_irrefl i)]
  refine wpAny_bind (wpAny_holding (PySem.W.kun_collect (s := { s with heap := h₁ }) (T := "list_iterator") (.inr (.inr (.inl rfl))) (PySem.Walks.list (A := A.in1) hh s.heap.objs.size l hne items) (fun j u st => st.1.typeIs) (k := i) hn ⟨hit, L1⟩ (Heap.lt_size ei) (Heap.lt_size el) (fun h₂ tk hk => ?_) hz))
  have z0 : i + 1 - 1 - i = 0 := by omega
  rw [z0]
  show wpAny _ _ (if (items.toList.drop i).length < 0 then _ else _) _ _ _
  rw [if_neg (Nat.not_lt_zero _)]
  show wpAny _ _ (newList ((items.toList.drop i).take ((items.toList.drop i).length - 0)) >>= fun d => pure (items.toList.take i ++ [d] ++ (items.toList.drop i).drop ((items.toList.drop i).length - 0))) _ _ _
  rw [Nat.sub_zero, List.take_length, List.drop_length]
  refine wpAny_bind (wpAny_newList (wpAny_pure ?_) (by rw [List.length_drop, Array.length_toList]; omega))
  rw [List.append_nil]
  exact h h₂ tk fun b o e => hk b o (Nat.ne_of_lt (Heap.lt_size e)) (hs.extBut b o (Nat.ne_of_lt (Heap.lt_size e)) (Heap.get?_push_of_some _ e))
/-- a sequence with a star at its end -/
def sStar (its : List Itm) (i : Nat) (tb : TS) (tn : List Str → TS) : List Str → TS := fun ws D σ H => if its.length ≤ ws.length then (match mt its (ws.take its.length) with
  | some bs => ∀ r, H r = none → tb D (puts σ (bs ++ [(i, .ref r)])) (upd H r (.lst ((ws.drop its.length).map V.str)))
  | none => tn ws D σ H) else tn ws D σ H
theorem pm_star {its : List Itm} {i : Nat} {x : Str} {q' : Pos} {ps : List Pattern} {body : List Stmt} {cs : List MatchCase} {q : Pos} {tb : TS} {tn : List Str → TS} (hN : X.N.Nodup) (hc : X.calm = true) (ok : ItsOk X its ps) (hx : NmOk X i x) (hb : PSs X body tb) (hn : PM X cs tn)
    (h0 : ps.length ≠ 0) (hst : (ps ++ [Pattern.MatchStar (some x) q']).findIdx? (·.isStar) = some ps.length) (hw : ((ps ++ [Pattern.MatchStar (some x) q']).all fun p => p.isWildcard || (p.isStar && p.names.isEmpty)) = false) :
    PM X (⟨.MatchSequence (ps ++ [.MatchStar (some x) q']) q, none, body⟩ :: cs) (sStar its i tb tn) := by
  refine ⟨fun pins s σ H D p ws b I hp h => ?_⟩
  obtain ⟨us, rv, pl, hz⟩ := I.list hp
  have lu : ws.length = us.length := by rw [← List.length_map (f := V.str)]; exact rv.length
  have zs : sizeLine < 2 ^ 63 := by rw [sizeLine_eq]; decide
  rw [List.length_map] at hz
  have lp := its_len ok
  have lps : (ps ++ [Pattern.MatchStar (some x) q']).length = ps.length + 1 := by rw [List.length_append] <;> rfl
  have h : (if its.length ≤ ws.length then (match mt its (ws.take its.length) with | some bs => ∀ r, H r = none → tb D (puts σ (bs ++ [(i, .ref r)])) (upd H r (.lst ((ws.drop its.length).map V.str))) | none => tn ws D σ H) else tn ws D σ H) := h
  by_cases hl : its.length ≤ ws.length
  · rw [if_pos hl] at h
    refine wpAny_matchCases_cons (PySem.W.kun_seqL pl.isList (by simp only [List.size_toArray]; omega) hst hw (by rw [List.getElem?_append_right (Nat.le_refl _), Nat.sub_self] <;> rfl) (by rw [lps]; omega) (by rw [lps]; simp only [List.size_toArray]; omega) ?_)
    rw [lps]
    refine unpackS pl.isList (I.ok.hd hc) (by simp only [List.size_toArray]; omega) (by simp only [List.size_toArray]; omega) fun h' tk kp => ?_
    have tk1 : Vals ((ws.take its.length).map V.str) (us.take ps.length) := by rw [← lp, List.map_take]; exact rv.take _
    have dr1 : Vals ((ws.drop its.length).map V.str) (us.drop ps.length) := by rw [← lp, List.map_drop]; exact rv.drop _
    have I1 : Inv X pins σ H { s with heap := h', toks := tk } := I.kept kp
    show wpAny _ _ (matchEach (ps ++ [Pattern.MatchStar (some x) q']) X.env (us.take ps.length ++ [Value.ref h'.objs.size])) _ _ _
    refine each (X := X) (bt := [(x, Value.ref h'.objs.size)]) (fun R' s' z => PySem.W.kun_each (name := some x) (wpAny_matchEach_nil z)) its ok (by rw [List.length_take]; omega) tk1 fun tk2 r hr => ?_
    cases em : mt its (ws.take its.length) with
    | none =>
      rw [em] at hr h
      cases r with
      | some _ => exact hr.elim
      | none => exact hn.run pins _ σ H D p ws false (I.kept fun b o e => Heap.get?_push_of_some _ (kp b o e)) hp h
    | some bs =>
      rw [em] at hr h
      cases r with
      | none => exact hr.elim
      | some cs' =>
        have hf : H h'.objs.size = none := I1.hok.fresh (Nat.le_refl _)
        have I2 : Inv X pins σ (upd H h'.objs.size (.lst ((ws.drop its.length).map V.str))) { s with heap := h'.push { cls := .type "list", data := .seq (us.drop ps.length).toArray }, toks := tk2 } :=
          I1.laid (t' := tk2) (fun b o e => Heap.get?_push_of_some _ e) (Nat.le_refl _) ⟨by rw [List.length_map, List.length_drop]; omega, _, _, dr1, Heap.get?_push_size _ rfl⟩
        exact binds hN (hr.app (.cons (v := V.ref h'.objs.size) hx rfl .nil)) I2 fun s' I' => hb.run pins s' _ _ D I' (h _ hf)
  · rw [if_neg hl] at h
    refine wpAny_matchCases_cons (PySem.W.kun_fewL pl.isList (by simp only [List.size_toArray]; omega) hst (by rw [lps]; omega) (by rw [lps]; simp only [List.size_toArray]; omega) ?_)
    exact hn.run pins _ σ H D p ws false (I.kept fun _ _ z => z) hp h
/-- match e: .. of a list of texts -/
def sMatch (K : PySem.W.Frag) (te : TE) (tc : List Str → TS) : TS := fun D σ H => te σ H fun x H1 => ∃ p ws, x = .ref p ∧ SqL K H1 p (ws.map V.str) ∧ tc ws D σ H1
theorem ps_match {e : Expr} {cs : List MatchCase} {pos : Pos} {te : TE} {tc : List Str → TS} (he : PE X e te) (hm : PM X cs tc) : PS X (.Match e cs pos) (sMatch X.K te tc) := by
  refine ⟨fun pins s σ H D I h => wpAny_Match (thn (he.run pins s σ H _ I h) fun u s1 ⟨x, H1, I1, r1, p, ws, ex, hp, q⟩ => ?_)⟩
  subst ex
  obtain rfl : u = Value.ref p := r1
  exact hm.run pins s1 σ H1 D p ws true I1 hp q
end
end UX
set_option Elab.async false
set_option linter.all false
set_option maxRecDepth 100000
set_option maxHeartbeats 4000000
/-! C.m(self, ..): a def read off a class; cls(..): the call of a local name that holds a class -/
namespace UX
open PySem PySem.Spec PyProof.Rows L2 UL UV UW ClX
/-- m, read off the class at C, is the def at f -/
structure CFn (K : PySem.W.Frag) (C : Addr) (m : Str) (f : Addr) : Prop where
  at_ : PySem.W.findCls K (.ref C) (.type "type") m = some (.val (.ref f))
  rd : CRead K C (.type "type")
  kp : PySem.W.keepIn K (.ref f) = true
/-- e.m(..), e the class at C, m a def -/
def tBMeth (C : Addr) (sp : Sp) (ta : TE) (t : TA) : TE := fun σ H Q => ta σ H fun x H1 => x = .ref C ∧ t σ H1 fun vs H2 => sp vs H2 Q (fun _ _ _ => False)
/-- cls(..), cls the class at C -/
def tMakeL (i : Nat) (C : Addr) (sp : Sp) (t : TA) : TE := fun σ H Q => σ[i]? = some (some (.ref C)) ∧ t σ H fun vs H1 => ∀ x dx, H1 x = none → H1 dx = none → dx ≠ x → sp (.ref x :: vs) (upd (upd H1 dx (.own x)) x (.ins C dx [])) (fun v H2 => v = .non ∧ Q (.ref x) H2) (fun _ _ _ => False)
section
variable {X : Cx} {k i : Nat} {C f : Addr} {fd : FuncData} {ps : List Str} {sp : Sp} {o e : Expr} {es : List Expr} {m x : Str} {p pos apos : Pos} {ta : TE} {t : TA} {pl : Sem Bool}
theorem pe_bmeth (he : PE X o ta) (c : CFn X.K C m f) (F : FnOk X.prog X.w X.K X.mg X.base (fun _ _ _ _ _ _ => False) k f fd ps sp) (hr : Room k X.A) (hb : Binds X.K fd ps []) (ha : PA X (e :: es) t)
    (hst : starEach (e :: es) X.env = (false, eval e X.env) :: starEach es X.env := by rfl) (hpl : (backTo pos (starEach es X.env)).any (·.1) = false := by rfl)
    (ht : eval (.Call (.Attribute o m apos) (e :: es) [] pos) X.env = (do
      let ov ← eval o X.env
      standAt apos.atName
      let (f, first) ← holding [ov] (getMethod ov m pl)
      callWith pos f first (backTo pos (starEach (e :: es) X.env)) (backToKw pos (keywordEach [] X.env))) := by rfl) :
    PE X (.Call (.Attribute o m apos) (e :: es) [] pos) (tBMeth C sp ta t) := by
  refine ⟨fun pins s σ H Q I h => ?_⟩
  refine PySem.W.methodCall_KW (pl := pl) (thn (he.run pins s σ H _ I h) fun u s1 ⟨x, H1, I1, rx, ex, q⟩ => ?_) ht
  subst ex
  obtain rfl : u = Value.ref C := rx
  refine PySem.W.method_cls I1.kIn c.rd.ga (PySem.W.cls_value I1.kIn c.rd.rd c.at_ (handed_of (v := V.ref f) (u := Value.ref f) rfl) ?_)
  refine PySem.W.callWith_K (first := []) (h₀ := X.base) I.ok.mod.kin c.kp (thn (ha.run pos pins _ σ H1 _ (I1.tok _) q) fun us s2 ⟨vs, H2, I2, r, q2⟩ => ⟨I2.kIn, ?_⟩) hst hpl
  exact run_fn (dvs := []) F hr hb .nil (fun _ _ _ _ _ _ _ z => z.elim) I2 r (by rw [List.append_nil]; exact q2)
theorem pe_makeL (M : Mk X.K C f) (F : FnOk X.prog X.w X.K X.mg X.base (fun _ _ _ _ _ _ => False) k f fd ps sp) (hr : Room (k + 1) X.A) (hN : X.N[i]? = some x) (hv : Vis X.env.scope x) (hb : Binds X.K fd ps []) (ha : PA X (e :: es) t)
    (hdb : (x == ("__debug__" : Str)) = false := by decide) (hcd : (x == ("__classdict__" : Str)) = false := by decide)
    (he : starEach (e :: es) X.env = (false, eval e X.env) :: starEach es X.env := by rfl) (hpl : (backTo pos (starEach es X.env)).any (·.1) = false := by rfl) : PE X (.Call (.Name x p) (e :: es) [] pos) (tMakeL i C sp t) := by
  refine ⟨fun pins s σ H Q I h => ?_⟩
  obtain ⟨hs, ht⟩ := h
  refine wpAny_Call_Name_kw (thn ((pe_var (pos := p) hN hv hdb hcd).run pins s σ H (fun v H1 => v = .ref C ∧ H1 = H) I ⟨.ref C, hs, rfl, rfl⟩) fun u s1 ⟨v, H1, I1, r1, q1⟩ => ?_)
  obtain ⟨rfl, rfl⟩ := q1
  cases r1
  refine PySem.W.callWith_K (h₀ := X.base) I.ok.mod.kin M.kp (thn (ha.run pos pins s1 σ _ _ I1 ht) fun us s2 ⟨vs, H2, I2, r, q⟩ => ⟨I2.kIn, ?_⟩) he hpl
  have q' : ∀ x dx, H2 x = none → H2 dx = none → dx ≠ x → sp (.ref x :: (vs ++ [])) (upd (upd H2 dx (.own x)) x (.ins C dx [])) (fun v H3 => v = .non ∧ Q (.ref x) H3) (fun _ _ _ => False) := fun x dx h1 h2 h3 => by
    rw [List.append_nil]
    exact q x dx h1 h2 h3
  exact run_make (dvs := []) (E := fun _ _ _ => False) M F hr hb .nil (fun _ _ _ _ _ _ _ z => z.elim) I2 r q'
end
end UX
set_option Elab.async false
set_option linter.all false
set_option maxRecDepth 100000
set_option maxHeartbeats 4000000
/-! for n, x in enumerate(list, start=k) -/
namespace UX
open PySem PySem.Spec PyProof.Rows L2 UL UV UW
theorem draws_from {prog : Program} {w : World} {A : Around} {it : Addr} {fp : List Addr} {n : Nat} {P : Nat → Value → Prop} {St : Nat → Heap → Prop} (D : Draws prog w A it fp n P St) (k : Nat) : Draws prog w A it fp (n + k) (fun j v => k ≤ j ∧ P (j - k) v) (fun j h => k ≤ j ∧ St (j - k) h) where
  live := fun _ _ st => D.live _ _ st.2
  frame := fun _ _ _ st hk => ⟨st.1, D.frame _ _ _ st.2 hk⟩
  item := fun j s Q E hj st hQ => D.item (j - k) s Q E (by have := st.1; omega) st.2 fun x h' tk p s1 sb => hQ x h' tk ⟨st.1, p⟩ ⟨by have := st.1; omega, by have := st.1; rw [show j + 1 - k = j - k + 1 by omega]; exact s1⟩ sb
  done := fun s Q E st hE => D.done s Q E (by have := st.2; rw [Nat.add_sub_cancel] at this; exact this) hE
/-- the list at a as it stands at each turn, each item in a new pair, counted from k -/
def IteS (K : PySem.W.Frag) (k : Nat) (a : Addr) : L2.It :=
  ⟨fun i H => ∃ (xs : List V) (x : V), SqL K H a xs ∧ xs[i]? = some x, fun i H v H' => ∃ T x, v = .ref T ∧ H T = none ∧ H' = upd H T (.tup [.int (i + k : Nat), x]) ∧ ∀ xs, SqL K H a xs → xs[i]? = some x, fun i H => ∃ xs : List V, SqL K H a xs ∧ xs.length ≤ i⟩
theorem turn_enumS {P : Program} {w : World} {K : PySem.W.Frag} {elts : List Expr} {kk : Nat} {tpos : Pos} (k : Nat) (a e it : Addr) :
    Turn P w K (.Tuple elts kk tpos) (IteS K k a) [e, it] e (fun i h => (∃ old, IsEnum h e it ((i + k : Nat) : Int) old) ∧ h.IsListIter it a i ∧ e ≠ it ∧ a ≠ it ∧ a ≠ e) where
  mem := by simp
  obj := fun i h st b hb => by
    obtain ⟨⟨old, he⟩, ⟨o, ho, hc, hd⟩, _⟩ := st
    have e' : b = e ∨ b = it := by simpa using hb
    rcases e' with z | z
    · rw [z]; exact ⟨_, he, fun v q => nomatch q⟩
    · rw [z]; exact ⟨o, ho, fun v q => by rw [hd] at q; cases q⟩
  keep := fun i h h' st kp => let ⟨⟨old, he⟩, hi, hne⟩ := st; ⟨⟨old, kp e (by simp) _ he⟩, hi.at fun o q => kp it (by simp) o q, hne⟩
  item := by
    intro X hP hw hK hc i pins s σ H E I hf st hg
    subst hP hw hK
    obtain ⟨⟨old, he⟩, hit, hne, hai, hae⟩ := st
    obtain ⟨xs, x, hq, hx⟩ := hg
    obtain ⟨its, rv, p, hz⟩ := I.list hq
    obtain ⟨u, hu, ru⟩ := rv.get hx
    have hel : e < s.heap.objs.size := Heap.lt_size he
    have hil : it < s.heap.objs.size := by obtain ⟨_, q, _⟩ := hit; exact Heap.lt_size q
    have hix : i < its.toArray.size := by have := (List.getElem?_eq_some_iff.mp hu).1; simpa using this
    have D := draws_from (Draws.list (prog := X.prog) (w := X.w) (A := X.A.in1) (I.ok.hd hc) it a hai its.toArray) k
    refine wpAny_pyNext_enum_itemD (i := i + k) D he ⟨by omega, by rw [Nat.add_sub_cancel]; exact ⟨hit, p.isList⟩⟩ (by omega) hne (by simp only [List.mem_cons, List.not_mem_nil, or_false]; exact fun z => z.elim hne fun z => hae z.symm) fun x' h' tk px ho hst hT hsz hk => ?_
    have hxu : x' = u := by
      have z := px.2
      rw [Nat.add_sub_cancel] at z
      have z2 : its[i]? = some x' := by simpa using z
      exact Option.some.inj (z2.symm.trans hu)
    subst hxu
    have hit' : h'.IsListIter it a (i + 1) := by
      have z := hst.2.1
      rw [show i + k + 1 - k = i + 1 by omega] at z
      exact z
    refine ⟨_, rfl, wpAny_letOwnedTupleGo_enum (s := { s with heap := h', toks := tk + 1 }) ho fun h'' he' sb => ?_⟩
    have hT2 : h''.get? s.heap.objs.size = some { cls := .type "tuple", data := .seq #[.int (i + k : Nat) tk, x'] } := (sb.2 _ (Nat.ne_of_gt hel)).trans hT
    have new : ObjOk X.prog X.w (upd H s.heap.objs.size (.tup [.int (i + k : Nat), x])) h'' s.heap.objs.size (.tup [.int (i + k : Nat), x]) :=
      ⟨by show 2 ≤ sizeLine; decide, [.int (i + k : Nat) tk, x'], .cons ⟨_, rfl⟩ (.cons ru .nil), ⟨_, hT2, rfl, _, rfl⟩⟩
    have I1 : Inv X pins σ (upd H s.heap.objs.size (.tup [.int (i + k : Nat), x])) { s with heap := h'', toks := tk + 1 } :=
      I.turnedNew (ch := [e, it]) (fun b ob hb q => (sb.2 b (fun z => hb (by simp [z]))).trans (hk b ob (fun z => hb (by simp [z])) (fun z => hb (by simp [z])) q)) hf (Nat.le_refl _) new
    refine ⟨.ref s.heap.objs.size, _, I1, rfl, ⟨_, x, rfl, I.hok.fresh (Nat.le_refl _), rfl, fun ys hy => by rw [I.list_inj hy hq]; exact hx⟩, ⟨⟨x', ?_⟩, hit'.at fun o q => (sb.2 it (Ne.symm hne)).trans q, hne, hai, hae⟩, fun b hb => ?_⟩
    · have e1 : ((i + 1 + k : Nat) : Int) = ((i + k : Nat) : Int) + 1 := by omega
      rw [e1]; exact he'
    · have hb' : b < s.heap.objs.size := by
        have e' : b = e ∨ b = it := by simpa using hb
        rcases e' with z | z
        · rw [z]; exact hel
        · rw [z]; exact hil
      rw [upd_ne (Nat.ne_of_lt hb')]
      exact (hf b hb).1
  done := by
    intro X hP hw hK hc i pins s σ H E I hf st hg
    subst hP hw hK
    obtain ⟨⟨old, he⟩, hit, hne, hai, hae⟩ := st
    obtain ⟨xs, hq, hx⟩ := hg
    obtain ⟨its, rv, p, hz⟩ := I.list hq
    obtain ⟨f0, f1, f2, f3, f4, f5⟩ := hf it (by simp)
    have hl := rv.length
    have D : Draws X.prog X.w X.A.in1 it [it, a] (i + k) (fun _ _ => False) (fun j h => j = i + k ∧ h.IsListIter it a i ∧ h.IsList a its.toArray) := {
      live := fun _ _ st => let ⟨o, ho, _⟩ := st.2.1; ⟨o, ho⟩
      frame := fun _ _ _ st kp => ⟨st.1, st.2.1.at fun o q => kp it (by simp) o q, st.2.2.at fun o q => kp a (by simp) o q⟩
      item := fun j s Q E hj st hQ => absurd st.1 (Nat.ne_of_lt hj)
      done := fun s Q E st hE => wpAny_nextOf_list_end (I.ok.hd hc) st.2.1 st.2.2 (by simp; omega) hE }
    exact wpAny_pyNext_enum_endD D he ⟨rfl, hit, p.isList⟩ fun h' eb => ⟨rfl, I.turned (t' := s.toks) (fun b o hb q => eb b o hb q) f0 f1 f3 f4 f5⟩
  self := fun A i s Q E st h => let ⟨⟨_, he⟩, _⟩ := st; wpAny_pyIter_enum he h
theorem cw_typeK {M : Model} {A : Around} {E : Value → Shared → Prop} {s : Shared} {pos : Pos} {T : String} {args : List (Bool × Sem Value)} {kws : List (Option Str × Sem Value)} {Q : Value → Shared → Prop} (hp : (args.any (·.1) || kws.any (·.1.isNone)) = false)
    (h : wpAny M A (evalArgs (.type T) true args kws) (fun a s₁ => wpAny M A (call (.type T) ([] ++ a.pos) a.kw) Q E s₁) E s) : wpAny M A (callWith pos (.type T) [] args kws) Q E s := by
  unfold callWith
  refine wpAny_bind (wpAny_holding (wpAny_mono h (fun a s₁ h₁ => wpAny_bind (wpAny_standAt ?_)) fun _ _ z => z))
  simp only [hp]
  exact wpAny_bind (wpAny_pure (wpAny_bind (wpAny_mono h₁ (fun r s₂ hr => wpAny_bind (wpAny_holding (wpAny_point (wpAny_pure hr)))) fun _ _ z => z)))
def iEnumS (K : PySem.W.Frag) (k : Nat) (ta : TA) : TI := fun σ H R => ta σ H fun vs H1 => ∃ a xs, vs = [.ref a] ∧ SqL K H1 a xs ∧ R (IteS K k a) H1
theorem pi_enumS {X : Cx} {e : Expr} {ta : TA} {p pos tpos cpos kpos : Pos} {elts : List Expr} {kk ck k : Nat} (hk : (k : Int) < 2 ^ 63) (hg : Gl X "enumerate") (hm : X.mg "enumerate" = none) (ha : PA X [e] ta)
    (hs : starEach [e] X.env = [(false, eval e X.env)] := by rfl) : PI X (.Tuple elts kk tpos) (.Call (.Name "enumerate" p) [e] [⟨some "start", .Constant (.int k) ck cpos, kpos⟩] pos) (iEnumS X.K k ta) := by
  refine ⟨fun pins s σ H R I h => ?_⟩
  refine wpAny_Call_Name_kw (ld_blt I hg hm boot_enumerate ?_)
  refine cw_typeK (by rw [hs]; rfl) (evalArgs_kw2 rfl (thn (ha.run pos pins s σ H _ I h) fun us s1 ⟨vs, H1, I1, r1, q1⟩ => ?_) hs)
  refine thn ((pk_cons (nm := some "start") (kpos := kpos) (pe_int (X := X) (i := (k : Int)) (j := ck) (pos := cpos)) pk_nil).run pos pins s1 σ H1 (fun zs H2 => zs = [.int k] ∧ H2 = H1) I1 (show _ ∧ _ from ⟨rfl, rfl⟩)) fun ws s2 ⟨zs, H2, I2, rz, e1, e2⟩ => ?_
  subst e1 e2
  obtain ⟨a, xs, ev, hq, q⟩ := q1
  subst ev
  obtain rfl := Vals.ref1 r1
  cases rz with
  | cons rk rn =>
    cases rn
    obtain ⟨tk, rfl⟩ := rk
    obtain ⟨its, rv, pl, hz⟩ := I2.list hq
    refine enum_begins_start (begins_list a its.toArray) pl.isList (by omega) hk fun h' he hit hsz hkp => wpAny_pyIter_enum he ?_
    have hlt : a < s2.heap.objs.size := by obtain ⟨o, z, _⟩ := pl.isList; exact Heap.lt_size z
    have I3 : Inv X pins σ H2 { s2 with heap := h' } := I2.kept (t' := s2.toks) hkp
    refine ⟨s2.heap.objs.size + 1, [s2.heap.objs.size + 1, s2.heap.objs.size], _, _, H2, rfl, I3, turn_enumS k a (s2.heap.objs.size + 1) s2.heap.objs.size, ⟨⟨.none, by rw [Nat.zero_add]; exact he⟩, ⟨_, hit, rfl, rfl⟩, Nat.succ_ne_self _, Nat.ne_of_lt hlt, Nat.ne_of_lt (Nat.lt_succ_of_lt hlt)⟩, fun b hb => ?_, q⟩
    have hle : s2.heap.objs.size ≤ b := by
      have e' : b = s2.heap.objs.size + 1 ∨ b = s2.heap.objs.size := by simpa using hb
      rcases e' with z | z
      · rw [z]; exact Nat.le_add_right _ _
      · rw [z]; exact Nat.le_refl _
    exact I2.fpOk hle (I2.hok.fresh hle)
theorem walk_enumS {K : PySem.W.Frag} {k : Nat} {a : Addr} {xs : List V} : L2.Walk (IteS K k a) xs.length (fun H => SqL K H a xs) (L2.YPair (fun i => some (.int (i + k : Nat))) (fun i => xs[i]?)) := by
  refine ⟨fun i _ hi q => ⟨xs, xs[i], q, by simp [hi]⟩, fun _ q => ⟨xs, q, Nat.le_refl _⟩, fun i H v H' _ q y => ?_⟩
  obtain ⟨T, x, h1, h2, h3, h4⟩ := y
  exact ⟨T, .int (i + k : Nat), x, h1, h2, h3, rfl, h4 xs q⟩
end UX
set_option Elab.async false
set_option linter.all false
set_option maxRecDepth 100000
set_option maxHeartbeats 4000000
/-! a base's def called by its class's name; a method of one of several classes; a classmethod by its promise -/
namespace UX
open PySem PySem.Spec PyProof.Rows L2 UL UV UW ClX
/-- C.m(self, ..) -/
structure Bn (P : Program) (w : World) (K : PySem.W.Frag) (mg : Str → Option Value) (base : Heap) (k : Nat) (C : Addr) (x m : Str) (sp : Sp) : Prop where
  ex : ∃ (f : Addr) (fd : FuncData) (ps : List Str), FnOk P w K mg base CX0 k f fd ps sp ∧ CFn K C m f ∧ Binds K fd ps [] ∧ mg x = some (.ref C)
/-- C.m(..), m a classmethod -/
structure CMn (P : Program) (w : World) (K : PySem.W.Frag) (mg : Str → Option Value) (base : Heap) (k : Nat) (C : Addr) (x m : Str) (sp : Sp) : Prop where
  ex : ∃ (q g : Addr) (mc : Value), CRead K C mc ∧ CMet K C mc m q g ∧ FnR P w K mg base CX0 k g sp ∧ mg x = some (.ref C)
def tBC (sp : Sp) (t : TA) : TE := fun σ H Q => t σ H fun vs H2 => sp vs H2 Q (fun _ _ _ => False)
/-- the i-th slot holds an object of one of the classes -/
def tMethA (i : Nat) (m : Str) (S : Addr → Sp → Prop) : TE := fun σ H Q => ∃ C sp, S C sp ∧ tMeth C m sp [] (fun _ _ _ => False) (tVar i) tNil σ H Q
section
variable {X : Cx} {k j i : Nat} {C : Addr} {sp : Sp} {e : Expr} {es : List Expr} {m x : Str} {p pos apos : Pos} {t : TA} {pl : Sem Bool}
theorem pe_b (d : Bn X.prog X.w X.K X.mg X.base k C x m sp) (hr : Room j X.A) (hk : k ≤ j) (hg : Gl X x) (ha : PA X (e :: es) t) (hdb : (x == ("__debug__" : Str)) = false := by decide)
    (hst : starEach (e :: es) X.env = (false, eval e X.env) :: starEach es X.env := by rfl) (hpl : (backTo pos (starEach es X.env)).any (·.1) = false := by rfl)
    (ht : eval (.Call (.Attribute (.Name x p) m apos) (e :: es) [] pos) X.env = (do
      let ov ← eval (.Name x p) X.env
      standAt apos.atName
      let (f, first) ← holding [ov] (getMethod ov m pl)
      callWith pos f first (backTo pos (starEach (e :: es) X.env)) (backToKw pos (keywordEach [] X.env))) := by rfl) : PE X (.Call (.Attribute (.Name x p) m apos) (e :: es) [] pos) (tBC sp t) := by
  obtain ⟨f, fd, ps, F, c, hb, hm⟩ := d.ex
  have g : PE X (.Name x p) (tC (.ref C)) := C8.pe_gc (v := .ref C) hg ⟨_, hm, rfl⟩ hdb
  refine ⟨fun pins s σ H Q I h => ?_⟩
  exact (pe_bmeth (pl := pl) g c F (hr.mono hk) hb ha hst hpl ht).run pins s σ H Q I ⟨rfl, h⟩
theorem pe_cm (d : CMn X.prog X.w X.K X.mg X.base k C x m sp) (hr : Room j X.A) (hk : k ≤ j) (hg : Gl X x) (ha : PA X (e :: es) t) (hdb : (x == ("__debug__" : Str)) = false := by decide)
    (hst : starEach (e :: es) X.env = (false, eval e X.env) :: starEach es X.env := by rfl) (hpl : (backTo pos (starEach es X.env)).any (·.1) = false := by rfl)
    (ht : eval (.Call (.Attribute (.Name x p) m apos) (e :: es) [] pos) X.env = (do
      let ov ← eval (.Name x p) X.env
      standAt apos.atName
      let (f, first) ← holding [ov] (getMethod ov m pl)
      callWith pos f first (backTo pos (starEach (e :: es) X.env)) (backToKw pos (keywordEach [] X.env))) := by rfl) : PE X (.Call (.Attribute (.Name x p) m apos) (e :: es) [] pos) (tBC (fun vs H Q E => sp (.ref C :: vs) H Q E) t) := by
  obtain ⟨q, g, mc, r, c, F, hm⟩ := d.ex
  have gl : PE X (.Name x p) (tC (.ref C)) := C8.pe_gc (v := .ref C) hg ⟨_, hm, rfl⟩ hdb
  refine ⟨fun pins s σ H Q I h => ?_⟩
  exact (pe_cmeth (pl := pl) (E := fun _ _ _ => False) gl r c F (hr.mono hk) (fun _ _ _ _ _ _ _ z => z.elim) ha hst hpl ht).run pins s σ H Q I ⟨rfl, h⟩
theorem pe_mA {S : Addr → Sp → Prop} (A : ∀ C sp, S C sp → Mn X.prog X.w X.K X.mg X.base CX0 k C m sp ∧ Cls X.K C) (hr : Room j X.A) (hk : k ≤ j) (he : PE X (.Name x p) (tVar i))
    (ht : eval (.Call (.Attribute (.Name x p) m apos) [] [] pos) X.env = (do
      let ov ← eval (.Name x p) X.env
      standAt apos.atName
      let (f, first) ← holding [ov] (getMethod ov m pl)
      callWith pos f first (backTo pos (starEach [] X.env)) (backToKw pos (keywordEach [] X.env))) := by rfl) : PE X (.Call (.Attribute (.Name x p) m apos) [] [] pos) (tMethA i m S) := by
  refine ⟨fun pins s σ H Q I h => ?_⟩
  obtain ⟨C, sp, hS, h⟩ := h
  obtain ⟨d, c⟩ := A C sp hS
  exact (pe_m' (pl := pl) (E := fun _ _ _ => False) d c hr hk (fun _ _ _ _ _ _ _ z => z.elim) he ht).run pins s σ H Q I h
theorem pe_makeLK {x0 : Str} (d : Kn X.prog X.w X.K X.mg X.base CX0 k C x0 sp) (hr : Room j X.A) (hk : k + 1 ≤ j) (hN : X.N[i]? = some x) (hv : Vis X.env.scope x) (ha : PA X (e :: es) t) (hdb : (x == ("__debug__" : Str)) = false := by decide) (hcd : (x == ("__classdict__" : Str)) = false := by decide)
    (he : starEach (e :: es) X.env = (false, eval e X.env) :: starEach es X.env := by rfl) (hpl : (backTo pos (starEach es X.env)).any (·.1) = false := by rfl) : PE X (.Call (.Name x p) (e :: es) [] pos) (tMakeL i C sp t) := by
  obtain ⟨f, fd, ps, F, M, hb, hm⟩ := d.ex
  exact pe_makeL M F (hr.mono hk) hN hv hb ha hdb hcd he hpl
theorem pm_starL {its : List Itm} {i : Nat} {x : Str} {q' q : Pos} {qs : List Pattern} {body : List Stmt} {cs : List MatchCase} {tb : TS} {tn : List Str → TS} (hN : X.N.Nodup) (hc : X.calm = true) (hq : qs = qs.dropLast ++ [Pattern.MatchStar (some x) q']) (ok : ItsOk X its qs.dropLast) (hx : NmOk X i x)
    (hb : PSs X body tb) (hn : PM X cs tn) (h0 : qs.dropLast.length ≠ 0) (hst : (qs.dropLast ++ [Pattern.MatchStar (some x) q']).findIdx? (·.isStar) = some qs.dropLast.length)
    (hw : ((qs.dropLast ++ [Pattern.MatchStar (some x) q']).all fun p => p.isWildcard || (p.isStar && p.names.isEmpty)) = false) : PM X (⟨.MatchSequence qs q, none, body⟩ :: cs) (sStar its i tb tn) := by
  rw [hq]
  exact pm_star hN hc ok hx hb hn h0 hst hw
end
section
variable {X : Cx}
/-- a tuple as tuple(..) lays it: no dict, no slots -/
def FT (H : Hp) (a : Addr) (xs : List V) : Prop := ∃ o, H a = some (.frz o (.tup xs)) ∧ o.dict = none ∧ o.slots = #[]
def cTupG (K : PySem.W.Frag) : List V → Hp → VK → Prop := fun xs H Q => ∃ p ys, xs = [.ref p] ∧ ((SqL K H p ys ∧ ∀ l o, H l = none → o.dict = none → o.slots = #[] → Q (.ref l) (upd H l (.frz o (.tup ys)))) ∨ (SqT K H p ys ∧ Q (.ref p) H))
theorem call_tupG : CallR X (.type "tuple") (cTupG X.K) := by
  intro pins s σ H xs us Q I r h
  obtain ⟨p, ys, rfl, h⟩ := h
  rcases h with ⟨hq, q⟩ | ⟨hq, q⟩
  · obtain rfl := Vals.ref1 r
    obtain ⟨its, r', pl, hz⟩ := I.list hq
    have hlen := r'.length
    refine call_tuple_list pl.isList (fun h' kp => ?_) (by simp only [List.size_toArray]; omega)
    have I1 : Inv X pins σ H { s with heap := h' } := I.kept (t' := s.toks) kp
    exact ⟨.ref h'.objs.size, _, I1.laid (t' := s.toks) (fun b o e => Heap.get?_push_of_some _ e) (Nat.le_refl _) (show ObjOk X.prog X.w _ _ _ (.frz { cls := .type "tuple", data := .seq its.toArray } (.tup ys)) from ⟨Heap.get?_push_size _ rfl, hz, its, r', IsTup.new _ _⟩), rfl, q _ _ (I1.hok.fresh (Nat.le_refl _)) rfl rfl⟩
  · exact call_tupA pins s σ H _ us Q I r ⟨p, ys, rfl, .inr ⟨hq, q⟩⟩
end
end UX
set_option Elab.async false
set_option linter.all false
set_option maxRecDepth 100000
set_option maxHeartbeats 4000000
/-! k01: what the top leaves, by names -/
namespace U
open PySem L2 UL
def top (i : Nat) : Stmt := PySem.Challenge.pw_untoldrule_k17_places_that_are_opened.main.body.getD i (.Pass ⟨0, 0, 0, 0⟩)
local macro_rules | `(tactic| walk_at "rd") => `(tactic| simp only [tSeq, tAsg, tOp, tCB, tCons, tNil, tVar, tC, rI, rI0, gName, tRet, L2.start, List.length_cons, List.length_nil, List.map_cons, List.map_nil, List.replicate, List.cons_append, List.nil_append, List.getElem?_cons_zero, List.getElem?_cons_succ, List.set_cons_zero, List.set_cons_succ, Option.some.injEq, exists_eq_left', exists_eq_left, V.int.injEq, V.bl.injEq, V.str.injEq, V.ref.injEq, V.ty.injEq, List.cons.injEq, and_true, true_and, reduceCtorEq, false_and, exists_false, or_false, false_or, exists_and_left, exists_and_right])
/-- names that the module does not take -/
structure Nm (mg : Str → Option Value) : Prop where
  n_int : mg "int" = none
  n_bool : mg "bool" = none
  n_str : mg "str" = none
  n_list : mg "list" = none
  n_tuple : mg "tuple" = none
  n_set : mg "set" = none
  n_len : mg "len" = none
  n_abs : mg "abs" = none
  n_all : mg "all" = none
  n_iter : mg "iter" = none
  n_range : mg "range" = none
  n_zip : mg "zip" = none
  n_isinstance : mg "isinstance" = none
  c_LETTERS : ∃ u, mg "LETTERS" = some u ∧ RelV (.str "abcdefghijklmnopqrstuvwxyz") u
  c_MOST_LETTERS : ∃ u, mg "MOST_LETTERS" = some u ∧ RelV (.int 8) u
  c_MOST_CELLS : ∃ u, mg "MOST_CELLS" = some u ∧ RelV (.int 3) u
/-- list or tuple -/
def ItA : Kd → PySem.W.Frag → Addr → It
  | .l, K, a => Itl K a
  | .t, K, a => Itt K a
def iAny (K : PySem.W.Frag) (te : TE) : TI := fun σ H R => iList K te σ H R ∨ iTup K te σ H R
theorem pi_any {X : Cx} {tg l : Expr} {tl : TE} (hl : PE X l tl) : PI X tg l (iAny X.K tl) :=
  ⟨fun pins s σ H R I h => h.elim (fun z => (pi_list hl).run pins s σ H R I z) fun z => (pi_tup hl).run pins s σ H R I z⟩
def SqA (K : PySem.W.Frag) (H : Hp) (a : Addr) (xs : List V) : Prop := ∃ k : Kd, k.Sq K H a xs
theorem iAny_var {K : PySem.W.Frag} {i : Nat} {σ : L2.St} {H : Hp} {R : It → Hp → Prop} : iAny K (tVar i) σ H R ↔ ∃ v a k, σ[i]? = some (some v) ∧ v = .ref a ∧ (∃ xs, Kd.Sq k K H a xs) ∧ R (ItA k K a) H := by
  constructor
  · rintro (⟨v, h, a, e, x, r⟩ | ⟨v, h, a, e, x, r⟩)
    · exact ⟨v, a, .l, h, e, x, r⟩
    · exact ⟨v, a, .t, h, e, x, r⟩
  · rintro ⟨v, a, k, h, e, x, r⟩
    cases k
    · exact .inl ⟨v, h, a, e, x, r⟩
    · exact .inr ⟨v, h, a, e, x, r⟩
theorem walk_any {K : PySem.W.Frag} {a : Addr} {xs : List V} : ∀ k : Kd, L2.Walk (ItA k K a) xs.length (fun H => k.Sq K H a xs) (L2.YAt xs)
  | .l => L2.walk_list
  | .t => L2.walk_tup
theorem Kd.same {k : Kd} {K : PySem.W.Frag} {a : Addr} {H H' : Hp} {xs : List V} (s : Same H H') (h : k.Sq K H a xs) : k.Sq K H' a xs := match k, h with
  | .l, h => UL.Same.sqL s h
  | .t, h => UL.Same.sqT s h
theorem Kd.len {k : Kd} {K : PySem.W.Frag} {a : Addr} {H : Hp} {Q : VK} {xs : List V} (h : k.Sq K H a xs) (q : Q (.int xs.length) H) : cLen K [.ref a] H Q := match k, h with
  | .l, h => lenL h q
  | .t, h => lenT h q
theorem Kd.or {k : Kd} {K : PySem.W.Frag} {a : Addr} {H : Hp} {xs : List V} (h : k.Sq K H a xs) : SqL K H a xs ∨ SqT K H a xs := match k, h with
  | .l, h => .inl h
  | .t, h => .inr h
theorem fj_any {K : PySem.W.Frag} {a : Addr} {xs : List V} {g : TG} {tb : TS} {D : Ends} {σ : L2.St} {H : Hp} (k : Kd) (Pv : Nat → L2.St → Hp → Prop) (h0 : Pv 0 σ H) (hl : ∀ i σ H, i ≤ xs.length → Pv i σ H → k.Sq K H a xs)
    (hs : ∀ i x σ H, xs[i]? = some x → Pv i σ H → g x σ H fun σ2 H2 => tb { D with nx := Pv (i + 1), ct := Pv (i + 1), bk := D.nx } σ2 H2) (hd : ∀ σ H, Pv xs.length σ H → D.nx σ H) : FJ (ItA k K a) g tb D σ H := match k, hl with
  | .l, hl => FJ.list Pv h0 hl hs hd
  | .t, hl => FJ.tup Pv h0 hl hs hd
/-- what isinstance asks of an own class -/
structure CI (K : PySem.W.Frag) (C : Addr) : Prop where
  ha : PySem.W.findIn K (.ref C) "__class__" = some (some (.builtin "object.__class__"))
  hn : PySem.W.specialIn K (.builtin "object.__class__") "__get__" = some (some (.builtin "getset_descriptor.__get__"))
  ht : PySem.W.takesIn K (.builtin "object.__class__") = some true
  hm : PySem.W.mroIn K C (.type "object") = some true
theorem CI.ty {K : PySem.W.Frag} {C a dx : Addr} {fs : List (Str × V)} {H : Hp} (i : CI K C) (c : Cls K C) (e : H a = some (.ins C dx fs)) : TyX K H (.ref a) (.ref C) := .base (.ins e c i.ha i.hn i.ht i.hm)
/-- what the top of the programs leaves -/
structure PT (K : PySem.W.Frag) (mg : Str → Option Value) (R Wr B Pg : Addr) : Prop extends Nm mg where
  n_enumerate : mg "enumerate" = none
  c_MOST_STEPS : ∃ u, mg "MOST_STEPS" = some u ∧ RelV (.int 4) u
  c_MOST_ARGUMENTS : ∃ u, mg "MOST_ARGUMENTS" = some u ∧ RelV (.int 3) u
  c_Read : ∃ u, mg "Read" = some u ∧ RelV (.ref R) u
  c_Write : ∃ u, mg "Write" = some u ∧ RelV (.ref Wr) u
  c_ReadWrite : ∃ u, mg "ReadWrite" = some u ∧ RelV (.ref B) u
  cR : Cls K R
  cW : Cls K Wr
  cB : Cls K B
  cP : Cls K Pg
  aR_source : NoAttr K R "source"
  aR_local : NoAttr K R "local"
  aW_target : NoAttr K Wr "target"
  aW_function : NoAttr K Wr "function"
  aW_arguments : NoAttr K Wr "arguments"
  aB_source : NoAttr K B "source"
  aB_local : NoAttr K B "local"
  aB_target : NoAttr K B "target"
  aB_function : NoAttr K B "function"
  aB_arguments : NoAttr K B "arguments"
  aP_name : NoAttr K Pg "name"
  aP_steps : NoAttr K Pg "steps"
  iR : CI K R
  iW : CI K Wr
  iB : CI K B
  kRR : PySem.W.kitOne K (.ref R) (.ref R) = some true
  kWR : PySem.W.kitOne K (.ref Wr) (.ref R) = some false
  kBR : PySem.W.kitOne K (.ref B) (.ref R) = some true
  kRW : PySem.W.kitOne K (.ref R) (.ref Wr) = some false
  kRB : PySem.W.kitOne K (.ref R) (.ref B) = some false
  kWW : PySem.W.kitOne K (.ref Wr) (.ref Wr) = some true
  kWB : PySem.W.kitOne K (.ref Wr) (.ref B) = some false
  kBW : PySem.W.kitOne K (.ref B) (.ref Wr) = some true
  kBB : PySem.W.kitOne K (.ref B) (.ref B) = some true
end U
set_option Elab.async false
set_option linter.all false
set_option maxRecDepth 100000
set_option maxHeartbeats 4000000
set_option pp.deepTerms true
set_option pp.maxSteps 400000
namespace U
open PySem PySem.Spec PyProof.Rows L2 UL UX
local macro_rules | `(tactic| walk_at "rd") => `(tactic| simp only [sMatch, tJs, tFmt, tBC, tMethA, tMakeL, iEnumS, tSeq, tAsg, tOp, tCB, tCons, tNil, tVar, tC, tB, tTest, tNot, tIfS, tNext, tYes, tUn, rU, tM0, tGFrom, tGThen, tG0, tYfLst, gcxK, tSubO, tProp, tListG, tMethG, tBMF, tFld, sFld, tMeth, tMake, tSl, tNoPart, tPart, tM1, gTup, gCons, gNil, tDrop, tFor_eq, tLc_eq, tLc2_eq, iRng1_eq, StX.tStar, iList, iTup, iStr, iAny_var, iZipB, tLenSetS, wipe, tVar, tAndV, tOrV, tNotV, tOr, tAnd, tLst, tTup, tBM, tBM0, tChain, tCall, cxK, noxK, addII, addSS, mulII, eqII, neII, neSS, cIntI, cAbsI, rI, rI0, rLt, rLe, rGt_, rGe_, rSub_, rMod, rPow, rDivW, rNeg, gName, tRet, L2.start, List.length_cons, List.length_nil, List.map_cons, List.map_nil, List.replicate, List.cons_append, List.nil_append, List.getElem?_cons_zero, List.getElem?_cons_succ, List.set_cons_zero, List.set_cons_succ, Option.some.injEq, exists_eq_left', exists_eq_left, V.int.injEq, V.bl.injEq, V.str.injEq, V.ref.injEq, V.ty.injEq, List.cons.injEq, and_true, true_and, reduceCtorEq, false_and, exists_false, or_false, false_or, exists_and_left, exists_and_right, List.append_nil, forall_eq, decide_eq_true_eq, Bool.not_eq_true, Nat.reduceAdd, Nat.reduceSub, List.replicate_zero, List.replicate_succ, Nat.zero_le, ite_true, ite_false, if_true, if_false])
section
variable {P : Program} {w : World} {K : PySem.W.Frag} {mg : Str → Option Value} {base : Heap}
abbrev abc : Str := "abcdefghijklmnopqrstuvwxyz"
def nmB (z : Str) : Bool := decide (1 ≤ z.length) && decide (z.length ≤ 8) && z.cps.toList.all fun c => decide (c ∈ abc.cps.toList)
abbrev s_is_name : Stmt := top 20
abbrev sc_is_name_N : List Str := ["word", ".0", "letter"]
theorem sc_is_name : FnScope sc_is_name_N ["word"] (defScope s_is_name) := ⟨rfl, rfl, rfl, by decide +kernel, rfl, by decide +kernel, by decide +kernel⟩
-- 0 word, 1 .0, 2 letter
/-- any text -/
def sp_isnm : Sp := fun vs H Q _ => ∃ z : Str, vs = [.str z] ∧ z.length ≤ 1000 ∧ ∀ H', Same H H' → Q (.bl (nmB z)) H'
theorem d_isnm (T : Nm mg) (D : TD K mg "is_name" s_is_name) : Dn P w K mg base CX0 1 "is_name" sp_isnm := by
  refine D.dn sc_is_name (fun _ _ _ _ _ _ us hl => match us, hl with | [_], _ => rfl) (fun vs H Q E h => ?_) (fun f cdv A outer s H vs Q E hr h => ?_)
  · obtain ⟨p, rfl, _⟩ := h; rfl
  · obtain ⟨z, rfl, hz, q⟩ := h
    refine ⟨_, (pss_one (ps_ret (pe_and (pe_chain op_leA op_leA pe_int (pe_callB call_lenA (by rfl) T.n_len (by decide +kernel) (pa_cons (pv 0) pa_nil)) (C8.pe_gc (by rfl) T.c_MOST_LETTERS)) (pe_one (pe_callB (cr_all rfl) (by rfl) T.n_all (by decide +kernel) (pa_cons (pe_lc (own := [(".0", 1), ("letter", 2)]) (g := (gName 2)) (tt := tYes) rfl sc_is_name.nd (pi_str (pv 0)) (blkOk_by (N := sc_is_name_N) (sc := defScope s_is_name) (by decide +kernel)) (fun _ _ _ _ _ => pg_name (i := 2) sc_is_name.nd rfl (Or.inl rfl)) (fun _ _ _ _ _ => pts_nil) (fun _ _ _ _ _ => (pe_cmpR (op_inK K rfl) (pv 2) (C8.pe_gc (by rfl) T.c_LETTERS) (by with_unfolding_all rfl)))) pa_nil)))))), ?_⟩
    walk_at "rd"
    have hl : z.cps.size = z.length := rfl
    refine lenS (by rw [sizeLine_eq]; omega) ⟨_, rfl, ?_⟩
    by_cases h1 : 1 ≤ z.length
    · rw [if_pos (by omega)]
      refine ⟨_, rfl, ?_⟩
      by_cases h2 : z.length ≤ 8
      · rw [if_pos (by omega)]
        refine fun D hD => LJ.it walk_str (fun i H' => ∃ bs : List Bool, bs = (z.cps.toList.take i).map (fun c => decide (c ∈ abc.cps.toList)) ∧ H' = upd H D (.lst (bs.map V.bl))) ⟨[], rfl, rfl⟩ (fun _ _ _ _ => trivial) (fun i x H1 H2 hi e y => ?_) fun H2 e => ?_
        · obtain ⟨rfl, c, hc, rfl⟩ := y
          obtain ⟨bs, hb, rfl⟩ := e
          refine ⟨rfl, ?_⟩
          walk_at "rd"
          have hbl : bs.length ≤ 8 := by rw [hb, List.length_map, List.length_take, Array.length_toList]; omega
          refine .inl ⟨c, _, rfl, rfl, _, upd_same, by rw [List.length_map, sizeLine_eq]; omega, ?_⟩
          have hc' : z.cps.toList[i]? = some c := by rw [Array.getElem?_toList]; exact hc
          rw [upd_upd, List.take_add_one, hc', hb]
          simp
        · obtain ⟨bs, hb, rfl⟩ := e
          refine ⟨D, bs, rfl, .inl (.inl upd_same), ?_⟩
          have e1 : bs.all id = nmB z := by
            have hn : z.cps.toList.take z.cps.size = z.cps.toList := List.take_of_length_le (by simp)
            rw [hb]
            simp only [hn, nmB, decide_eq_true h1, decide_eq_true h2, Bool.true_and, List.all_map]
            rfl
          rw [e1]; exact q _ (UL.Same.new hD)
      · rw [if_neg (by omega)]
        have e1 : nmB z = false := by simp [nmB, h2]
        rw [← e1]; exact q _ fun _ _ z => z
    · rw [if_neg (by omega)]
      have e1 : nmB z = false := by simp [nmB, h1]
      rw [← e1]; exact q _ fun _ _ z => z
theorem len_app (x y : Str) : (x ++ y).length = x.length + y.length := by show (x.cps ++ y.cps).size = _; simp; rfl
-- 0 source, 1 local
def rdT (s l : Str) : Str := "read " ++ s ++ " as " ++ l
def wrT (t f : Str) (xs : List Str) : List Str := (("write" : Str) :: t :: ("by" : Str) :: f :: (if xs = [] then [] else ("of" : Str) :: xs))
theorem sum_le {m : Nat} : ∀ {l : List Str}, (∀ x ∈ l, x.length ≤ m) → (l.map (·.length)).sum ≤ l.length * m
  | [], _ => by simp
  | x :: r, h => by
    have h1 := h x List.mem_cons_self
    have h2 := sum_le (l := r) fun y hy => h y (List.mem_cons_of_mem _ hy)
    rw [List.map_cons, List.sum_cons, List.length_cons, Nat.add_mul]
    omega
theorem FT.sq {H : Hp} {a : Addr} {xs : List V} (h : FT H a xs) : SqT K H a xs := let ⟨o, e, _⟩ := h; .inl (.inr ⟨o, e⟩)
theorem FT.same {H H' : Hp} {a : Addr} {xs : List V} (s : Same H H') (h : FT H a xs) : FT H' a xs := let ⟨o, e, d⟩ := h; ⟨o, s _ _ e, d⟩
theorem FT.but {H H' : Hp} {a p : Addr} {xs : List V} (s : But p H H') (n : a ≠ p) (h : FT H a xs) : FT H' a xs := let ⟨o, e, d⟩ := h; ⟨o, s _ _ e n, d⟩
theorem FT.ne {H : Hp} {a p : Addr} {xs : List V} (h : FT H a xs) (hp : H p = none) : a ≠ p := let ⟨_, e, _⟩ := h; ne_of_none e hp
theorem l_write : ("write" : Str).length = 5 := by decide +kernel
theorem l_by : ("by" : Str).length = 2 := by decide +kernel
theorem l_of : ("of" : Str).length = 2 := by decide +kernel
theorem l_sp : (" " : Str).length = 1 := by decide +kernel
theorem wr_len {t f : Str} {xs : List Str} (ht : t.length ≤ 1000) (hf : f.length ≤ 1000) (hx : ∀ x ∈ xs, x.length ≤ 1000) : ∀ x ∈ wrT t f xs, x.length ≤ 1000 := by
  intro x h
  unfold wrT at h
  rcases List.mem_cons.mp h with rfl | h
  · rw [l_write]; omega
  rcases List.mem_cons.mp h with rfl | h
  · exact ht
  rcases List.mem_cons.mp h with rfl | h
  · rw [l_by]; omega
  rcases List.mem_cons.mp h with rfl | h
  · exact hf
  by_cases e : xs = []
  · rw [if_pos e] at h; cases h
  · rw [if_neg e] at h
    rcases List.mem_cons.mp h with rfl | h
    · rw [l_of]; omega
    · exact hx x h
theorem wr_many {t f : Str} {xs : List Str} : (wrT t f xs).length ≤ xs.length + 5 := by
  unfold wrT
  by_cases e : xs = []
  · rw [if_pos e]; simp
  · rw [if_neg e]; simp
-- 0 target, 1 function, 2 arguments, 3 words
end
end U
set_option Elab.async false
set_option linter.all false
set_option maxRecDepth 100000
set_option maxHeartbeats 4000000
set_option pp.deepTerms true
set_option pp.maxSteps 400000
namespace U
open PySem PySem.Spec PyProof.Rows L2 UL UX
local macro_rules | `(tactic| walk_at "rd") => `(tactic| simp only [sMatch, tJs, tFmt, tBC, tMethA, tMakeL, iEnumS, tSeq, tAsg, tOp, tCB, tCons, tNil, tVar, tC, tB, tTest, tNot, tIfS, tNext, tYes, tUn, rU, tM0, tGFrom, tGThen, tG0, tYfLst, gcxK, tSubO, tProp, tListG, tMethG, tBMF, tFld, sFld, tMeth, tMake, tSl, tNoPart, tPart, tM1, gTup, gCons, gNil, tDrop, tFor_eq, tLc_eq, tLc2_eq, iRng1_eq, StX.tStar, iList, iTup, iStr, iAny_var, iZipB, tLenSetS, wipe, tVar, tAndV, tOrV, tNotV, tOr, tAnd, tLst, tTup, tBM, tBM0, tChain, tCall, cxK, noxK, addII, addSS, mulII, eqII, neII, neSS, cIntI, cAbsI, rI, rI0, rLt, rLe, rGt_, rGe_, rSub_, rMod, rPow, rDivW, rNeg, gName, tRet, L2.start, List.length_cons, List.length_nil, List.map_cons, List.map_nil, List.replicate, List.cons_append, List.nil_append, List.getElem?_cons_zero, List.getElem?_cons_succ, List.set_cons_zero, List.set_cons_succ, Option.some.injEq, exists_eq_left', exists_eq_left, V.int.injEq, V.bl.injEq, V.str.injEq, V.ref.injEq, V.ty.injEq, List.cons.injEq, and_true, true_and, reduceCtorEq, false_and, exists_false, or_false, false_or, exists_and_left, exists_and_right, List.append_nil, forall_eq, decide_eq_true_eq, Bool.not_eq_true, Nat.reduceAdd, Nat.reduceSub, List.replicate_zero, List.replicate_succ, Nat.zero_le, ite_true, ite_false, if_true, if_false])
section
variable {P : Program} {w : World} {K : PySem.W.Frag} {mg : Str → Option Value} {base : Heap}
/-- a step: a read, a write, both -/
inductive Sk where
  | rd (s l : Str)
  | wr (t f : Str) (xs : List Str)
  | rw (s l t f : Str) (xs : List Str)
def fsR (s l : Str) : List (Str × V) := [("source", .str s), ("local", .str l)]
def fsW (t f : Str) (p : Addr) : List (Str × V) := [("target", .str t), ("function", .str f), ("arguments", .ref p)]
def Sk.cls (R Wr B : Addr) : Sk → Addr
  | .rd .. => R
  | .wr .. => Wr
  | .rw .. => B
def Sk.src : Sk → List Str
  | .rd s _ | .rw s _ _ _ _ => [s]
  | .wr .. => []
def Sk.tgt : Sk → List Str
  | .rd .. => []
  | .wr t _ _ | .rw _ _ t _ _ => [t]
def Sk.line : Sk → Str
  | .rd s l => rdT s l
  | .wr t f xs => Txt.join " " (wrT t f xs)
  | .rw s l t f xs => rdT s l ++ " " ++ Txt.join " " (wrT t f xs)
def Sk.small : Sk → Prop
  | .rd s l => s.length ≤ 1000 ∧ l.length ≤ 1000
  | .wr t f xs => t.length ≤ 1000 ∧ f.length ≤ 1000 ∧ (∀ x ∈ xs, x.length ≤ 1000) ∧ xs.length ≤ 100
  | .rw s l t f xs => (s.length ≤ 1000 ∧ l.length ≤ 1000) ∧ t.length ≤ 1000 ∧ f.length ≤ 1000 ∧ (∀ x ∈ xs, x.length ≤ 1000) ∧ xs.length ≤ 100
/-- the object at a is this step -/
def StA (H : Hp) (R Wr B a : Addr) : Sk → Prop
  | .rd s l => ∃ dx, H a = some (.ins R dx (fsR s l))
  | .wr t f xs => ∃ dx p, H a = some (.ins Wr dx (fsW t f p)) ∧ FT H p (xs.map V.str)
  | .rw s l t f xs => ∃ dx p, H a = some (.ins B dx (fsR s l ++ fsW t f p)) ∧ FT H p (xs.map V.str)
theorem StA.same {H H' : Hp} {R Wr B a : Addr} {k : Sk} (s : Same H H') (h : StA H R Wr B a k) : StA H' R Wr B a k := by
  cases k with
  | rd => obtain ⟨dx, e⟩ := h; exact ⟨dx, s _ _ e⟩
  | wr => obtain ⟨dx, p, e, q⟩ := h; exact ⟨dx, p, s _ _ e, FT.same s q⟩
  | rw => obtain ⟨dx, p, e, q⟩ := h; exact ⟨dx, p, s _ _ e, FT.same s q⟩
variable {R Wr B Pg : Addr}
theorem n12 : ("source" : Str) ≠ "local" := by decide +kernel
theorem n13 : ("source" : Str) ≠ "target" := by decide +kernel
theorem n14 : ("source" : Str) ≠ "function" := by decide +kernel
theorem n15 : ("source" : Str) ≠ "arguments" := by decide +kernel
theorem n23 : ("local" : Str) ≠ "target" := by decide +kernel
theorem n24 : ("local" : Str) ≠ "function" := by decide +kernel
theorem n25 : ("local" : Str) ≠ "arguments" := by decide +kernel
theorem n34 : ("target" : Str) ≠ "function" := by decide +kernel
theorem n35 : ("target" : Str) ≠ "arguments" := by decide +kernel
theorem n45 : ("function" : Str) ≠ "arguments" := by decide +kernel
abbrev s_Read___init__ : Stmt := inClass (top 26) 0
abbrev sc_Read___init___N : List Str := ["self", "source", "local"]
theorem sc_Read___init__ : FnScope sc_Read___init___N ["self", "source", "local"] (defScope s_Read___init__) := ⟨rfl, rfl, rfl, by decide +kernel, rfl, by decide +kernel, by decide +kernel⟩
-- 0 self, 1 source, 2 local
def sp_initR (R B : Addr) : Sp := fun vs H Q _ => ∃ (x dx C : Addr) (s l : Str), vs = [.ref x, .str s, .str l] ∧ (C = R ∨ C = B) ∧ H x = some (.ins C dx []) ∧ Q .non (upd H x (.ins C dx (fsR s l)))
theorem m_initR {C0 : Addr} (T : PT K mg R Wr B Pg) (D : MD K C0 "__init__" "Read.__init__" s_Read___init__) : Mn P w K mg base CX0 1 C0 "__init__" (sp_initR R B) := by
  refine D.mn sc_Read___init__ (fun _ _ _ _ _ _ us hl => match us, hl with | [_, _, _], _ => rfl) (fun vs H Q E h => ?_) (fun f cdv A outer s H vs Q E hr h => ?_)
  · obtain ⟨x, dx, C, s, l, rfl, _⟩ := h; rfl
  · obtain ⟨x, dx, C, sr, l, rfl, hC, hx, q⟩ := h
    have c1 : Cls K C := by rcases hC with rfl | rfl; exact T.cR; exact T.cB
    have c2 : NoAttr K C "source" := by rcases hC with rfl | rfl; exact T.aR_source; exact T.aB_source
    have c3 : NoAttr K C "local" := by rcases hC with rfl | rfl; exact T.aR_local; exact T.aB_local
    refine ⟨_, (pss_cons (ps_fld (pv 0) (pv 1) rfl)
      (pss_one (ps_fld (pv 0) (pv 2) rfl))), ?_⟩
    walk_at "rd"
    refine ⟨C, dx, [], hx, c1, c2, by decide, C, dx, _, upd_same, c1, c3, by show 1 < 1000; decide, ?_⟩
    rw [upd_upd]
    have e : putF "local" (V.str l) (putF "source" (V.str sr) []) = fsR sr l := by simp [putF, n12, fsR]
    rw [e]; exact q
theorem sqL_ins {H : Hp} {x b C dx : Addr} {f0 : List (Str × V)} {o : HO} {ys : List V} (hx : H x = some (.ins C dx f0)) (h : SqL K H b ys) : SqL K (upd H x o) b ys := by
  rcases h with (h | ⟨o', h⟩) | h
  · exact .inl (.inl (by rw [upd_ne (fun e => by rw [e, hx] at h; cases h)]; exact h))
  · exact .inl (.inr ⟨o', by rw [upd_ne (fun e => by rw [e, hx] at h; cases h)]; exact h⟩)
  · exact .inr h
theorem FT.ins {H : Hp} {x b C dx : Addr} {f0 : List (Str × V)} {o : HO} {ys : List V} (hx : H x = some (.ins C dx f0)) (h : FT H b ys) : FT (upd H x o) b ys := by
  obtain ⟨o', h, d⟩ := h
  exact ⟨o', by rw [upd_ne (fun e => by rw [e, hx] at h; cases h)]; exact h, d⟩
abbrev s_Write___init__ : Stmt := inClass (top 27) 0
abbrev sc_Write___init___N : List Str := ["self", "target", "function", "arguments"]
theorem sc_Write___init__ : FnScope sc_Write___init___N ["self", "target", "function", "arguments"] (defScope s_Write___init__) := ⟨rfl, rfl, rfl, by decide +kernel, rfl, by decide +kernel, by decide +kernel⟩
-- 0 self, 1 target, 2 function, 3 arguments
/-- the arguments: a list, or a tuple as it was laid -/
def sp_initW (K : PySem.W.Frag) (Wr B : Addr) : Sp := fun vs H Q _ => ∃ (x dx C b : Addr) (t f : Str) (xs : List Str) (f0 : List (Str × V)), vs = [.ref x, .str t, .str f, .ref b] ∧ (C = Wr ∧ f0 = [] ∨ C = B ∧ ∃ s l, f0 = fsR s l) ∧ H x = some (.ins C dx f0) ∧
  (SqL K H b (xs.map V.str) ∨ FT H b (xs.map V.str)) ∧ ∀ p H', FT H' p (xs.map V.str) → H' x = some (.ins C dx (f0 ++ fsW t f p)) → But x H H' → Q .non H'
theorem m_initW {C0 : Addr} (T : PT K mg R Wr B Pg) (D : MD K C0 "__init__" "Write.__init__" s_Write___init__) : Mn P w K mg base CX0 1 C0 "__init__" (sp_initW K Wr B) := by
  refine D.mn sc_Write___init__ (fun _ _ _ _ _ _ us hl => match us, hl with | [_, _, _, _], _ => rfl) (fun vs H Q E h => ?_) (fun f cdv A outer s H vs Q E hr h => ?_)
  · obtain ⟨x, dx, C, b, t, f, xs, f0, rfl, _⟩ := h; rfl
  · obtain ⟨x, dx, C, b, t, fn, xs, f0, rfl, hC, hx, hb, q⟩ := h
    have c1 : Cls K C := by rcases hC with ⟨rfl, _⟩ | ⟨rfl, _⟩; exact T.cW; exact T.cB
    have c2 : NoAttr K C "target" := by rcases hC with ⟨rfl, _⟩ | ⟨rfl, _⟩; exact T.aW_target; exact T.aB_target
    have c3 : NoAttr K C "function" := by rcases hC with ⟨rfl, _⟩ | ⟨rfl, _⟩; exact T.aW_function; exact T.aB_function
    have c4 : NoAttr K C "arguments" := by rcases hC with ⟨rfl, _⟩ | ⟨rfl, _⟩; exact T.aW_arguments; exact T.aB_arguments
    have p1 : putF "target" (V.str t) f0 = f0 ++ [(("target" : Str), V.str t)] := by rcases hC with ⟨_, rfl⟩ | ⟨_, s, l, rfl⟩ <;> simp [putF, fsR, n13, n23, Ne.symm n13, Ne.symm n23]
    have p2 : putF "function" (V.str fn) (f0 ++ [(("target" : Str), V.str t)]) = f0 ++ [(("target" : Str), V.str t), (("function" : Str), V.str fn)] := by rcases hC with ⟨_, rfl⟩ | ⟨_, s, l, rfl⟩ <;> simp [putF, fsR, n14, n24, n34, Ne.symm n14, Ne.symm n24, Ne.symm n34]
    have p3 : ∀ p : Addr, putF "arguments" (V.ref p) (f0 ++ [(("target" : Str), V.str t), (("function" : Str), V.str fn)]) = f0 ++ fsW t fn p := fun p => by rcases hC with ⟨_, rfl⟩ | ⟨_, s, l, rfl⟩ <;> simp [putF, fsR, fsW, n15, n25, n35, n45, Ne.symm n15, Ne.symm n25, Ne.symm n35, Ne.symm n45]
    have lf : f0.length ≤ 2 := by rcases hC with ⟨_, rfl⟩ | ⟨_, s, l, rfl⟩ <;> simp [fsR]
    refine ⟨_, (pss_cons (ps_fld (pv 0) (pv 1) rfl)
      (pss_cons (ps_fld (pv 0) (pv 2) rfl)
      (pss_one (ps_fld (pv 0) (pe_callTy call_tupG (by rfl) T.n_tuple (by decide +kernel) (pa_cons (pv 3) pa_nil)) rfl)))), ?_⟩
    walk_at "rd"
    refine ⟨C, dx, f0, hx, c1, c2, by omega, C, dx, _, upd_same, c1, c3, by rw [p1]; simp; omega, ?_⟩
    rw [upd_upd, p1, p2]
    have b1 : ∀ o : HO, But x H (upd H x o) := fun o => But.at_
    rcases hb with hb | hb
    · refine ⟨b, _, rfl, .inl ⟨sqL_ins hx hb, fun l o hl ho hs => ?_⟩⟩
      have nx : x ≠ l := ne_of_none upd_same hl
      refine ⟨C, dx, _, by rw [upd_ne nx]; exact upd_same, c1, c4, by simp; omega, ?_⟩
      rw [p3]
      refine q l _ ⟨o, by rw [upd_ne (Ne.symm nx)]; exact upd_same, ho, hs⟩ upd_same fun c u e n => ?_
      rw [upd_ne n, upd_ne (ne_of_none (b1 _ c u e n) hl)]
      exact b1 _ c u e n
    · refine ⟨b, _, rfl, .inr ⟨FT.sq (FT.ins hx hb), C, dx, _, upd_same, c1, c4, by simp; omega, ?_⟩⟩
      rw [p3, upd_upd]
      exact q b _ (FT.ins hx hb) upd_same (b1 _)
abbrev s_ReadWrite___init__ : Stmt := inClass (top 28) 0
abbrev sc_ReadWrite___init___N : List Str := ["self", "source", "local", "target", "function", "arguments"]
theorem sc_ReadWrite___init__ : FnScope sc_ReadWrite___init___N ["self", "source", "local", "target", "function", "arguments"] (defScope s_ReadWrite___init__) := ⟨rfl, rfl, rfl, by decide +kernel, rfl, by decide +kernel, by decide +kernel⟩
-- 0 self, 1 source, 2 local, 3 target, 4 function, 5 arguments
def sp_initB (K : PySem.W.Frag) (R Wr B : Addr) : Sp := fun vs H Q _ => ∃ (x dx b : Addr) (s l t f : Str) (xs : List Str), vs = [.ref x, .str s, .str l, .str t, .str f, .ref b] ∧ H x = some (.ins B dx []) ∧ (SqL K H b (xs.map V.str) ∨ FT H b (xs.map V.str)) ∧
  ∀ H', StA H' R Wr B x (.rw s l t f xs) → But x H H' → Q .non H'
theorem m_initB (T : PT K mg R Wr B Pg) (D : MD K B "__init__" "ReadWrite.__init__" s_ReadWrite___init__) (B_Read : Bn P w K mg base 1 R "Read" "__init__" (sp_initR R B)) (B_Write : Bn P w K mg base 1 Wr "Write" "__init__" (sp_initW K Wr B)) :
    Mn P w K mg base CX0 2 B "__init__" (sp_initB K R Wr B) := by
  refine D.mn sc_ReadWrite___init__ (fun _ _ _ _ _ _ us hl => match us, hl with | [_, _, _, _, _, _], _ => rfl) (fun vs H Q E h => ?_) (fun f cdv A outer s H vs Q E hr h => ?_)
  · obtain ⟨x, dx, b, s, l, t, f, xs, rfl, _⟩ := h; rfl
  · obtain ⟨x, dx, b, sr, l, t, fn, xs, rfl, hx, hb, q⟩ := h
    refine ⟨_, (pss_cons (ps_expr (pe_b B_Read hr (by decide) (by rfl) (pa_cons (pv 0) (pa_cons (pv 1) (pa_cons (pv 2) pa_nil)))))
      (pss_one (ps_expr (pe_b B_Write hr (by decide) (by rfl) (pa_cons (pv 0) (pa_cons (pv 3) (pa_cons (pv 4) (pa_cons (pv 5) pa_nil)))))))), ?_⟩
    walk_at "rd"
    refine ⟨x, dx, B, sr, l, rfl, .inr rfl, hx, x, dx, B, b, t, fn, xs, fsR sr l, rfl, .inr ⟨rfl, _, _, rfl⟩, upd_same, hb.imp (sqL_ins hx) (FT.ins hx), fun p H' hp hx' hb' => q _ ⟨dx, p, hx', hp⟩ fun c u e n => hb' c u (by rw [upd_ne n]; exact e) n⟩
def sp_reads (R Wr B C : Addr) : Sp := fun vs H Q _ => ∃ (a : Addr) (k : Sk), vs = [.ref a] ∧ k.cls R Wr B = C ∧ StA H R Wr B a k ∧ ∀ r H', H' r = some (.tup (k.src.map V.str)) → Same H H' → Q (.ref r) H'
def sp_writes (R Wr B C : Addr) : Sp := fun vs H Q _ => ∃ (a : Addr) (k : Sk), vs = [.ref a] ∧ k.cls R Wr B = C ∧ StA H R Wr B a k ∧ ∀ r H', H' r = some (.tup (k.tgt.map V.str)) → Same H H' → Q (.ref r) H'
/-- the three classes differ -/
structure Ap (R Wr B : Addr) : Prop where
  rw : R ≠ Wr
  rb : R ≠ B
  wb : Wr ≠ B
theorem cls_rd {a : Ap R Wr B} {k : Sk} (h : k.cls R Wr B = R) : ∃ s l, k = .rd s l := by
  cases k with
  | rd s l => exact ⟨s, l, rfl⟩
  | wr => exact absurd h.symm a.rw
  | rw => exact absurd h.symm a.rb
theorem cls_wr {a : Ap R Wr B} {k : Sk} (h : k.cls R Wr B = Wr) : ∃ t f xs, k = .wr t f xs := by
  cases k with
  | rd => exact absurd h a.rw
  | wr t f xs => exact ⟨t, f, xs, rfl⟩
  | rw => exact absurd h.symm a.wb
theorem cls_rw {a : Ap R Wr B} {k : Sk} (h : k.cls R Wr B = B) : ∃ s l t f xs, k = .rw s l t f xs := by
  cases k with
  | rd => exact absurd h a.rb
  | wr => exact absurd h a.wb
  | rw s l t f xs => exact ⟨s, l, t, f, xs, rfl⟩
-- 0 self
-- 0 self
theorem join_len (y : Str) : ∀ ps : List Str, (Str.join y ps).length ≤ (ps.map (·.length)).sum + ps.length * y.length
  | [] => Nat.zero_le _
  | [p] => by show p.length ≤ _; simp
  | p :: r :: rs => by
    have e : Str.join y (p :: r :: rs) = p ++ y ++ Str.join y (r :: rs) := rfl
    have h := join_len y (r :: rs)
    rw [e, len_app, len_app, List.map_cons, List.sum_cons, List.length_cons, Nat.add_mul]
    omega
-- 0 self, 1 first, 2 second
abbrev s_Read_reads : Stmt := inClass (top 26) 2
abbrev sc_Read_reads_N : List Str := ["self"]
theorem sc_Read_reads : FnScope sc_Read_reads_N ["self"] (defScope s_Read_reads) := ⟨rfl, rfl, rfl, by decide +kernel, rfl, by decide +kernel, by decide +kernel⟩
-- 0 self
theorem m_readsR (ap : Ap R Wr B) (T : PT K mg R Wr B Pg) (D : MD K R "reads" "Read.reads" s_Read_reads) : Mn P w K mg base CX0 1 R "reads" (sp_reads R Wr B R) := by
  refine D.mn sc_Read_reads (fun _ _ _ _ _ _ us hl => match us, hl with | [_], _ => rfl) (fun vs H Q E h => ?_) (fun f cdv A outer s H vs Q E hr h => ?_)
  · obtain ⟨a, k, rfl, _⟩ := h; rfl
  · obtain ⟨a, k, rfl, hc, ha, q⟩ := h
    obtain ⟨sr, l, rfl⟩ := cls_rd (a := ap) hc
    obtain ⟨dx, ha⟩ := ha
    refine ⟨_, (pss_one (ps_ret (pe_tup (pa_cons (pe_fld (pv 0) (by rfl)) pa_nil)))), ?_⟩
    walk_at "rd"
    exact ⟨R, dx, _, ha, T.cR, T.aR_source, _, rfl, by rw [sizeLine_eq]; decide, fun p hp => q p _ upd_same (UL.Same.new hp)⟩
abbrev s_Read_writes : Stmt := inClass (top 26) 3
abbrev sc_Read_writes_N : List Str := ["self"]
theorem sc_Read_writes : FnScope sc_Read_writes_N ["self"] (defScope s_Read_writes) := ⟨rfl, rfl, rfl, by decide +kernel, rfl, by decide +kernel, by decide +kernel⟩
-- 0 self
theorem m_writesR (ap : Ap R Wr B) (T : PT K mg R Wr B Pg) (D : MD K R "writes" "Read.writes" s_Read_writes) : Mn P w K mg base CX0 1 R "writes" (sp_writes R Wr B R) := by
  refine D.mn sc_Read_writes (fun _ _ _ _ _ _ us hl => match us, hl with | [_], _ => rfl) (fun vs H Q E h => ?_) (fun f cdv A outer s H vs Q E hr h => ?_)
  · obtain ⟨a, k, rfl, _⟩ := h; rfl
  · obtain ⟨a, k, rfl, hc, ha, q⟩ := h
    obtain ⟨sr, l, rfl⟩ := cls_rd (a := ap) hc
    obtain ⟨dx, ha⟩ := ha
    refine ⟨_, (pss_one (ps_ret (pe_tup pa_nil))), ?_⟩
    walk_at "rd"
    exact fun p hp => q p _ upd_same (UL.Same.new hp)
abbrev s_Write_reads : Stmt := inClass (top 27) 2
abbrev sc_Write_reads_N : List Str := ["self"]
theorem sc_Write_reads : FnScope sc_Write_reads_N ["self"] (defScope s_Write_reads) := ⟨rfl, rfl, rfl, by decide +kernel, rfl, by decide +kernel, by decide +kernel⟩
-- 0 self
theorem m_readsW (ap : Ap R Wr B) (T : PT K mg R Wr B Pg) (D : MD K Wr "reads" "Write.reads" s_Write_reads) : Mn P w K mg base CX0 1 Wr "reads" (sp_reads R Wr B Wr) := by
  refine D.mn sc_Write_reads (fun _ _ _ _ _ _ us hl => match us, hl with | [_], _ => rfl) (fun vs H Q E h => ?_) (fun f cdv A outer s H vs Q E hr h => ?_)
  · obtain ⟨a, k, rfl, _⟩ := h; rfl
  · obtain ⟨a, k, rfl, hc, ha, q⟩ := h
    obtain ⟨t, fn, xs, rfl⟩ := cls_wr (a := ap) hc
    refine ⟨_, (pss_one (ps_ret (pe_tup pa_nil))), ?_⟩
    walk_at "rd"
    exact fun p hp => q p _ upd_same (UL.Same.new hp)
abbrev s_Write_writes : Stmt := inClass (top 27) 3
abbrev sc_Write_writes_N : List Str := ["self"]
theorem sc_Write_writes : FnScope sc_Write_writes_N ["self"] (defScope s_Write_writes) := ⟨rfl, rfl, rfl, by decide +kernel, rfl, by decide +kernel, by decide +kernel⟩
-- 0 self
theorem m_writesW (ap : Ap R Wr B) (T : PT K mg R Wr B Pg) (D : MD K Wr "writes" "Write.writes" s_Write_writes) : Mn P w K mg base CX0 1 Wr "writes" (sp_writes R Wr B Wr) := by
  refine D.mn sc_Write_writes (fun _ _ _ _ _ _ us hl => match us, hl with | [_], _ => rfl) (fun vs H Q E h => ?_) (fun f cdv A outer s H vs Q E hr h => ?_)
  · obtain ⟨a, k, rfl, _⟩ := h; rfl
  · obtain ⟨a, k, rfl, hc, ha, q⟩ := h
    obtain ⟨t, fn, xs, rfl⟩ := cls_wr (a := ap) hc
    obtain ⟨dx, p0, ha, _⟩ := ha
    refine ⟨_, (pss_one (ps_ret (pe_tup (pa_cons (pe_fld (pv 0) (by rfl)) pa_nil)))), ?_⟩
    walk_at "rd"
    exact ⟨Wr, dx, _, ha, T.cW, T.aW_target, _, rfl, by rw [sizeLine_eq]; decide, fun p hp => q p _ upd_same (UL.Same.new hp)⟩
abbrev s_ReadWrite_reads : Stmt := inClass (top 28) 2
abbrev sc_ReadWrite_reads_N : List Str := ["self"]
theorem sc_ReadWrite_reads : FnScope sc_ReadWrite_reads_N ["self"] (defScope s_ReadWrite_reads) := ⟨rfl, rfl, rfl, by decide +kernel, rfl, by decide +kernel, by decide +kernel⟩
-- 0 self
theorem m_readsB (ap : Ap R Wr B) (T : PT K mg R Wr B Pg) (D : MD K B "reads" "ReadWrite.reads" s_ReadWrite_reads) : Mn P w K mg base CX0 1 B "reads" (sp_reads R Wr B B) := by
  refine D.mn sc_ReadWrite_reads (fun _ _ _ _ _ _ us hl => match us, hl with | [_], _ => rfl) (fun vs H Q E h => ?_) (fun f cdv A outer s H vs Q E hr h => ?_)
  · obtain ⟨a, k, rfl, _⟩ := h; rfl
  · obtain ⟨a, k, rfl, hc, ha, q⟩ := h
    obtain ⟨sr, l, t, fn, xs, rfl⟩ := cls_rw (a := ap) hc
    obtain ⟨dx, p0, ha, _⟩ := ha
    refine ⟨_, (pss_one (ps_ret (pe_tup (pa_cons (pe_fld (pv 0) (by rfl)) pa_nil)))), ?_⟩
    walk_at "rd"
    exact ⟨B, dx, _, ha, T.cB, T.aB_source, _, rfl, by rw [sizeLine_eq]; decide, fun p hp => q p _ upd_same (UL.Same.new hp)⟩
abbrev s_ReadWrite_writes : Stmt := inClass (top 28) 3
abbrev sc_ReadWrite_writes_N : List Str := ["self"]
theorem sc_ReadWrite_writes : FnScope sc_ReadWrite_writes_N ["self"] (defScope s_ReadWrite_writes) := ⟨rfl, rfl, rfl, by decide +kernel, rfl, by decide +kernel, by decide +kernel⟩
-- 0 self
theorem m_writesB (ap : Ap R Wr B) (T : PT K mg R Wr B Pg) (D : MD K B "writes" "ReadWrite.writes" s_ReadWrite_writes) : Mn P w K mg base CX0 1 B "writes" (sp_writes R Wr B B) := by
  refine D.mn sc_ReadWrite_writes (fun _ _ _ _ _ _ us hl => match us, hl with | [_], _ => rfl) (fun vs H Q E h => ?_) (fun f cdv A outer s H vs Q E hr h => ?_)
  · obtain ⟨a, k, rfl, _⟩ := h; rfl
  · obtain ⟨a, k, rfl, hc, ha, q⟩ := h
    obtain ⟨sr, l, t, fn, xs, rfl⟩ := cls_rw (a := ap) hc
    obtain ⟨dx, p0, ha, _⟩ := ha
    refine ⟨_, (pss_one (ps_ret (pe_tup (pa_cons (pe_fld (pv 0) (by rfl)) pa_nil)))), ?_⟩
    walk_at "rd"
    exact ⟨B, dx, _, ha, T.cB, T.aB_target, _, rfl, by rw [sizeLine_eq]; decide, fun p hp => q p _ upd_same (UL.Same.new hp)⟩
end
end U
set_option Elab.async false
set_option linter.all false
set_option maxRecDepth 100000
set_option maxHeartbeats 4000000
set_option pp.deepTerms true
set_option pp.maxSteps 400000
namespace U
open PySem PySem.Spec PyProof.Rows L2 UL UX
local macro_rules | `(tactic| walk_at "rd") => `(tactic| simp only [sMatch, tJs, tFmt, tBC, tMethA, tMakeL, iEnumS, tSeq, tAsg, tOp, tCB, tCons, tNil, tVar, tC, tB, tTest, tNot, tIfS, tNext, tYes, tUn, rU, tM0, tGFrom, tGThen, tG0, tYfLst, gcxK, tSubO, tProp, tListG, tMethG, tBMF, tFld, sFld, tMeth, tMake, tSl, tNoPart, tPart, tM1, gTup, gCons, gNil, tDrop, tFor_eq, tLc_eq, tLc2_eq, iRng1_eq, StX.tStar, iList, iTup, iStr, iAny_var, iZipB, tLenSetS, wipe, tVar, tAndV, tOrV, tNotV, tOr, tAnd, tLst, tTup, tBM, tBM0, tChain, tCall, cxK, noxK, addII, addSS, mulII, eqII, neII, neSS, cIntI, cAbsI, rI, rI0, rLt, rLe, rGt_, rGe_, rSub_, rMod, rPow, rDivW, rNeg, gName, tRet, L2.start, List.length_cons, List.length_nil, List.map_cons, List.map_nil, List.replicate, List.cons_append, List.nil_append, List.getElem?_cons_zero, List.getElem?_cons_succ, List.set_cons_zero, List.set_cons_succ, Option.some.injEq, exists_eq_left', exists_eq_left, V.int.injEq, V.bl.injEq, V.str.injEq, V.ref.injEq, V.ty.injEq, List.cons.injEq, and_true, true_and, reduceCtorEq, false_and, exists_false, or_false, false_or, exists_and_left, exists_and_right, List.append_nil, forall_eq, decide_eq_true_eq, Bool.not_eq_true, Nat.reduceAdd, Nat.reduceSub, List.replicate_zero, List.replicate_succ, Nat.zero_le, ite_true, ite_false, if_true, if_false])
section
variable {P : Program} {w : World} {K : PySem.W.Frag} {mg : Str → Option Value} {base : Heap}
variable {R Wr B Pg : Addr}
/-- what may follow a function's name -/
def argB (ws kn : List Str) : Bool := match ws with
  | [] => true
  | x :: r => decide (x = "of") && decide (1 ≤ r.length) && decide (r.length ≤ 3) && r.all fun y => decide (y ∈ kn)
theorem cut1 {x : Str} {r : List Str} : cutV ((x :: r).map V.str) (some 1) none = r.map V.str := by
  simp [cutV, HT.sIx]
  exact List.take_of_length_le (by simp)
theorem inV_str {z : Str} {kn : List Str} : inV (.str z) (kn.map V.str) = decide (z ∈ kn) := by
  induction kn with
  | nil => simp [inV]
  | cons y r ih =>
    have e : inV (.str z) ((y :: r).map V.str) = (eqV (.str y) (.str z) || inV (.str z) (r.map V.str)) := rfl
    rw [e, ih]
    by_cases h : z = y
    · subst h; simp [eqV]
    · have h2 : eqV (.str y) (.str z) = false := by simp [eqV, Ne.symm h]
      rw [h2]; simp [h]
theorem Same.tr {H H1 H2 : Hp} (a : Same H H1) (b : Same H1 H2) : Same H H2 := fun c o e => b c o (a c o e)
abbrev s_is_argument_part : Stmt := top 36
abbrev sc_is_argument_part_N : List Str := ["words", "known", ".0", "word"]
theorem sc_is_argument_part : FnScope sc_is_argument_part_N ["words", "known"] (defScope s_is_argument_part) := ⟨rfl, rfl, rfl, by decide +kernel, rfl, by decide +kernel, by decide +kernel⟩
-- 0 words, 1 known, 2 .0, 3 word
def sp_isarg : PySem.W.Frag → Sp := fun K vs H Q _ => ∃ (a b : Addr) (ws kn : List Str), vs = [.ref a, .ref b] ∧ SqL K H a (ws.map V.str) ∧ SqL K H b (kn.map V.str) ∧ ws.length ≤ 1000 ∧ kn.length ≤ 1000 ∧ ∀ H', Same H H' → Q (.bl (argB ws kn)) H'
theorem d_isarg (T : PT K mg R Wr B Pg) (D : TD K mg "is_argument_part" s_is_argument_part) : Dn P w K mg base CX0 1 "is_argument_part" (sp_isarg K) := by
  refine D.dn sc_is_argument_part (fun _ _ _ _ _ _ us hl => match us, hl with | [_, _], _ => rfl) (fun vs H Q E h => ?_) (fun f cdv A outer s H vs Q E hr h => ?_)
  · obtain ⟨a, b, ws, kn, rfl, _⟩ := h; rfl
  · obtain ⟨a, b, ws, kn, rfl, ha, hb, hw, hn, q⟩ := h
    refine ⟨_, (pss_cons (ps_if (pt_not (pt_truth (pv 0) (fun _ => rfl))) (pss_one (ps_ret pe_bl)) pss_nil)
      (pss_cons (ps_if (pw_or (pt_cmpR (op_neA (hr.units)) (pe_ix ix_seq (pv 0) pe_int (fun _ _ => rfl)) pe_str (nomark _)) (pw_or1 (pt_not (pt_chain op_leA op_leA pe_int (pe_callB call_lenA (by rfl) T.n_len (by decide +kernel) (pa_cons (pv 0) pa_nil)) (pe_op op_addA (C8.pe_gc (by rfl) T.c_MOST_ARGUMENTS) pe_int))))).pt (pss_one (ps_ret pe_bl)) pss_nil)
      (pss_one (ps_ret (pe_callB (cr_all rfl) (by rfl) T.n_all (by decide +kernel) (pa_cons (pe_lc (own := [(".0", 2), ("word", 3)]) (g := (gName 3)) (tt := tYes) rfl sc_is_argument_part.nd (pi_list (pe_slice sl_list (pv 0) (po_some pe_int) po_none)) (blkOk_by (N := sc_is_argument_part_N) (sc := defScope s_is_argument_part) (by decide +kernel)) (fun _ _ _ _ _ => pg_name (i := 3) sc_is_argument_part.nd rfl (Or.inl rfl)) (fun _ _ _ _ _ => pts_nil) (fun _ _ _ _ _ => (pe_cmpR (op_inK K rfl) (pv 3) (pv 1) (by with_unfolding_all rfl)))) pa_nil)))))), ?_⟩
    walk_at "rd"
    cases ws with
    | nil =>
      refine ⟨false, .inl ⟨_, ha, rfl⟩, ?_⟩
      rw [if_pos (by decide)]
      exact q _ fun _ _ z => z
    | cons x r =>
      rw [List.length_cons] at hw
      refine ⟨true, .inl ⟨_, ha, rfl⟩, ?_⟩
      rw [if_neg (by decide)]
      refine ixL ha (show atI _ ((0 : Nat) : Int) = some (V.str x) from atN rfl) (neSS.mpr ⟨_, rfl, ?_⟩)
      have no : argB (x :: r) kn = false → Q (.bl false) H := fun e => by have := q H (fun _ _ z => z); rw [e] at this; exact this
      by_cases e1 : x = "of"
      · rw [if_neg (by simp [e1])]
        refine lenL ha ⟨_, rfl, ?_⟩
        have hl : (((x :: r).map V.str).length : Int) = (r.length : Int) + 1 := by simp
        rw [hl]
        by_cases e2 : 1 ≤ r.length
        · rw [if_pos (by omega)]
          refine ⟨_, rfl, ?_⟩
          by_cases e3 : r.length ≤ 3
          · rw [if_neg (by simp; omega)]
            refine ⟨a, _, rfl, ha, fun p hp => ⟨p, rfl, ⟨_, .inl (.inl upd_same)⟩, fun D hD => ?_⟩⟩
            have ec : cutV ((x :: r).map V.str) (some 1) none = r.map V.str := cut1
            rw [ec] at hD ⊢
            have hp2 : upd H p (.lst (r.map V.str)) p = some (.lst (r.map V.str)) := upd_same
            refine LJ.it (walk_list (xs := r.map V.str)) (fun i H' => H' = upd (upd H p (.lst (r.map V.str))) D (.lst (((r.take i).map fun y => decide (y ∈ kn)).map V.bl))) rfl (fun i H' _ inv => ?_) (fun i y H1 H2 hi inv yy => ?_) fun H2 inv => ?_
            · subst inv
              exact .inl (.inl (by rw [upd_ne (ne_of_none upd_same hD)]; exact upd_same))
            · subst inv
              obtain ⟨rfl, hy⟩ := yy
              obtain ⟨z, hz, rfl⟩ : ∃ z, r[i]? = some z ∧ y = V.str z := by
                rw [List.getElem?_map] at hy
                cases e : r[i]? with
                | none => rw [e] at hy; cases hy
                | some z => rw [e] at hy; cases hy; exact ⟨z, rfl, rfl⟩
              refine ⟨rfl, ?_⟩
              walk_at "rd"
              refine .inr ⟨b, kn.map V.str, rfl, .inl ?_, rfl, by simp [flatV], _, upd_same, by simp [sizeLine_eq]; omega, ?_⟩
              · exact UL.Same.sqL (UL.Same.new hD) (UL.Same.sqL (UL.Same.new hp) hb)
              · rw [upd_upd, List.take_add_one, hz]
                simp [inV_str]
            · subst inv
              refine ⟨D, _, rfl, .inl (.inl upd_same), ?_⟩
              have ea : argB (x :: r) kn = (((r.take (r.map V.str).length).map fun y => decide (y ∈ kn)).all id) := by
                have h0 : r.take (r.map V.str).length = r := List.take_of_length_le (by simp)
                rw [h0]
                simp only [argB, e1, decide_eq_true e2, decide_eq_true e3, decide_true, Bool.true_and, List.all_map]
                rfl
              rw [← ea]
              exact q _ (UL.Same.put (UL.Same.new hp) (by
                cases e : H D with
                | none => rfl
                | some o => rw [UL.Same.new hp _ _ e] at hD; cases hD))
          · rw [if_pos (by simp; omega)]
            exact no (by simp [argB, e3])
        · rw [if_neg (by omega), if_pos (by decide)]
          exact no (by simp [argB]; omega)
      · rw [if_pos (by simp [e1])]
        exact no (by simp [argB, e1])
/-- a step, or None -/
def Gv (H : Hp) (R Wr B : Addr) (v : V) : Option Sk → Prop
  | none => v = .non
  | some k => ∃ a, v = .ref a ∧ StA H R Wr B a k
def mkR (s l : Str) : Option Sk := if (nmB s && nmB l) = true then some (.rd s l) else none
def mkW (t f : Str) (ws kn : List Str) : Option Sk := if (nmB t && nmB f && argB ws kn) = true then some (.wr t f (ws.drop 1)) else none
def mkB : Option Sk → Option Sk → Option Sk
  | some (.rd s l), some (.wr t f xs) => some (.rw s l t f xs)
  | _, _ => none
abbrev s_make_read : Stmt := top 33
abbrev sc_make_read_N : List Str := ["source", "local"]
theorem sc_make_read : FnScope sc_make_read_N ["source", "local"] (defScope s_make_read) := ⟨rfl, rfl, rfl, by decide +kernel, rfl, by decide +kernel, by decide +kernel⟩
-- 0 source, 1 local
def sp_mkR (R Wr B : Addr) : Sp := fun vs H Q _ => ∃ s l : Str, vs = [.str s, .str l] ∧ s.length ≤ 1000 ∧ l.length ≤ 1000 ∧ ∀ v H', Gv H' R Wr B v (mkR s l) → Same H H' → Q v H'
theorem d_mkR (T : PT K mg R Wr B Pg) (D : TD K mg "make_read" s_make_read) (d_is_name : Dn P w K mg base CX0 1 "is_name" sp_isnm) (k_Read : Kn P w K mg base CX0 1 R "Read" (sp_initR R B)) : Dn P w K mg base CX0 3 "make_read" (sp_mkR R Wr B) := by
  refine D.dn sc_make_read (fun _ _ _ _ _ _ us hl => match us, hl with | [_, _], _ => rfl) (fun vs H Q E h => ?_) (fun f cdv A outer s H vs Q E hr h => ?_)
  · obtain ⟨a, b, rfl, _⟩ := h; rfl
  · obtain ⟨sr, l, rfl, h1, h2, q⟩ := h
    refine ⟨_, (pss_cons (ps_if (pw_or (pt_not (pt_val (pe_d d_is_name hr (by decide) pass0 (by rfl) (pa_cons (pv 0) pa_nil)))) (pw_or1 (pt_not (pt_val (pe_d d_is_name hr (by decide) pass0 (by rfl) (pa_cons (pv 1) pa_nil)))))).pt (pss_one (ps_ret pe_non)) pss_nil)
      (pss_one (ps_ret (pe_k k_Read hr (by decide) pass0 (by rfl) (pa_cons (pv 0) (pa_cons (pv 1) pa_nil)))))), ?_⟩
    walk_at "rd"
    refine ⟨sr, rfl, h1, fun H1 s1 => ⟨_, rfl, ?_⟩⟩
    by_cases e1 : nmB sr = true
    · rw [if_neg (by simp [e1])]
      refine ⟨l, rfl, h2, fun H2 s2 => ⟨_, rfl, ?_⟩⟩
      by_cases e2 : nmB l = true
      · rw [if_neg (by simp [e2])]
        refine fun x dx hx hd hne => ⟨x, dx, R, sr, l, rfl, .inl rfl, upd_same, rfl, q _ _ ?_ ?_⟩
        · rw [mkR, if_pos (by simp [e1, e2])]
          exact ⟨x, rfl, dx, upd_same⟩
        · have s12 := Same.tr s1 s2
          exact fun c u e => by
            have e' := s12 c u e
            rw [upd_ne (ne_of_none e' hx), upd_ne (ne_of_none e' hx), upd_ne (ne_of_none e' hd)]
            exact e'
      · rw [if_pos (by simp [e2])]
        exact q _ _ (by rw [mkR, if_neg (by simp [e2])]; rfl) (Same.tr s1 s2)
    · rw [if_pos (by simp [e1])]
      exact q _ _ (by rw [mkR, if_neg (by simp [e1])]; rfl) s1
abbrev s_make_write : Stmt := top 34
abbrev sc_make_write_N : List Str := ["target", "function", "rest", "known"]
theorem sc_make_write : FnScope sc_make_write_N ["target", "function", "rest", "known"] (defScope s_make_write) := ⟨rfl, rfl, rfl, by decide +kernel, rfl, by decide +kernel, by decide +kernel⟩
-- 0 target, 1 function, 2 rest, 3 known
def sp_mkW (K : PySem.W.Frag) (R Wr B : Addr) : Sp := fun vs H Q _ => ∃ (t f : Str) (a b : Addr) (ws kn : List Str), vs = [.str t, .str f, .ref a, .ref b] ∧ t.length ≤ 1000 ∧ f.length ≤ 1000 ∧ SqL K H a (ws.map V.str) ∧ SqL K H b (kn.map V.str) ∧ ws.length ≤ 1000 ∧ kn.length ≤ 1000 ∧
  ∀ v H', Gv H' R Wr B v (mkW t f ws kn) → Same H H' → Q v H'
theorem d_mkW (T : PT K mg R Wr B Pg) (D : TD K mg "make_write" s_make_write) (d_is_name : Dn P w K mg base CX0 1 "is_name" sp_isnm) (d_is_argument_part : Dn P w K mg base CX0 1 "is_argument_part" (sp_isarg K)) (k_Write : Kn P w K mg base CX0 1 Wr "Write" (sp_initW K Wr B)) : Dn P w K mg base CX0 3 "make_write" (sp_mkW K R Wr B) := by
  refine D.dn sc_make_write (fun _ _ _ _ _ _ us hl => match us, hl with | [_, _, _, _], _ => rfl) (fun vs H Q E h => ?_) (fun f cdv A outer s H vs Q E hr h => ?_)
  · obtain ⟨t, f, a, b, ws, kn, rfl, _⟩ := h; rfl
  · obtain ⟨t, fn, a, b, ws, kn, rfl, h1, h2, ha, hb, hw, hn, q⟩ := h
    refine ⟨_, (pss_cons (ps_if (pw_or (pt_not (pt_val (pe_d d_is_name hr (by decide) pass0 (by rfl) (pa_cons (pv 0) pa_nil)))) (pw_or (pt_not (pt_val (pe_d d_is_name hr (by decide) pass0 (by rfl) (pa_cons (pv 1) pa_nil)))) (pw_or1 (pt_not (pt_val (pe_d d_is_argument_part hr (by decide) pass0 (by rfl) (pa_cons (pv 2) (pa_cons (pv 3) pa_nil)))))))).pt (pss_one (ps_ret pe_non)) pss_nil)
      (pss_one (ps_ret (pe_k k_Write hr (by decide) pass0 (by rfl) (pa_cons (pv 0) (pa_cons (pv 1) (pa_cons (pe_slice sl_list (pv 2) (po_some pe_int) po_none) pa_nil))))))), ?_⟩
    walk_at "rd"
    refine ⟨t, rfl, h1, fun H1 s1 => ⟨_, rfl, ?_⟩⟩
    by_cases e1 : nmB t = true
    · rw [if_neg (by simp [e1])]
      refine ⟨fn, rfl, h2, fun H2 s2 => ⟨_, rfl, ?_⟩⟩
      have s12 := Same.tr s1 s2
      by_cases e2 : nmB fn = true
      · rw [if_neg (by simp [e2])]
        refine ⟨a, b, ws, kn, rfl, UL.Same.sqL s12 ha, UL.Same.sqL s12 hb, hw, hn, fun H3 s3 => ⟨_, rfl, ?_⟩⟩
        have s13 := Same.tr s12 s3
        by_cases e3 : argB ws kn = true
        · rw [if_neg (by simp [e3])]
          refine ⟨a, _, rfl, UL.Same.sqL s13 ha, fun p hp x dx hx hd hne => ?_⟩
          have ec : cutV (ws.map V.str) (some 1) none = (ws.drop 1).map V.str := by
            cases ws with
            | nil => rfl
            | cons y r => exact cut1
          rw [ec] at hx hd ⊢
          have s14 : Same H (upd (upd (upd H3 p (.lst ((ws.drop 1).map V.str))) dx (.own x)) x (.ins Wr dx [])) := fun c u e => by
            have e' := s13 c u e
            have e2 := UL.Same.new (o := .lst ((ws.drop 1).map V.str)) hp c u e'
            rw [upd_ne (ne_of_none e2 hx), upd_ne (ne_of_none e2 hd)]
            exact e2
          have hxp : p ≠ x := ne_of_none upd_same hx
          have hdp : p ≠ dx := ne_of_none upd_same hd
          refine ⟨x, dx, Wr, p, t, fn, ws.drop 1, [], rfl, .inl ⟨rfl, rfl⟩, upd_same, .inl (.inl (.inl (by rw [upd_ne hxp, upd_ne hdp]; exact upd_same))), fun r H5 hr hx5 b5 => ⟨rfl, q _ _ ?_ ?_⟩⟩
          · rw [mkW, if_pos (by simp [e1, e2, e3])]
            exact ⟨x, rfl, dx, r, hx5, hr⟩
          · have hx0 : H x = none := by
              cases e : H x with
              | none => rfl
              | some o => rw [UL.Same.new hp x o (s13 x o e)] at hx; cases hx
            exact fun c u e => b5 c u (s14 c u e) (ne_of_none e hx0)
        · rw [if_pos (by simp [e3])]
          exact q _ _ (by rw [mkW, if_neg (by simp [e3])]; rfl) s13
      · rw [if_pos (by simp [e2])]
        exact q _ _ (by rw [mkW, if_neg (by simp [e2])]; rfl) s12
    · rw [if_pos (by simp [e1])]
      exact q _ _ (by rw [mkW, if_neg (by simp [e1])]; rfl) s1
abbrev s_make_both : Stmt := top 35
abbrev sc_make_both_N : List Str := ["first", "second"]
theorem sc_make_both : FnScope sc_make_both_N ["first", "second"] (defScope s_make_both) := ⟨rfl, rfl, rfl, by decide +kernel, rfl, by decide +kernel, by decide +kernel⟩
-- 0 first, 1 second
def sp_mkB (R Wr B : Addr) : Sp := fun vs H Q _ => ∃ (u v : V) (o1 o2 : Option Sk), vs = [u, v] ∧ Gv H R Wr B u o1 ∧ Gv H R Wr B v o2 ∧ (o1 = none ∨ ∃ s l, o1 = some (.rd s l)) ∧ (o2 = none ∨ ∃ t f xs, o2 = some (.wr t f xs)) ∧ ∀ v H', Gv H' R Wr B v (mkB o1 o2) → Same H H' → Q v H'
theorem d_mkB (T : PT K mg R Wr B Pg) (D : TD K mg "make_both" s_make_both) (k_ReadWrite : Kn P w K mg base CX0 2 B "ReadWrite" (sp_initB K R Wr B)) : Dn P w K mg base CX0 4 "make_both" (sp_mkB R Wr B) := by
  refine D.dn sc_make_both (fun _ _ _ _ _ _ us hl => match us, hl with | [_, _], _ => rfl) (fun vs H Q E h => ?_) (fun f cdv A outer s H vs Q E hr h => ?_)
  · obtain ⟨t, f, a, b, rfl, _⟩ := h; rfl
  · obtain ⟨u, v, o1, o2, rfl, g1, g2, c1, c2, q⟩ := h
    refine ⟨_, (pss_cons (ps_if (pw_or (pt_cmpR op_isNone (pv 0) pe_non (nomark _)) (pw_or1 (pt_cmpR op_isNone (pv 1) pe_non (nomark _)))).pt (pss_one (ps_ret pe_non)) pss_nil)
      (pss_one (ps_ret (pe_k k_ReadWrite hr (by decide) pass0 (by rfl) (pa_cons (pe_fld (pv 0) (by rfl)) (pa_cons (pe_fld (pv 0) (by rfl)) (pa_cons (pe_fld (pv 1) (by rfl)) (pa_cons (pe_fld (pv 1) (by rfl)) (pa_cons (pe_fld (pv 1) (by rfl)) pa_nil))))))))), ?_⟩
    walk_at "rd"
    rcases c1 with rfl | ⟨sr, l, rfl⟩
    · obtain rfl : u = .non := g1
      refine ⟨rfl, _, rfl, ?_⟩
      rw [if_pos (by simp)]
      exact q _ _ (show Gv H R Wr B .non none from rfl) fun _ _ z => z
    · obtain ⟨a, rfl, dxa, ha⟩ := g1
      refine ⟨rfl, _, rfl, ?_⟩
      rw [if_neg (by simp)]
      rcases c2 with rfl | ⟨t, fn, xs, rfl⟩
      · obtain rfl : v = .non := g2
        refine ⟨rfl, _, rfl, ?_⟩
        rw [if_pos (by simp)]
        exact q _ _ (show Gv H R Wr B .non none from rfl) fun _ _ z => z
      · obtain ⟨b, rfl, dxb, p, hb, hp⟩ := g2
        refine ⟨rfl, _, rfl, ?_⟩
        rw [if_neg (by simp)]
        refine ⟨a, rfl, R, dxa, _, ha, T.cR, T.aR_source, _, rfl, a, rfl, R, dxa, _, ha, T.cR, T.aR_local, _, rfl, b, rfl, Wr, dxb, _, hb, T.cW, T.aW_target, _, rfl, b, rfl, Wr, dxb, _, hb, T.cW, T.aW_function, _, rfl, b, rfl, Wr, dxb, _, hb, T.cW, T.aW_arguments, _, rfl, fun x dx hx hd hne => ?_⟩
        have s1 : Same H (upd (upd H dx (.own x)) x (.ins B dx [])) := fun c u e => by
          rw [upd_ne (ne_of_none e hx), upd_ne (ne_of_none e hd)]
          exact e
        exact ⟨x, dx, p, sr, l, t, fn, xs, rfl, upd_same, .inr (FT.same s1 hp), fun H5 st b5 => ⟨rfl, q _ _ ⟨x, rfl, st⟩ fun c u e => b5 c u (s1 c u e) (ne_of_none e hx)⟩⟩
end
end U
set_option Elab.async false
set_option linter.all false
set_option maxRecDepth 100000
set_option maxHeartbeats 4000000
set_option pp.deepTerms true
set_option pp.maxSteps 400000
namespace U
open PySem PySem.Spec PyProof.Rows L2 UL UX
local macro_rules | `(tactic| walk_at "rd") => `(tactic| simp only [sMatch, tJs, tFmt, tBC, tMethA, tMakeL, iEnumS, tSeq, tAsg, tOp, tCB, tCons, tNil, tVar, tC, tB, tTest, tNot, tIfS, tNext, tYes, tUn, rU, tM0, tGFrom, tGThen, tG0, tYfLst, gcxK, tSubO, tProp, tListG, tMethG, tBMF, tFld, sFld, tMeth, tMake, tSl, tNoPart, tPart, tM1, gTup, gCons, gNil, tDrop, tFor_eq, tLc_eq, tLc2_eq, iRng1_eq, StX.tStar, iList, iTup, iStr, iAny_var, iZipB, tLenSetS, wipe, tVar, tAndV, tOrV, tNotV, tOr, tAnd, tLst, tTup, tBM, tBM0, tChain, tCall, cxK, noxK, addII, addSS, mulII, eqII, neII, neSS, cIntI, cAbsI, rI, rI0, rLt, rLe, rGt_, rGe_, rSub_, rMod, rPow, rDivW, rNeg, gName, tRet, L2.start, List.length_cons, List.length_nil, List.map_cons, List.map_nil, List.replicate, List.cons_append, List.nil_append, List.getElem?_cons_zero, List.getElem?_cons_succ, List.set_cons_zero, List.set_cons_succ, Option.some.injEq, exists_eq_left', exists_eq_left, V.int.injEq, V.bl.injEq, V.str.injEq, V.ref.injEq, V.ty.injEq, List.cons.injEq, and_true, true_and, reduceCtorEq, false_and, exists_false, or_false, false_or, exists_and_left, exists_and_right, List.append_nil, forall_eq, decide_eq_true_eq, Bool.not_eq_true, Nat.reduceAdd, Nat.reduceSub, List.replicate_zero, List.replicate_succ, Nat.zero_le, ite_true, ite_false, if_true, if_false])
section
variable {P : Program} {w : World} {K : PySem.W.Frag} {mg : Str → Option Value} {base : Heap}
variable {R Wr B Pg : Addr}
abbrev W (ws : List Str) (i : Nat) : Str := ws.getD i Str.empty
abbrev I1 : List Itm := [.wd "read", .nm 2, .wd "as", .nm 3]
abbrev I2 : List Itm := [.wd "write", .nm 4, .wd "by", .nm 5]
abbrev I3 : List Itm := [.wd "read", .nm 2, .wd "as", .nm 3, .wd "write", .nm 4, .wd "by", .nm 5]
def hR (ws : List Str) : Prop := ws.length = 4 ∧ W ws 0 = "read" ∧ W ws 2 = "as"
def hW (ws : List Str) : Prop := 4 ≤ ws.length ∧ W ws 0 = "write" ∧ W ws 2 = "by"
def hB (ws : List Str) : Prop := 8 ≤ ws.length ∧ W ws 0 = "read" ∧ W ws 2 = "as" ∧ W ws 4 = "write" ∧ W ws 6 = "by"
instance : DecidablePred hR := fun ws => inferInstanceAs (Decidable (_ ∧ _))
instance : DecidablePred hW := fun ws => inferInstanceAs (Decidable (_ ∧ _))
instance : DecidablePred hB := fun ws => inferInstanceAs (Decidable (_ ∧ _))
/-- the step that these words tell, kn the variables read before -/
def stepO (ws kn : List Str) : Option Sk :=
  if hR ws then mkR (W ws 1) (W ws 3) else if hW ws then mkW (W ws 1) (W ws 3) (ws.drop 4) kn else if hB ws then mkB (mkR (W ws 1) (W ws 3)) (mkW (W ws 5) (W ws 7) (ws.drop 8) (kn ++ [W ws 3])) else none
theorem mt1 (ws : List Str) : UX.mt I1 ws = if hR ws then some [(2, .str (W ws 1)), (3, .str (W ws 3))] else none := by
  match ws with
  | [] => simp [UX.mt, hR]
  | [a] => simp [UX.mt, hR]
  | [a, b] => simp [UX.mt, hR]
  | [a, b, c] => simp [UX.mt, hR]
  | [a, b, c, d] =>
    by_cases h1 : a = "read" <;> by_cases h2 : c = "as" <;> simp [UX.mt, hR, W, h1, h2]
  | a :: b :: c :: d :: e :: r => simp [UX.mt, hR]
theorem mt2 (ws : List Str) (h : 4 ≤ ws.length) : UX.mt I2 (ws.take 4) = if hW ws then some [(4, .str (W ws 1)), (5, .str (W ws 3))] else none := by
  match ws, h with
  | a :: b :: c :: d :: r, _ =>
    by_cases h1 : a = "write" <;> by_cases h2 : c = "by" <;> simp [UX.mt, hW, W, h1, h2]
theorem mt3 (ws : List Str) (h : 8 ≤ ws.length) : UX.mt I3 (ws.take 8) = if hB ws then some [(2, .str (W ws 1)), (3, .str (W ws 3)), (4, .str (W ws 5)), (5, .str (W ws 7))] else none := by
  match ws, h with
  | a :: b :: c :: d :: e :: f :: g :: i :: r, _ =>
    by_cases h1 : a = "read" <;> by_cases h2 : c = "as" <;> by_cases h3 : e = "write" <;> by_cases h4 : g = "by" <;> simp [UX.mt, hB, W, h1, h2, h3, h4]
theorem W_le {ws : List Str} {n : Nat} (h : ∀ x ∈ ws, x.length ≤ n) (i : Nat) : (W ws i).length ≤ n := by
  by_cases hi : i < ws.length
  · have e : W ws i = ws[i] := by simp [W, hi]
    rw [e]; exact h _ (List.getElem_mem hi)
  · have e : W ws i = Str.empty := by simp [W]; rw [List.getElem?_eq_none (by omega)]; rfl
    rw [e]; exact Nat.zero_le _
theorem Gv.same {H H' : Hp} {v : V} : ∀ {o : Option Sk}, Same H H' → Gv H R Wr B v o → Gv H' R Wr B v o
  | none, _, h => h
  | some _, s, ⟨a, e, g⟩ => ⟨a, e, StA.same s g⟩
theorem mkR_sh {s l : Str} : mkR s l = none ∨ ∃ s' l', mkR s l = some (.rd s' l') := by
  unfold mkR
  split
  · exact .inr ⟨_, _, rfl⟩
  · exact .inl rfl
theorem mkW_sh {t f : Str} {ws kn : List Str} : mkW t f ws kn = none ∨ ∃ t' f' xs, mkW t f ws kn = some (.wr t' f' xs) := by
  unfold mkW
  split
  · exact .inr ⟨_, _, _, rfl⟩
  · exact .inl rfl
abbrev s_parse_step : Stmt := top 32
abbrev sc_parse_step_N : List Str := ["line", "known", "source", "local", "target", "function", "rest"]
theorem sc_parse_step : FnScope sc_parse_step_N ["line", "known"] (defScope s_parse_step) := ⟨rfl, rfl, rfl, by decide +kernel, rfl, by decide +kernel, by decide +kernel⟩
-- 0 line, 1 known, 2 source, 3 local, 4 target, 5 function, 6 rest
def sp_pstep (K : PySem.W.Frag) (R Wr B : Addr) : Sp := fun vs H Q _ => ∃ (z : Str) (b : Addr) (kn : List Str), vs = [.str z, .ref b] ∧ z.length ≤ 900 ∧ SqL K H b (kn.map V.str) ∧ kn.length ≤ 900 ∧ (∀ x ∈ Txt.split z " ", x.length ≤ 1000) ∧ (Txt.split z " ").length ≤ 1000 ∧
  ∀ v H', Gv H' R Wr B v (stepO (Txt.split z " ") kn) → Same H H' → Q v H'
theorem d_pstep (T : PT K mg R Wr B Pg) (D : TD K mg "parse_step" s_parse_step) (d_make_read : Dn P w K mg base CX0 3 "make_read" (sp_mkR R Wr B)) (d_make_write : Dn P w K mg base CX0 3 "make_write" (sp_mkW K R Wr B)) (d_make_both : Dn P w K mg base CX0 4 "make_both" (sp_mkB R Wr B)) :
    Dn P w K mg base CX0 5 "parse_step" (sp_pstep K R Wr B) := by
  refine D.dn sc_parse_step (fun _ _ _ _ _ _ us hl => match us, hl with | [_, _], _ => rfl) (fun vs H Q E h => ?_) (fun f cdv A outer s H vs Q E hr h => ?_)
  · obtain ⟨z, b, kn, rfl, _⟩ := h; rfl
  · obtain ⟨z, b, kn, rfl, hz, hb, hk, hw, hn, q⟩ := h
    refine ⟨_, (pss_one (ps_match (pe_split (pv 0) pe_str) (pm_seq (its := [.wd "read", .nm 2, .wd "as", .nm 3]) sc_parse_step.nd rfl (.cons ⟨_, _, _, rfl⟩ (.cons ⟨_, _, rfl, rfl, (Or.inl rfl), Or.inl rfl⟩ (.cons ⟨_, _, _, rfl⟩ (.cons ⟨_, _, rfl, rfl, (Or.inl rfl), Or.inl rfl⟩ .nil)))) (pss_one (ps_ret (pe_d d_make_read hr (by decide) pass0 (by rfl) (pa_cons (pv 2) (pa_cons (pv 3) pa_nil))))) (pm_starL (its := [.wd "write", .nm 4, .wd "by", .nm 5]) (i := 6) sc_parse_step.nd rfl rfl (.cons ⟨_, _, _, rfl⟩ (.cons ⟨_, _, rfl, rfl, (Or.inl rfl), Or.inl rfl⟩ (.cons ⟨_, _, _, rfl⟩ (.cons ⟨_, _, rfl, rfl, (Or.inl rfl), Or.inl rfl⟩ .nil)))) ⟨rfl, (Or.inl rfl), Or.inl rfl⟩ (pss_one (ps_ret (pe_d d_make_write hr (by decide) pass0 (by rfl) (pa_cons (pv 4) (pa_cons (pv 5) (pa_cons (pv 6) (pa_cons (pv 1) pa_nil))))))) (pm_starL (its := [.wd "read", .nm 2, .wd "as", .nm 3, .wd "write", .nm 4, .wd "by", .nm 5]) (i := 6) sc_parse_step.nd rfl rfl (.cons ⟨_, _, _, rfl⟩ (.cons ⟨_, _, rfl, rfl, (Or.inl rfl), Or.inl rfl⟩ (.cons ⟨_, _, _, rfl⟩ (.cons ⟨_, _, rfl, rfl, (Or.inl rfl), Or.inl rfl⟩ (.cons ⟨_, _, _, rfl⟩ (.cons ⟨_, _, rfl, rfl, (Or.inl rfl), Or.inl rfl⟩ (.cons ⟨_, _, _, rfl⟩ (.cons ⟨_, _, rfl, rfl, (Or.inl rfl), Or.inl rfl⟩ .nil)))))))) ⟨rfl, (Or.inl rfl), Or.inl rfl⟩ (pss_one (ps_ret (pe_d d_make_both hr (by decide) pass0 (by rfl) (pa_cons (pe_d d_make_read hr (by decide) pass0 (by rfl) (pa_cons (pv 2) (pa_cons (pv 3) pa_nil))) (pa_cons (pe_d d_make_write hr (by decide) pass0 (by rfl) (pa_cons (pv 4) (pa_cons (pv 5) (pa_cons (pv 6) (pa_cons (pe_lst (pa_starK K rfl (pv 1) (pa_cons (pv 3) pa_nil))) pa_nil))))) pa_nil))))) (pm_any (pss_one (ps_ret pe_non))) (by decide) rfl rfl) (by decide) rfl rfl)))), ?_⟩
    walk_at "rd"
    have l1 : ((" " : Str).length == 0) = false := by decide +kernel
    refine ⟨⟨z, rfl⟩, l1, by rw [sizeLine_eq]; omega, fun p hp => ⟨p, rfl, Txt.split z " ", .inl (.inl upd_same), ?_⟩⟩
    generalize Txt.split z " " = ws at hw hn q ⊢
    have sp : Same H (upd H p (.lst (ws.map V.str))) := UL.Same.new hp
    have wl := W_le hw
    have ln : ∀ n x, x ∈ ws.drop n → x.length ≤ 1000 := fun n x hx => hw x (List.mem_of_mem_drop hx)
    unfold sSeq
    rw [mt1]
    by_cases c1 : hR ws
    · rw [if_pos c1]
      simp only [puts]
      walk_at "rd"
      exact ⟨_, _, rfl, wl 1, wl 3, fun v H' g s' => q v H' (by rw [stepO, if_pos c1]; exact g) (Same.tr sp s')⟩
    · rw [if_neg c1]
      unfold sStar
      simp only [List.length_cons, List.length_nil, Nat.reduceAdd]
      by_cases h4 : 4 ≤ ws.length
      · rw [if_pos h4, mt2 ws h4]
        by_cases c2 : hW ws
        · rw [if_pos c2]
          refine fun r hr => ?_
          simp only [puts, List.cons_append, List.nil_append]
          walk_at "rd"
          have s2 := Same.tr sp (UL.Same.new (o := .lst ((ws.drop 4).map V.str)) hr)
          exact ⟨_, _, r, b, ws.drop 4, kn, rfl, wl 1, wl 3, .inl (.inl upd_same), UL.Same.sqL s2 hb, by rw [List.length_drop]; omega, by omega, fun v H' g s' => q v H' (by rw [stepO, if_neg c1, if_pos c2]; exact g) (Same.tr s2 s')⟩
        · rw [if_neg c2]
          dsimp only
          by_cases h8 : 8 ≤ ws.length
          · rw [if_pos h8, mt3 ws h8]
            by_cases c3 : hB ws
            · rw [if_pos c3]
              refine fun r hr => ?_
              simp only [puts, List.cons_append, List.nil_append]
              walk_at "rd"
              have s2 := Same.tr sp (UL.Same.new (o := .lst ((ws.drop 8).map V.str)) hr)
              refine ⟨_, _, rfl, wl 1, wl 3, fun v1 H1 g1 s1 => ?_⟩
              have s3 := Same.tr s2 s1
              refine ⟨kn.map V.str, .inr (UL.Same.sqL s3 hb), by simp [sizeLine_eq]; omega, fun p2 hp2 => ?_⟩
              have s4 : Same H (upd H1 p2 (.lst (kn.map V.str ++ [V.str (W ws 3)]))) := Same.tr s3 (UL.Same.new hp2)
              refine ⟨_, _, r, p2, ws.drop 8, kn ++ [W ws 3], rfl, wl 5, wl 7, .inl (.inl (UL.Same.new hp2 _ _ (s1 _ _ upd_same))), .inl (.inl (by rw [upd_same]; simp)), by rw [List.length_drop]; omega, by simp; omega, fun v2 H5 g2 s5 => ?_⟩
              refine ⟨v1, v2, _, _, rfl, Gv.same (Same.tr (UL.Same.new hp2) s5) g1, g2, mkR_sh, mkW_sh, fun v H6 g s6 => q v H6 (by rw [stepO, if_neg c1, if_neg c2, if_pos c3]; exact g) (Same.tr (Same.tr s4 s5) s6)⟩
            · rw [if_neg c3]
              walk_at "rd"
              exact q _ _ (by rw [stepO, if_neg c1, if_neg c2, if_neg c3]; rfl) sp
          · rw [if_neg h8]
            walk_at "rd"
            exact q _ _ (by rw [stepO, if_neg c1, if_neg c2, if_neg fun h => h8 h.1]; rfl) sp
      · rw [if_neg h4]
        have c2 : ¬ hW ws := fun h => h4 h.1
        have h8 : ¬ 8 ≤ ws.length := by omega
        rw [if_neg h8]
        walk_at "rd"
        exact q _ _ (by rw [stepO, if_neg c1, if_neg c2, if_neg fun h => h8 h.1]; rfl) sp
def Sk.loc : Sk → List Str
  | .rd _ l | .rw _ l _ _ _ => [l]
  | .wr .. => []
/-- the steps that these lines tell -/
def stepsO : List Str → List Str → Option (List Sk)
  | [], _ => some []
  | z :: r, kn => match stepO (Txt.split z " ") kn with
    | none => none
    | some k => match stepsO r (kn ++ k.loc) with
      | none => none
      | some ks => some (k :: ks)
/-- a line that is not too long, nor are its words -/
def LnOk (z : Str) : Prop := z.length ≤ 900 ∧ (∀ x ∈ Txt.split z " ", x.length ≤ 1000) ∧ (Txt.split z " ").length ≤ 1000
theorem FJ.enumS {k : Nat} {a : Addr} {xs : List V} {g : TG} {tb : TS} {D : Ends} {σ : L2.St} {H : Hp} (Pv : Nat → L2.St → Hp → Prop) (h0 : Pv 0 σ H) (hl : ∀ i σ H, i ≤ xs.length → Pv i σ H → SqL K H a xs)
    (hs : ∀ (i : Nat) (x : V) (T : Addr) (σ : L2.St) (H : Hp), xs[i]? = some x → Pv i σ H → H T = none → g (.ref T) σ (upd H T (.tup [.int (i + k : Nat), x])) fun σ2 H2 => tb { D with nx := Pv (i + 1), ct := Pv (i + 1), bk := D.nx } σ2 H2) (hd : ∀ σ H, Pv xs.length σ H → D.nx σ H) :
    FJ (IteS K k a) g tb D σ H := for_it walk_enumS Pv h0 hl (fun i v σ H H' hi p y => by
      obtain ⟨T, x, y', rfl, hT, rfl, e1, e2⟩ := y
      cases e1
      exact hs i y' T σ H e2 p hT) hd
theorem FT.put {H : Hp} {a p : Addr} {xs zs : List V} {o : HO} (hp : H p = some (.lst zs)) (h : FT H a xs) : FT (upd H p o) a xs := by
  obtain ⟨o', e, d⟩ := h
  exact ⟨o', by rw [upd_ne (fun q => by rw [q, hp] at e; cases e)]; exact e, d⟩
theorem StA.put {H : Hp} {a p : Addr} {zs : List V} {o : HO} {k : Sk} (hp : H p = some (.lst zs)) (h : StA H R Wr B a k) : StA (upd H p o) R Wr B a k := by
  have ne : ∀ {C dx fs}, H a = some (.ins C dx fs) → upd H p o a = some (.ins C dx fs) := fun e => by rw [upd_ne (fun q => by rw [q, hp] at e; cases e)]; exact e
  cases k with
  | rd => obtain ⟨dx, e⟩ := h; exact ⟨dx, ne e⟩
  | wr => obtain ⟨dx, q, e, f⟩ := h; exact ⟨dx, q, ne e, FT.put hp f⟩
  | rw => obtain ⟨dx, q, e, f⟩ := h; exact ⟨dx, q, ne e, FT.put hp f⟩
abbrev s_parse_header : Stmt := top 30
abbrev sc_parse_header_N : List Str := ["line", "words"]
theorem sc_parse_header : FnScope sc_parse_header_N ["line"] (defScope s_parse_header) := ⟨rfl, rfl, rfl, by decide +kernel, rfl, by decide +kernel, by decide +kernel⟩
-- 0 line, 1 words
def sp_phead : Sp := fun vs H Q _ => ∃ (z n : Str), vs = [.str z] ∧ Txt.split z " " = [("program" : Str), n] ∧ nmB n = true ∧ z.length ≤ 900 ∧ n.length ≤ 1000 ∧ ∀ H', Same H H' → Q (.str n) H'
theorem d_phead (T : PT K mg R Wr B Pg) (D : TD K mg "parse_header" s_parse_header) (d_is_name : Dn P w K mg base CX0 1 "is_name" sp_isnm) : Dn P w K mg base CX0 2 "parse_header" sp_phead := by
  refine D.dn sc_parse_header (fun _ _ _ _ _ _ us hl => match us, hl with | [_], _ => rfl) (fun vs H Q E h => ?_) (fun f cdv A outer s H vs Q E hr h => ?_)
  · obtain ⟨z, n, rfl, _⟩ := h; rfl
  · obtain ⟨z, n, rfl, hz, hn, hl, hm, q⟩ := h
    refine ⟨_, (pss_cons (ps_set (i := 1) sc_parse_header.nd rfl (Or.inl rfl) (pe_split (pv 0) pe_str))
      (pss_cons (ps_if (pw_or (pt_cmpR (op_neA (hr.units)) (pe_callB call_lenA (by rfl) T.n_len (by decide +kernel) (pa_cons (pv 1) pa_nil)) pe_int (nomark _)) (pw_or (pt_cmpR (op_neA (hr.units)) (pe_ix ix_seq (pv 1) pe_int (fun _ _ => rfl)) pe_str (nomark _)) (pw_or1 (pt_not (pt_val (pe_d d_is_name hr (by decide) pass0 (by rfl) (pa_cons (pe_ix ix_seq (pv 1) pe_int (fun _ _ => rfl)) pa_nil))))))).pt pss_never pss_nil)
      (pss_one (ps_ret (pe_ix ix_seq (pv 1) pe_int (fun _ _ => rfl)))))), ?_⟩
    walk_at "rd"
    have l1 : ((" " : Str).length == 0) = false := by decide +kernel
    refine ⟨⟨z, rfl⟩, l1, by rw [sizeLine_eq]; omega, fun p hp => ?_⟩
    rw [hz]
    have sq : SqL K (upd H p (.lst ([("program" : Str), n].map V.str))) p ([("program" : Str), n].map V.str) := .inl (.inl upd_same)
    refine lenL sq (neII.mpr ⟨_, rfl, ?_⟩)
    rw [if_neg (by simp)]
    refine ixL sq (show atI _ ((0 : Nat) : Int) = some (V.str "program") from atN rfl) (neSS.mpr ⟨_, rfl, ?_⟩)
    rw [if_neg (by simp)]
    refine ixL sq (show atI _ ((1 : Nat) : Int) = some (V.str n) from atN rfl) ⟨n, rfl, by omega, fun H' s' => ⟨_, rfl, ?_⟩⟩
    rw [if_neg (by simp [hn])]
    exact ixL (UL.Same.sqL s' sq) (show atI _ ((1 : Nat) : Int) = some (V.str n) from atN rfl) (q _ (Same.tr (UL.Same.new hp) s'))
abbrev s_parse_steps : Stmt := top 31
abbrev sc_parse_steps_N : List Str := ["lines", "steps", "known", "number", "line", "step"]
theorem sc_parse_steps : FnScope sc_parse_steps_N ["lines"] (defScope s_parse_steps) := ⟨rfl, rfl, rfl, by decide +kernel, rfl, by decide +kernel, by decide +kernel⟩
-- 0 lines, 1 steps, 2 known, 3 number, 4 line, 5 step
def sp_psteps (K : PySem.W.Frag) (R Wr B : Addr) : Sp := fun vs H Q _ => ∃ (a : Addr) (zs : List Str) (ks : List Sk), vs = [.ref a] ∧ SqL K H a (zs.map V.str) ∧ zs.length ≤ 4 ∧ (∀ z ∈ zs, LnOk z) ∧ stepsO zs [] = some ks ∧
  ∀ q ts H', H q = none → H' q = some (.lst (ts.map V.ref)) → Paired (fun t k => StA H' R Wr B t k) ts ks → Same H H' → Q (.ref q) H'
theorem d_psteps (T : PT K mg R Wr B Pg) (D : TD K mg "parse_steps" s_parse_steps) (d_parse_step : Dn P w K mg base CX0 5 "parse_step" (sp_pstep K R Wr B)) : Dn P w K mg base CX0 6 "parse_steps" (sp_psteps K R Wr B) := by
  refine D.dn sc_parse_steps (fun _ _ _ _ _ _ us hl => match us, hl with | [_], _ => rfl) (fun vs H Q E h => ?_) (fun f cdv A outer s H vs Q E hr h => ?_)
  · obtain ⟨a, zs, ks, rfl, _⟩ := h; rfl
  · obtain ⟨a, zs, ks, rfl, ha, hz, hl, hk, q⟩ := h
    refine ⟨_, (pss_cons (ps_set (i := 1) sc_parse_steps.nd rfl (Or.inl rfl) (pe_lst pa_nil))
      (pss_cons (ps_set (i := 2) sc_parse_steps.nd rfl (Or.inl rfl) (pe_lst pa_nil))
      (pss_cons (ps_for PassesOwn.never rfl (pi_enumS (by decide) (by rfl) T.n_enumerate (pa_cons (pv 0) pa_nil)) (pg_tup rfl (pgs_cons (pg_name (i := 3) sc_parse_steps.nd rfl (Or.inl rfl)) (pgs_cons (pg_name (i := 4) sc_parse_steps.nd rfl (Or.inl rfl)) pgs_nil))) (pss_cons (ps_set (i := 5) sc_parse_steps.nd rfl (Or.inl rfl) (pe_d d_parse_step hr (by decide) pass0 (by rfl) (pa_cons (pv 4) (pa_cons (pv 2) pa_nil))))
      (pss_cons (ps_if (pw_or (pt_cmpR op_isNone (pv 5) pe_non (nomark _)) (pw_or1 (pt_cmpR (op_eqA (hr.units)) (pe_callB call_lenA (by rfl) T.n_len (by decide +kernel) (pa_cons (pv 1) pa_nil)) (C8.pe_gc (by rfl) T.c_MOST_STEPS) (nomark _)))).pt pss_never pss_nil)
      (pss_cons (ps_expr (pe_bm PySem.F.plainAttrs_list PySem.F.slot_list_append PySem.F.type_list_append mt_append (pv 1) (pa_cons (pv 5) pa_nil)))
      (pss_one (ps_if (pt_val (pe_callB call_isi (by rfl) T.n_isinstance (by decide +kernel) (pa_cons (pv 5) (pa_cons (C8.pe_gc (by rfl) T.c_Read) pa_nil)))) (pss_one (ps_expr (pe_bm PySem.F.plainAttrs_list PySem.F.slot_list_append PySem.F.type_list_append mt_append (pv 2) (pa_cons (pe_fld (pv 5) (by rfl)) pa_nil)))) pss_nil))))))
      (pss_one (ps_ret (pv 1)))))), ?_⟩
    walk_at "rd"
    refine fun p hp p1 hp1 => ⟨⟨_, UL.Same.sqL (UL.Same.new hp1) (UL.Same.sqL (UL.Same.new hp) ha)⟩, ?_⟩
    have n01 : p ≠ p1 := ne_of_none upd_same hp1
    have hp1H : H p1 = none := by rw [upd_ne (Ne.symm n01)] at hp1; exact hp1
    refine FJ.enumS (xs := zs.map V.str) (fun i σ' H' => ∃ (ts : List Addr) (dn rest : List Sk) (kn : List Str) (x y z : Option V), σ' = [some (.ref a), some (.ref p), some (.ref p1), x, y, z] ∧ H' p = some (.lst (ts.map V.ref)) ∧ H' p1 = some (.lst (kn.map V.str)) ∧ Paired (fun t k => StA H' R Wr B t k) ts dn ∧
      stepsO (zs.drop i) kn = some rest ∧ ks = dn ++ rest ∧ ts.length = i ∧ kn.length ≤ i ∧ Same H H') ?_ (fun i σ' H' _ inv => ?_) (fun i x tq σ' H' hx inv hT => ?_) fun σ' H' inv => ?_
    · exact ⟨[], [], ks, [], _, _, _, rfl, by rw [upd_ne n01]; exact upd_same, upd_same, .nil, hk, rfl, rfl, Nat.zero_le _, Same.tr (UL.Same.new hp) (UL.Same.new hp1)⟩
    · obtain ⟨ts, dn, rest, kn, x, y, z, rfl, _, _, _, _, _, _, _, sm⟩ := inv
      exact UL.Same.sqL sm ha
    · obtain ⟨ts, dn, rest, kn, x0, y0, z0, rfl, h1, h2, hpd, hst, hks, hti, hkn, sm⟩ := inv
      obtain ⟨z, hzi, rfl⟩ : ∃ z, zs[i]? = some z ∧ x = V.str z := by
        rw [List.getElem?_map] at hx
        cases e : zs[i]? with
        | none => rw [e] at hx; cases hx
        | some z => rw [e] at hx; cases hx; exact ⟨z, rfl, rfl⟩
      have hlt : i < zs.length := (List.getElem?_eq_some_iff.mp hzi).1
      have hzm : z ∈ zs := List.mem_of_getElem? hzi
      have dz : zs.drop i = z :: zs.drop (i + 1) := by
        rw [List.drop_eq_getElem_cons hlt, (List.getElem?_eq_some_iff.mp hzi).2]
      rw [dz] at hst
      simp only [stepsO] at hst
      cases e1 : stepO (Txt.split z " ") kn with
      | none => rw [e1] at hst; cases hst
      | some k =>
        rw [e1] at hst
        dsimp only at hst
        cases e2 : stepsO (zs.drop (i + 1)) (kn ++ k.loc) with
        | none => rw [e2] at hst; cases hst
        | some r' =>
          rw [e2] at hst
          have er : rest = k :: r' := (Option.some.inj hst).symm
          subst er
          walk_at "rd"
          refine ⟨_, .inl (.inl upd_same), rfl, _, _, rfl, _, _, rfl, rfl, z, p1, kn, rfl, (hl z hzm).1, .inl (.inl (UL.Same.new hT _ _ h2)), by omega, (hl z hzm).2.1, (hl z hzm).2.2, fun v H1 g s1 => ?_⟩
          rw [e1] at g
          obtain ⟨a', rfl, ga⟩ := g
          have sT : Same H' H1 := Same.tr (UL.Same.new hT) s1
          refine ⟨rfl, _, rfl, ?_⟩
          rw [if_neg (by simp)]
          refine lenL (.inl (.inl (sT _ _ h1))) (eqII.mpr ⟨_, rfl, ?_⟩)
          rw [if_neg (by simp; omega)]
          walk_at "rd"
          refine ⟨.inl ⟨rfl, _, .inl (.inl (sT _ _ h1))⟩, p, _, _, rfl, rfl, sT _ _ h1, by rw [List.length_map, sizeLine_eq]; omega, ?_⟩
          have h2T := sT _ _ h2
          have g6 : StA (upd H1 p (.lst (ts.map V.ref ++ [V.ref a']))) R Wr B a' k := StA.put (sT _ _ h1) ga
          have pd6 : Paired (fun t k => StA (upd H1 p (.lst (ts.map V.ref ++ [V.ref a']))) R Wr B t k) (ts ++ [a']) (dn ++ [k]) := (L2.Paired.mapP hpd fun _ _ q => StA.put (sT _ _ h1) (StA.same sT q)).snoc g6
          have p6 : upd H1 p (.lst (ts.map V.ref ++ [V.ref a'])) p = some (.lst ((ts ++ [a']).map V.ref)) := by rw [upd_same, List.map_append]; rfl
          have p16 : upd H1 p (.lst (ts.map V.ref ++ [V.ref a'])) p1 = some (.lst (kn.map V.str)) := by rw [upd_ne (Ne.symm n01)]; exact h2T
          have s6 : Same H (upd H1 p (.lst (ts.map V.ref ++ [V.ref a']))) := UL.Same.put (Same.tr sm sT) hp
          generalize upd H1 p (.lst (ts.map V.ref ++ [V.ref a'])) = H6 at g6 pd6 p6 p16 s6 ⊢
          cases k with
          | wr t f xs =>
            obtain ⟨dx, q0, ha6, _⟩ := g6
            refine ⟨_, _, _, _, false, rfl, .own R, T.iW.ty T.cW ha6, T.kWR, _, rfl, ?_⟩
            rw [if_neg (by simp)]
            exact ⟨⟨_, rfl⟩, ts ++ [a'], p6, dn ++ [.wr t f xs], r', kn, p16, pd6, by simpa [Sk.loc] using e2, by rw [hks]; simp, by simp; omega, by omega, s6⟩
          | rd s0 l =>
            obtain ⟨dx, ha6⟩ := g6
            refine ⟨_, _, _, _, true, rfl, .own R, T.iR.ty T.cR ha6, T.kRR, _, rfl, ?_⟩
            rw [if_pos rfl]
            exact ⟨.inl ⟨rfl, _, .inl (.inl p16)⟩, R, dx, _, ha6, T.cR, T.aR_local, _, rfl, p1, _, _, rfl, rfl, p16, by rw [List.length_map, sizeLine_eq]; omega, ⟨_, rfl⟩, ts ++ [a'], by rw [upd_ne n01]; exact p6, _, r', kn ++ [l], by rw [upd_same, List.map_append]; rfl, L2.Paired.mapP pd6 fun _ _ q => StA.put p16 q, e2, by rw [hks]; simp, by simp; omega, by simp; omega, UL.Same.put s6 hp1H⟩
          | rw s0 l t f xs =>
            obtain ⟨dx, q0, ha6, _⟩ := g6
            refine ⟨_, _, _, _, true, rfl, .own R, T.iB.ty T.cB ha6, T.kBR, _, rfl, ?_⟩
            rw [if_pos rfl]
            exact ⟨.inl ⟨rfl, _, .inl (.inl p16)⟩, B, dx, _, ha6, T.cB, T.aB_local, _, rfl, p1, _, _, rfl, rfl, p16, by rw [List.length_map, sizeLine_eq]; omega, ⟨_, rfl⟩, ts ++ [a'], by rw [upd_ne n01]; exact p6, _, r', kn ++ [l], by rw [upd_same, List.map_append]; rfl, L2.Paired.mapP pd6 fun _ _ q => StA.put p16 q, e2, by rw [hks]; simp, by simp; omega, by simp; omega, UL.Same.put s6 hp1H⟩
    · obtain ⟨ts, dn, rest, kn, x0, y0, z0, rfl, h1, h2, hpd, hst, hks, hti, hkn, sm⟩ := inv
      rw [List.length_map, List.drop_length] at hst
      have er : rest = [] := (Option.some.inj hst).symm
      subst er
      rw [List.append_nil] at hks
      subst hks
      walk_at "rd"
      exact q p ts _ hp h1 hpd sm
end
end U
set_option Elab.async false
set_option linter.all false
set_option maxRecDepth 100000
set_option maxHeartbeats 4000000
set_option pp.deepTerms true
set_option pp.maxSteps 400000
namespace U
open PySem PySem.Spec PyProof.Rows L2 UL UX
local macro_rules | `(tactic| walk_at "rd") => `(tactic| simp only [sMatch, tJs, tFmt, tBC, tMethA, tMakeL, iEnumS, tSeq, tAsg, tOp, tCB, tCons, tNil, tVar, tC, tB, tTest, tNot, tIfS, tNext, tYes, tUn, rU, tM0, tGFrom, tGThen, tG0, tYfLst, gcxK, tSubO, tProp, tListG, tMethG, tBMF, tFld, sFld, tMeth, tMake, tSl, tNoPart, tPart, tM1, gTup, gCons, gNil, tDrop, tFor_eq, tLc_eq, tLc2_eq, iRng1_eq, StX.tStar, iList, iTup, iStr, iAny_var, iZipB, tLenSetS, wipe, tVar, tAndV, tOrV, tNotV, tOr, tAnd, tLst, tTup, tBM, tBM0, tChain, tCall, cxK, noxK, addII, addSS, mulII, eqII, neII, neSS, cIntI, cAbsI, rI, rI0, rLt, rLe, rGt_, rGe_, rSub_, rMod, rPow, rDivW, rNeg, gName, tRet, L2.start, List.length_cons, List.length_nil, List.map_cons, List.map_nil, List.replicate, List.cons_append, List.nil_append, List.getElem?_cons_zero, List.getElem?_cons_succ, List.set_cons_zero, List.set_cons_succ, Option.some.injEq, exists_eq_left', exists_eq_left, V.int.injEq, V.bl.injEq, V.str.injEq, V.ref.injEq, V.ty.injEq, List.cons.injEq, and_true, true_and, reduceCtorEq, false_and, exists_false, or_false, false_or, exists_and_left, exists_and_right, List.append_nil, forall_eq, decide_eq_true_eq, Bool.not_eq_true, Nat.reduceAdd, Nat.reduceSub, List.replicate_zero, List.replicate_succ, Nat.zero_le, ite_true, ite_false, if_true, if_false])
section
variable {P : Program} {w : World} {K : PySem.W.Frag} {mg : Str → Option Value} {base : Heap}
variable {R Wr B Pg : Addr}
def fsP (n : Str) (p : Addr) : List (Str × V) := [("name", .str n), ("steps", .ref p)]
abbrev s_Program___init__ : Stmt := inClass (top 29) 0
abbrev sc_Program___init___N : List Str := ["self", "name", "steps"]
theorem sc_Program___init__ : FnScope sc_Program___init___N ["self", "name", "steps"] (defScope s_Program___init__) := ⟨rfl, rfl, rfl, by decide +kernel, rfl, by decide +kernel, by decide +kernel⟩
-- 0 self, 1 name, 2 steps
def sp_initP (K : PySem.W.Frag) (Pg : Addr) : Sp := fun vs H Q _ => ∃ (x dx b : Addr) (n : Str) (ts : List Addr), vs = [.ref x, .str n, .ref b] ∧ H x = some (.ins Pg dx []) ∧ SqL K H b (ts.map V.ref) ∧ ∀ p H', FT H' p (ts.map V.ref) → H' x = some (.ins Pg dx (fsP n p)) → But x H H' → Q .non H'
theorem m_initP (T : PT K mg R Wr B Pg) (D : MD K Pg "__init__" "Program.__init__" s_Program___init__) : Mn P w K mg base CX0 1 Pg "__init__" (sp_initP K Pg) := by
  refine D.mn sc_Program___init__ (fun _ _ _ _ _ _ us hl => match us, hl with | [_, _, _], _ => rfl) (fun vs H Q E h => ?_) (fun f cdv A outer s H vs Q E hr h => ?_)
  · obtain ⟨x, dx, b, n, ts, rfl, _⟩ := h; rfl
  · obtain ⟨x, dx, b, n, ts, rfl, hx, hb, q⟩ := h
    refine ⟨_, (pss_cons (ps_fld (pv 0) (pv 1) rfl)
      (pss_one (ps_fld (pv 0) (pe_callTy call_tupG (by rfl) T.n_tuple (by decide +kernel) (pa_cons (pv 2) pa_nil)) rfl))), ?_⟩
    walk_at "rd"
    refine ⟨Pg, dx, [], hx, T.cP, T.aP_name, by decide, b, _, rfl, .inl ⟨sqL_ins hx hb, fun l o hl ho hs => ?_⟩⟩
    have nx : x ≠ l := ne_of_none upd_same hl
    refine ⟨Pg, dx, _, by rw [upd_ne nx]; exact upd_same, T.cP, T.aP_steps, by show 1 < 1000; decide, ?_⟩
    have e : putF "steps" (V.ref l) (putF "name" (V.str n) []) = fsP n l := by
      have n1 : ("name" : Str) ≠ "steps" := by decide +kernel
      simp [putF, n1, fsP]
    rw [e]
    refine q l _ ⟨o, by rw [upd_ne (Ne.symm nx)]; exact upd_same, ho, hs⟩ upd_same fun c u ec nc => ?_
    have e1 : But x H (upd H x (.ins Pg dx (putF "name" (V.str n) []))) := But.at_
    rw [upd_ne nc, upd_ne (ne_of_none (e1 c u ec nc) hl)]
    exact e1 c u ec nc
abbrev s_Program_read : Stmt := inClass (top 29) 1
abbrev sc_Program_read_N : List Str := ["cls", "text", "lines"]
theorem sc_Program_read : FnScope sc_Program_read_N ["cls", "text"] (defScope s_Program_read) := ⟨rfl, rfl, rfl, by decide +kernel, rfl, by decide +kernel, by decide +kernel⟩
-- 0 cls, 1 text, 2 lines
def sp_pread (K : PySem.W.Frag) (R Wr B Pg : Addr) : Sp := fun vs H Q _ => ∃ (z zh n : Str) (zs : List Str) (ks : List Sk), vs = [.ref Pg, .str z] ∧ z.length ≤ 10000 ∧ Txt.split z "\n" = zh :: zs ∧ Txt.split zh " " = [("program" : Str), n] ∧ nmB n = true ∧ zh.length ≤ 900 ∧ n.length ≤ 1000 ∧ zs.length ≤ 4 ∧ (∀ z ∈ zs, LnOk z) ∧ stepsO zs [] = some ks ∧
  ∀ a dx p ts H', H' a = some (.ins Pg dx (fsP n p)) → FT H' p (ts.map V.ref) → Paired (fun t k => StA H' R Wr B t k) ts ks → Same H H' → Q (.ref a) H'
theorem d_pread (T : PT K mg R Wr B Pg) {f0 : Addr} {fd : FuncData} (F : Fun K "read" "Program.read" s_Program_read f0 fd) (K_Program : Kn P w K mg base CX0 1 Pg "Program" (sp_initP K Pg)) (d_parse_header : Dn P w K mg base CX0 2 "parse_header" sp_phead) (d_parse_steps : Dn P w K mg base CX0 6 "parse_steps" (sp_psteps K R Wr B)) :
    FnOk P w K mg base CX0 7 f0 fd ["cls", "text"] (sp_pread K R Wr B Pg) := by
  refine F.ok sc_Program_read (fun vs H Q E h => ?_) (fun cdv A outer s H vs Q E hr h => ?_)
  · obtain ⟨z, zh, n, zs, ks, rfl, _⟩ := h; rfl
  · obtain ⟨z, zh, n, zs, ks, rfl, hz, hs, hw, hn, hl, hm, hc, hlo, hk, q⟩ := h
    refine ⟨_, (pss_cons (ps_set (i := 2) sc_Program_read.nd rfl (Or.inl rfl) (pe_split (pv 1) pe_str))
      (pss_one (ps_ret (pe_makeLK K_Program hr (by decide) (i := 0) rfl (Or.inl rfl) (pa_cons (pe_d d_parse_header hr (by decide) pass0 (by rfl) (pa_cons (pe_ix ix_seq (pv 2) pe_int (fun _ _ => rfl)) pa_nil)) (pa_cons (pe_d d_parse_steps hr (by decide) pass0 (by rfl) (pa_cons (pe_slice sl_list (pv 2) (po_some pe_int) po_none) pa_nil)) pa_nil)))))), ?_⟩
    walk_at "rd"
    have l1 : (("\n" : Str).length == 0) = false := by decide +kernel
    refine ⟨⟨z, rfl⟩, l1, by rw [sizeLine_eq]; omega, fun p hp => ?_⟩
    rw [hs]
    have sq : SqL K (upd H p (.lst ((zh :: zs).map V.str))) p ((zh :: zs).map V.str) := .inl (.inl upd_same)
    refine ixL sq (show atI _ ((0 : Nat) : Int) = some (V.str zh) from atN rfl) ⟨zh, n, rfl, hw, hn, hl, hm, fun H1 s1 => ?_⟩
    refine ⟨p, _, rfl, UL.Same.sqL s1 sq, fun p2 hp2 => ?_⟩
    rw [cut1]
    refine ⟨p2, zs, ks, rfl, .inl (.inl upd_same), hc, hlo, hk, fun q0 ts H2 hq0 h2 hpd s2 x dx hx hd hne => ?_⟩
    have s3 : Same H H2 := Same.tr (Same.tr (UL.Same.new hp) s1) (Same.tr (UL.Same.new hp2) s2)
    refine ⟨x, dx, q0, n, ts, rfl, upd_same, .inl (.inl (by rw [upd_ne (ne_of_none h2 hx), upd_ne (ne_of_none h2 hd)]; exact h2)), fun p3 H4 hp3 hx4 b4 => ?_⟩
    have s24 : Same H2 H4 := fun c u e => b4 c u (by rw [upd_ne (ne_of_none e hx), upd_ne (ne_of_none e hd)]; exact e) (ne_of_none e hx)
    exact ⟨rfl, q x dx p3 ts H4 hx4 hp3 (L2.Paired.mapP hpd fun _ _ g => StA.same s24 g) (Same.tr s3 s24)⟩
theorem pr_at {α β : Type} {F : α → β → Prop} : ∀ {l : List α} {m : List β}, Paired F l m → ∀ {i : Nat} {a : α}, l[i]? = some a → ∃ b, m[i]? = some b ∧ F a b
  | _, _, .nil, i, a, e => by simp at e
  | _, _, .cons r _, 0, a, e => by simp at e; subst e; exact ⟨_, rfl, r⟩
  | _, _, .cons _ t, i + 1, a, e => by
    obtain ⟨b, h1, h2⟩ := pr_at t (i := i) (a := a) (by simpa using e)
    exact ⟨b, by simpa using h1, h2⟩
theorem StA.ins {H : Hp} {a : Addr} {k : Sk} (h : StA H R Wr B a k) : ∃ dx fs, H a = some (.ins (k.cls R Wr B) dx fs) ∧ fs.lookup ("text" : Str) = none ∧ fs.lookup ("reads" : Str) = none ∧ fs.lookup ("writes" : Str) = none := by
  cases k with
  | rd s l => obtain ⟨dx, e⟩ := h; exact ⟨dx, _, e, rfl, rfl, rfl⟩
  | wr t f xs => obtain ⟨dx, p, e, _⟩ := h; exact ⟨dx, _, e, rfl, rfl, rfl⟩
  | rw s l t f xs => obtain ⟨dx, p, e, _⟩ := h; exact ⟨dx, _, e, rfl, rfl, rfl⟩
theorem Sk.cls3 (k : Sk) : k.cls R Wr B = R ∨ k.cls R Wr B = Wr ∨ k.cls R Wr B = B := by
  cases k with
  | rd => exact .inl rfl
  | wr => exact .inr (.inl rfl)
  | rw => exact .inr (.inr rfl)
-- 0 self, 1 lines, 2 step
/-- the class of a step, and what it promises -/
def Fam (R Wr B : Addr) (sp : Addr → Sp) (C : Addr) (s : Sp) : Prop := (C = R ∨ C = Wr ∨ C = B) ∧ s = sp C
end
end U
set_option Elab.async false
set_option linter.all false
set_option maxRecDepth 100000
set_option maxHeartbeats 4000000
set_option pp.deepTerms true
set_option pp.maxSteps 400000
namespace U
open PySem PySem.Spec PyProof.Rows L2 UL UX
local macro_rules | `(tactic| walk_at "rd") => `(tactic| simp only [sMatch, tJs, tFmt, tBC, tMethA, tMakeL, iEnumS, tSeq, tAsg, tOp, tCB, tCons, tNil, tVar, tC, tB, tTest, tNot, tIfS, tNext, tYes, tUn, rU, tM0, tGFrom, tGThen, tG0, tYfLst, gcxK, tSubO, tProp, tListG, tMethG, tBMF, tFld, sFld, tMeth, tMake, tSl, tNoPart, tPart, tM1, gTup, gCons, gNil, tDrop, tFor_eq, tLc_eq, tLc2_eq, iRng1_eq, StX.tStar, iList, iTup, iStr, iAny_var, iZipB, tLenSetS, wipe, tVar, tAndV, tOrV, tNotV, tOr, tAnd, tLst, tTup, tBM, tBM0, tChain, tCall, cxK, noxK, addII, addSS, mulII, eqII, neII, neSS, cIntI, cAbsI, rI, rI0, rLt, rLe, rGt_, rGe_, rSub_, rMod, rPow, rDivW, rNeg, gName, tRet, L2.start, List.length_cons, List.length_nil, List.map_cons, List.map_nil, List.replicate, List.cons_append, List.nil_append, List.getElem?_cons_zero, List.getElem?_cons_succ, List.set_cons_zero, List.set_cons_succ, Option.some.injEq, exists_eq_left', exists_eq_left, V.int.injEq, V.bl.injEq, V.str.injEq, V.ref.injEq, V.ty.injEq, List.cons.injEq, and_true, true_and, reduceCtorEq, false_and, exists_false, or_false, false_or, exists_and_left, exists_and_right, List.append_nil, forall_eq, decide_eq_true_eq, Bool.not_eq_true, Nat.reduceAdd, Nat.reduceSub, List.replicate_zero, List.replicate_succ, Nat.zero_le, ite_true, ite_false, if_true, if_false])
section
variable {P : Program} {w : World} {K : PySem.W.Frag} {mg : Str → Option Value} {base : Heap}
variable {R Wr B Pg : Addr}
abbrev s__law_mixed : Stmt := top 48
abbrev sc__law_mixed_N : List Str := ["_law_cell", "_law_k", "_law_first", "_law_second"]
theorem sc__law_mixed : FnScope sc__law_mixed_N ["_law_cell", "_law_k"] (defScope s__law_mixed) := ⟨rfl, rfl, rfl, by decide +kernel, rfl, by decide +kernel, by decide +kernel⟩
-- 0 _law_cell, 1 _law_k, 2 _law_first, 3 _law_second
def sp_mixed : Sp := fun vs H Q _ => ∃ c k : Int, vs = [.int c, .int k] ∧ 0 ≤ c ∧ c < 10 ^ 18 ∧ 0 ≤ k ∧ k < 1000 ∧ ∀ r : Int, 0 ≤ r → Q (.int r) H
theorem d_mixed (T : Nm mg) (D : TD K mg "_law_mixed" s__law_mixed) : Dn P w K mg base CX0 1 "_law_mixed" sp_mixed := by
  refine D.dn sc__law_mixed (fun _ _ _ _ _ _ us hl => match us, hl with | [_, _], _ => rfl) (fun vs H Q E h => ?_) (fun f cdv A outer s H vs Q E hr h => ?_)
  · obtain ⟨c, k, rfl, _⟩ := h; rfl
  · obtain ⟨c, k, rfl, h0, h1, h2, h3, q⟩ := h
    refine ⟨_, (pss_cons (ps_set (i := 2) sc__law_mixed.nd rfl (Or.inl rfl) (pe_op op_modA (pe_callTy call_intA (by rfl) T.n_int (by decide +kernel) (pa_cons (pe_op op_addA (pe_op op_addA (pe_op op_mulA (pv 0) pe_int) (pe_op op_mulA (pv 1) pe_int)) pe_int) pa_nil)) pe_int))
      (pss_cons (ps_set (i := 3) sc__law_mixed.nd rfl (Or.inl rfl) (pe_op op_modA (pe_callTy call_intA (by rfl) T.n_int (by decide +kernel) (pa_cons (pe_op op_addA (pe_op op_addA (pe_op op_mulA (pv 2) (pv 2)) (pe_op op_mulA (pv 1) pe_int)) pe_int) pa_nil)) pe_int))
      (pss_one (ps_ret (pe_op op_modA (pe_callTy call_intA (by rfl) T.n_int (by decide +kernel) (pa_cons (pe_op op_addA (pe_op op_mulA (pv 3) (pv 3)) (pv 2)) pa_nil)) pe_int))))), ?_⟩
    walk_at "rd"
    have e : ∀ a b : Int, 0 < b → 0 ≤ a % b ∧ a % b < b := fun a b hb => ⟨Int.emod_nonneg a (by omega), Int.emod_lt_of_pos a hb⟩
    refine ⟨.inl ⟨by omega, by omega⟩, .inl ⟨by omega, by omega⟩, by decide, .inl ?_, .inl ⟨by omega, by omega⟩, by decide, .inl ?_, by decide, q _ (e _ 99991 (by decide)).1⟩
    · have := e (c * 48271 + k * 69621 + 11) 65537 (by decide); omega
    · have := e ((c * 48271 + k * 69621 + 11) % 65537 * ((c * 48271 + k * 69621 + 11) % 65537) + k * 7919 + 3) 64007 (by decide); omega
abbrev s__law_draw : Stmt := top 50
abbrev sc__law_draw_N : List Str := ["_law_pool_here", "_law_many"]
theorem sc__law_draw : FnScope sc__law_draw_N ["_law_pool_here", "_law_many"] (defScope s__law_draw) := ⟨rfl, rfl, rfl, by decide +kernel, rfl, by decide +kernel, by decide +kernel⟩
-- 0 _law_pool_here, 1 _law_many
def sp_draw : Sp := fun vs H Q _ => ∃ (p : Addr) (m : Int), vs = [.ref p, .int m] ∧ 0 < m ∧ Pl H p ∧ ∀ r H', 0 ≤ r → r < m → Pl H' p → But p H H' → Q (.int r) H'
theorem d_draw (T : Nm mg) (D : TD K mg "_law_draw" s__law_draw) : Dn P w K mg base CX0 1 "_law_draw" sp_draw := by
  refine D.dn sc__law_draw (fun _ _ _ _ _ _ us hl => match us, hl with | [_, _], _ => rfl) (fun vs H Q E h => ?_) (fun f cdv A outer s H vs Q E hr h => ?_)
  · obtain ⟨p, m, rfl, _⟩ := h; rfl
  · obtain ⟨p, m, rfl, hm, ⟨ns, hp⟩, q⟩ := h
    refine ⟨_, (pss_cons (ps_if (pt_cmpR (op_eqA (hr.units)) (pv 0) (pe_lst pa_nil) (nomark _)) (pss_one (ps_ret pe_int)) pss_nil)
      (pss_one (ps_ret (pe_op op_modA (pe_callTy call_intA (by rfl) T.n_int (by decide +kernel) (pa_cons (pe_bm0 PySem.F.plainAttrs_list PySem.F.slot_list_pop PySem.F.type_list_pop mt_pop (pv 0)) pa_nil)) (pv 1))))), ?_⟩
    walk_at "rd"
    refine (fun p1 hp1 => eqL0 (xs := ns.map V.int) fl2_ints (.inl (.inl ?_)) (.inl (.inl upd_same)) ⟨_, rfl, ?_⟩)
    · rw [upd_ne (ne_of_none hp hp1)]; exact hp
    · have hp2 : upd H p1 (.lst []) p = some (.lst (ns.map V.int)) := by rw [upd_ne (ne_of_none hp hp1)]; exact hp
      rcases List.eq_nil_or_concat ns with rfl | ⟨L, y, rfl⟩
      · rw [if_pos (by simp)]
        exact q 0 _ (Int.le_refl 0) hm ⟨[], hp2⟩ (UL.Same.but (UL.Same.new hp1))
      · rw [if_neg (by simp)]
        refine ⟨.inl ⟨rfl, _, .inl (.inl hp2)⟩, p, _, .int y, rfl, rfl, hp2, by simp, cIntI.mpr ⟨y, rfl, hm, q _ _ (Int.emod_nonneg y (by omega)) (Int.emod_lt_of_pos y hm) ⟨L, ?_⟩ (But.trans (UL.Same.but (UL.Same.new hp1)) But.at_)⟩⟩
        rw [upd_same]; simp
abbrev s__law_pool : Stmt := top 49
abbrev sc__law_pool_N : List Str := ["_law_script", "_law_pool_here", "_law_at", "_law_left", "_law_k"]
theorem sc__law_pool : FnScope sc__law_pool_N ["_law_script"] (defScope s__law_pool) := ⟨rfl, rfl, rfl, by decide +kernel, rfl, by decide +kernel, by decide +kernel⟩
-- 0 _law_script, 1 _law_pool_here, 2 _law_at, 3 _law_left, 4 _law_k
def sp_pool : PySem.W.Frag → Sp := fun K vs H Q _ => ∃ (a : Addr) (ns : List Int), vs = [.ref a] ∧ SqL K H a (ns.map V.int) ∧ ns.length ≤ 63 ∧ ∀ p H', H p = none → Pl H' p → Same H H' → Q (.ref p) H'
theorem d_pool (T : Nm mg) (D : TD K mg "_law_pool" s__law_pool) (d__law_mixed : Dn P w K mg base CX0 1 "_law_mixed" sp_mixed) : Dn P w K mg base CX0 2 "_law_pool" (sp_pool K) := by
  refine D.dn sc__law_pool (fun _ _ _ _ _ _ us hl => match us, hl with | [_], _ => rfl) (fun vs H Q E h => ?_) (fun f cdv A outer s H vs Q E hr h => ?_)
  · obtain ⟨i, ns, rfl, _⟩ := h; rfl
  · obtain ⟨a, ns, rfl, ha, hn, q⟩ := h
    refine ⟨_, (pss_cons (ps_set (i := 1) sc__law_pool.nd rfl (Or.inl rfl) (pe_lst pa_nil))
      (pss_cons (ps_for PassesOwn.never rfl (pi_range1 (by rfl) T.n_range (pa_cons (pe_callB call_lenA (by rfl) T.n_len (by decide +kernel) (pa_cons (pv 0) pa_nil)) pa_nil)) (pg_name (i := 2) sc__law_pool.nd rfl (Or.inl rfl)) (pss_cons (ps_set (i := 3) sc__law_pool.nd rfl (Or.inl rfl) (pe_callB call_absA (by rfl) T.n_abs (by decide +kernel) (pa_cons (pe_callTy call_intA (by rfl) T.n_int (by decide +kernel) (pa_cons (pe_ix ix_seq (pv 0) (pv 2) (fun _ _ => rfl)) pa_nil)) pa_nil)))
      (pss_one (ps_if (pt_cmpR op_ltA (pv 3) (pe_op op_powA pe_int pe_int) (nomark _)) (pss_one (ps_for PassesOwn.never rfl (pi_range1 (by rfl) T.n_range (pa_cons pe_int pa_nil)) (pg_name (i := 4) sc__law_pool.nd rfl (Or.inl rfl)) (pss_one (ps_expr (pe_bm PySem.F.plainAttrs_list PySem.F.slot_list_append PySem.F.type_list_append mt_append (pv 1) (pa_cons (pe_d d__law_mixed hr (by decide) pass0 (by rfl) (pa_cons (pv 3) (pa_cons (pe_op op_addA (pe_op op_mulA pe_int (pv 2)) (pv 4)) pa_nil))) pa_nil)))))) (pss_one (ps_for PassesOwn.never rfl (pi_range1 (by rfl) T.n_range (pa_cons pe_int pa_nil)) (pg_name (i := 4) sc__law_pool.nd rfl (Or.inl rfl)) (pss_one (ps_if (pt_cmpR op_gtA (pv 3) pe_int (nomark _)) (pss_cons (ps_expr (pe_bm PySem.F.plainAttrs_list PySem.F.slot_list_append PySem.F.type_list_append mt_append (pv 1) (pa_cons (pe_op op_modA (pe_callTy call_intA (by rfl) T.n_int (by decide +kernel) (pa_cons (pv 3) pa_nil)) pe_int) pa_nil)))
      (pss_one (ps_set (i := 3) sc__law_pool.nd rfl (Or.inl rfl) (pe_op op_divA (pv 3) pe_int)))) pss_nil))))))))
      (pss_cons (ps_expr (pe_bm0 PySem.F.plainAttrs_list PySem.F.slot_list_reverse PySem.F.type_list_reverse mt_reverse (pv 1)))
      (pss_one (ps_ret (pv 1)))))), ?_⟩
    walk_at "rd"
    refine fun p hp => ?_
    have np : ∀ zs, Same H (upd H p (.lst zs)) := fun zs => UL.Same.new hp
    have haU : ∀ zs, SqL K (upd H p (.lst zs)) a (ns.map V.int) := fun zs => UL.Same.sqL (np zs) ha
    refine lenL (haU _) ⟨_, rfl, by omega, by simp; omega, FJ.rangeI (fun i σ' H' => ∃ ms : List Int, ms.length ≤ 60 * i ∧ (∃ x y z, σ' = [some (.ref a), some (.ref p), x, y, z]) ∧ H' = upd H p (.lst (ms.map V.int))) (by omega) ⟨[], Nat.zero_le _, ⟨_, _, _, rfl⟩, rfl⟩ (fun i σ' H' hi inv => ?_) fun σ' H' inv => ?_⟩
    · obtain ⟨ms, hm, ⟨x, y, z, rfl⟩, rfl⟩ := inv
      have hi2 : i < ns.length := by simpa using hi
      have hx : ns[i]? = some ns[i] := by simp [hi2]
      walk_at "rd"
      refine ixL (haU _) (atN (v := .int ns[i]) (by rw [List.getElem?_map, hx]; rfl)) ?_
      rw [cIntI, cAbsI]
      have habs : 0 ≤ (if ns[i] < 0 then -ns[i] else ns[i]) := by split <;> omega
      generalize (if ns[i] < 0 then -ns[i] else ns[i]) = av at habs
      refine ⟨⟨by decide, by decide, by decide⟩, av, rfl, ?_⟩
      have h10 : (10 : Int) ^ Int.toNat 18 = 10 ^ 18 := rfl
      rw [h10]
      by_cases hs : av < 10 ^ 18
      · rw [if_pos hs]
        refine ⟨by decide, by decide, FJ.rangeI (fun j σ' H' => ∃ m2 : List Int, m2.length ≤ 60 * i + j ∧ (∃ z, σ' = [some (.ref a), some (.ref p), some (.int i), some (.int av), z]) ∧ H' = upd H p (.lst (m2.map V.int))) (by decide) ⟨ms, hm, ⟨_, rfl⟩, rfl⟩ (fun j σ' H' hj inv => ?_) fun σ' H' inv => ?_⟩
        · obtain ⟨m2, hm2, ⟨z, rfl⟩, rfl⟩ := inv
          walk_at "rd"
          refine ⟨.inl ⟨rfl, _, .inl (.inl upd_same)⟩, .inr (by omega), av, _, rfl, habs, hs, by omega, by omega, fun r hr0 => ⟨p, _, _, rfl, rfl, upd_same, by rw [List.length_map, sizeLine_eq]; omega, m2 ++ [r], by simp; omega, ⟨_, rfl⟩, ?_⟩⟩
          rw [upd_upd, List.map_append]; rfl
        · obtain ⟨m2, hm2, ⟨z, rfl⟩, rfl⟩ := inv
          exact ⟨m2, by simp at hm2; omega, ⟨_, _, _, rfl⟩, rfl⟩
      · rw [if_neg hs]
        refine ⟨by decide, by decide, FJ.rangeI (fun j σ' H' => ∃ (m2 : List Int) (lv : Int), m2.length ≤ 60 * i + j ∧ 0 ≤ lv ∧ (∃ z, σ' = [some (.ref a), some (.ref p), some (.int i), some (.int lv), z]) ∧ H' = upd H p (.lst (m2.map V.int))) (by decide) ⟨ms, av, hm, habs, ⟨_, rfl⟩, rfl⟩ (fun j σ' H' hj inv => ?_) fun σ' H' inv => ?_⟩
        · obtain ⟨m2, lv, hm2, hlv, ⟨z, rfl⟩, rfl⟩ := inv
          walk_at "rd"
          by_cases h0 : 0 < lv
          · rw [if_pos h0]
            refine ⟨.inl ⟨rfl, _, .inl (.inl upd_same)⟩, by decide, p, _, _, rfl, rfl, upd_same, by rw [List.length_map, sizeLine_eq]; omega, ⟨by decide, by decide⟩, m2 ++ [lv % 1000], by simp; omega, lv / 1000, by omega, ⟨rfl, _, rfl⟩, ?_⟩
            rw [upd_upd, List.map_append]; rfl
          · rw [if_neg h0]
            exact ⟨m2, by omega, lv, hlv, ⟨rfl, _, rfl⟩, rfl⟩
        · obtain ⟨m2, lv, hm2, hlv, ⟨z, rfl⟩, rfl⟩ := inv
          exact ⟨m2, by simp at hm2; omega, ⟨_, _, _, rfl⟩, rfl⟩
    · obtain ⟨ms, hm, ⟨x, y, z, rfl⟩, rfl⟩ := inv
      walk_at "rd"
      refine ⟨.inl ⟨rfl, _, .inl (.inl upd_same)⟩, p, _, rfl, rfl, upd_same, ?_⟩
      exact q p _ hp ⟨ms.reverse, by rw [upd_upd, upd_same, List.map_reverse]⟩ (by rw [upd_upd]; exact np _)
end
end U
set_option Elab.async false
set_option linter.all false
set_option maxRecDepth 100000
set_option maxHeartbeats 4000000
set_option pp.deepTerms true
set_option pp.maxSteps 400000
namespace U
open PySem PySem.Spec PyProof.Rows L2 UL UX
local macro_rules | `(tactic| walk_at "rd") => `(tactic| simp only [sMatch, tJs, tFmt, tBC, tMethA, tMakeL, iEnumS, tSeq, tAsg, tOp, tCB, tCons, tNil, tVar, tC, tB, tTest, tNot, tIfS, tNext, tYes, tUn, rU, tM0, tGFrom, tGThen, tG0, tYfLst, gcxK, tSubO, tProp, tListG, tMethG, tBMF, tFld, sFld, tMeth, tMake, tSl, tNoPart, tPart, tM1, gTup, gCons, gNil, tDrop, tFor_eq, tLc_eq, tLc2_eq, iRng1_eq, StX.tStar, iList, iTup, iStr, iAny_var, iZipB, tLenSetS, wipe, tVar, tAndV, tOrV, tNotV, tOr, tAnd, tLst, tTup, tBM, tBM0, tChain, tCall, cxK, noxK, addII, addSS, mulII, eqII, neII, neSS, cIntI, cAbsI, rI, rI0, rLt, rLe, rGt_, rGe_, rSub_, rMod, rPow, rDivW, rNeg, gName, tRet, L2.start, List.length_cons, List.length_nil, List.map_cons, List.map_nil, List.replicate, List.cons_append, List.nil_append, List.getElem?_cons_zero, List.getElem?_cons_succ, List.set_cons_zero, List.set_cons_succ, Option.some.injEq, exists_eq_left', exists_eq_left, V.int.injEq, V.bl.injEq, V.str.injEq, V.ref.injEq, V.ty.injEq, List.cons.injEq, and_true, true_and, reduceCtorEq, false_and, exists_false, or_false, false_or, exists_and_left, exists_and_right, List.append_nil, forall_eq, decide_eq_true_eq, Bool.not_eq_true, Nat.reduceAdd, Nat.reduceSub, List.replicate_zero, List.replicate_succ, Nat.zero_le, ite_true, ite_false, if_true, if_false])
section
variable {P : Program} {w : World} {K : PySem.W.Frag} {mg : Str → Option Value} {base : Heap}
variable {R Wr B Pg : Addr}
def isNm (z : Str) : Prop := nmB z = true
def InL (z : Str) : Prop := ∀ c ∈ z.cps.toList, c ∈ abc.cps.toList
theorem abc_eq : abc.cps.toList = (List.range 26).map (97 + ·) := by decide +kernel
theorem abc_len : abc.length = 26 := by decide +kernel
theorem abc_at {i : Int} (h0 : 0 ≤ i) (h1 : i < 26) : atI abc.cps.toList i = some (97 + i.toNat) := by
  have e : ((i.toNat : Nat) : Int) = i := by omega
  rw [← e]
  refine atN ?_
  rw [abc_eq, List.getElem?_map, List.getElem?_range (by omega)]
  simp; omega
theorem abc_mem {n : Nat} (h : n < 26) : 97 + n ∈ abc.cps.toList := by
  rw [abc_eq]; exact List.mem_map.mpr ⟨n, List.mem_range.mpr h, rfl⟩
theorem inL_app {x y : Str} (hx : InL x) (hy : InL y) : InL (x ++ y) := fun c hc => by
  have : (x ++ y).cps.toList = x.cps.toList ++ y.cps.toList := by show (x.cps ++ y.cps).toList = _; simp
  rw [this] at hc
  rcases List.mem_append.mp hc with z | z
  · exact hx c z
  · exact hy c z
theorem inL_one {n : Nat} (h : n < 26) : InL ⟨#[97 + n]⟩ := fun c hc => by
  have : c = 97 + n := by simpa using hc
  rw [this]; exact abc_mem h
theorem inL_nil : InL Str.empty := fun c hc => by simp [Str.empty] at hc
theorem len_one (c : Nat) : (⟨#[c]⟩ : Str).length = 1 := rfl
/-- the text at one letter, then anything -/
theorem mid_inj {f b b' s s' : Str} {c c' : Nat} (h : ((f ++ ⟨#[c]⟩) ++ b) ++ s = ((f ++ ⟨#[c']⟩) ++ b') ++ s') : c = c' := by
  have e : ∀ (b s : Str) (c : Nat), (((f ++ ⟨#[c]⟩) ++ b) ++ s).cps.toList = f.cps.toList ++ (c :: (b.cps.toList ++ s.cps.toList)) := fun b s c => by
    show (((f.cps ++ #[c]) ++ b.cps) ++ s.cps).toList = _
    simp
  have h2 := congrArg (fun z : Str => z.cps.toList) h
  simp only [e] at h2
  have h3 := List.append_cancel_left h2
  exact (List.cons.inj h3).1
theorem app_nil (x : Str) : x ++ Str.empty = x := by
  show (⟨x.cps ++ #[]⟩ : Str) = x
  simp
theorem drawI {p : Addr} {m : Int} {H : Hp} {Q : VK} {E : XK} (hm : 0 < m) (hp : Pl H p) (q : ∀ r H', 0 ≤ r → r < m → Pl H' p → But p H H' → Q (.int r) H') : sp_draw [.ref p, .int m] H Q E := ⟨p, m, rfl, hm, hp, q⟩
theorem But.free' {H H' : Hp} {p q : Addr} (s : But p H H') (x : Pl H' p) (h : H' q = none) : H q = none := UL.But.free s x h
theorem But.tr {p : Addr} {H H1 H2 : Hp} (a : But p H H1) (b : But p H1 H2) : But p H H2 := UL.But.trans a b
theorem But.nw {p q : Addr} {H H' : Hp} {o : HO} (a : But p H H') (x : Pl H' p) (h : H' q = none) : But p H (upd H' q o) := But.tr a (UL.Same.but (UL.Same.new h))
/-- the names so far: one letter differs, what stands behind is of no account -/
def NU (fr bk : Str) (sh st : Int) (xs : List Str) : Prop := ∀ (j : Nat) x, xs[j]? = some x → ∃ s', InL s' ∧ s'.length ≤ 1 ∧ x = ((fr ++ ⟨#[97 + ((sh + st * j) % 26).toNat]⟩) ++ bk) ++ s'
theorem mod26 (i : Int) : (i % 26).toNat < 26 := by
  have h0 := Int.emod_nonneg i (show (26 : Int) ≠ 0 by decide)
  have h1 := Int.emod_lt_of_pos i (show (0 : Int) < 26 by decide)
  omega
theorem isNm_of {z : Str} (h1 : 1 ≤ z.length) (h2 : z.length ≤ 8) (h3 : InL z) : isNm z := by
  show nmB z = true
  simp only [nmB, decide_eq_true h1, decide_eq_true h2, Bool.true_and, List.all_eq_true]
  exact fun c hc => decide_eq_true (h3 c hc)
theorem NU.nm {fr bk : Str} {sh st : Int} {xs : List Str} (h : NU fr bk sh st xs) (hf : fr.length ≤ 3) (hb : bk.length ≤ 3) (hfi : InL fr) (hbi : InL bk) : ∀ z ∈ xs, isNm z := by
  intro z hz
  obtain ⟨j, hj⟩ := List.getElem?_of_mem hz
  obtain ⟨s', hs, hl, rfl⟩ := h j z hj
  refine isNm_of ?_ ?_ (inL_app (inL_app (inL_app hfi (inL_one (mod26 _))) hbi) hs) <;> simp only [len_app, len_one] <;> omega
theorem NU.snoc {fr bk : Str} {sh st : Int} {xs : List Str} (h : NU fr bk sh st xs) {s' : Str} (hs : InL s') (hl : s'.length ≤ 1) : NU fr bk sh st (xs ++ [((fr ++ ⟨#[97 + ((sh + st * xs.length) % 26).toNat]⟩) ++ bk) ++ s']) := fun j x hj => by
  by_cases hlt : j < xs.length
  · rw [List.getElem?_append_left hlt] at hj
    exact h j x hj
  · have : j = xs.length := by have := (List.getElem?_eq_some_iff.mp hj).1; simp at this; omega
    subst this
    simp at hj
    subst hj
    exact ⟨s', hs, hl, rfl⟩
theorem mulSI {H : Hp} {Q : VK} {z : Str} {n : Int} (h : n = 0 ∨ n = 1) (q : ∀ y : Str, (y = Str.empty ∨ y = z) → Q (.str y) H) : rMulA K (.str z) (.int n) H Q :=
  .inr (.inl ⟨z, n, rfl, rfl, h.elim (fun e => .inl ⟨e, q _ (.inl rfl)⟩) fun e => .inr ⟨e, q _ (.inr rfl)⟩⟩)
theorem mod26I (i : Int) : 0 ≤ i % 26 ∧ i % 26 < 26 := ⟨Int.emod_nonneg i (by decide), Int.emod_lt_of_pos i (by decide)⟩
theorem nm_read : isNm "read" := by show nmB _ = true; decide +kernel
theorem nm_as : isNm "as" := by show nmB _ = true; decide +kernel
theorem nm_write : isNm "write" := by show nmB _ = true; decide +kernel
theorem nm_by : isNm "by" := by show nmB _ = true; decide +kernel
theorem nm_of : isNm "of" := by show nmB _ = true; decide +kernel
abbrev s__law_names : Stmt := top 51
abbrev sc__law_names_N : List Str := ["_law_pool_here", "_law_count", "_law_letters", "_law_choice", "_law_shift", "_law_stride", "_law_front", "_law_k", "_law_back", "_law_names_here", "_law_name"]
theorem sc__law_names : FnScope sc__law_names_N ["_law_pool_here", "_law_count"] (defScope s__law_names) := ⟨rfl, rfl, rfl, by decide +kernel, rfl, by decide +kernel, by decide +kernel⟩
-- 0 _law_pool_here, 1 _law_count, 2 _law_letters, 3 _law_choice, 4 _law_shift, 5 _law_stride, 6 _law_front, 7 _law_k, 8 _law_back, 9 _law_names_here, 10 _law_name
theorem NU.nodup {fr bk : Str} {sh st : Int} {xs : List Str} (h : NU fr bk sh st xs) (hst : st = 1 ∨ st = 25 ∨ st = 7) (hl : xs.length ≤ 5) : xs.Nodup := by
  rw [List.Nodup, List.pairwise_iff_getElem]
  intro i j hi hj hij e
  obtain ⟨s1, _, _, e1⟩ := h i _ (List.getElem?_eq_getElem hi)
  obtain ⟨s2, _, _, e2⟩ := h j _ (List.getElem?_eq_getElem hj)
  rw [e1, e2] at e
  have m := mid_inj e
  rcases hst with rfl | rfl | rfl <;> omega
def sp_names0 : Sp := fun vs H Q _ => ∃ (p : Addr) (c : Nat), vs = [.ref p, .int c] ∧ Pl H p ∧ c ≤ 5 ∧ ∀ q H' (xs : List Str), xs.length = c → (∀ z ∈ xs, isNm z) → xs.Nodup → H q = none → H' q = some (.lst (xs.map V.str)) → Pl H' p → But p H H' → Q (.ref q) H'
theorem d_names0 (T : Nm mg) (D : TD K mg "_law_names" s__law_names) (d__law_draw : Dn P w K mg base CX0 1 "_law_draw" sp_draw) : Dn P w K mg base CX0 2 "_law_names" sp_names0 := by
  refine D.dn sc__law_names (fun _ _ _ _ _ _ us hl => match us, hl with | [_, _], _ => rfl) (fun vs H Q E h => ?_) (fun f cdv A outer s H vs Q E hr h => ?_)
  · obtain ⟨a, xs, rfl, _⟩ := h; rfl
  · obtain ⟨p, c, rfl, hp, h3, q⟩ := h
    refine ⟨_, (pss_cons (ps_set (i := 2) sc__law_names.nd rfl (Or.inl rfl) pe_str)
      (pss_cons (ps_set (i := 3) sc__law_names.nd rfl (Or.inl rfl) (pe_d d__law_draw hr (by decide) pass0 (by rfl) (pa_cons (pv 0) (pa_cons pe_int pa_nil))))
      (pss_cons (ps_if (pt_cmpR (op_eqA (hr.units)) (pv 3) pe_int (nomark _)) (pss_one (ps_ret (pe_slice sl_list (pe_lst (pa_cons pe_str (pa_cons pe_str (pa_cons pe_str (pa_cons pe_str (pa_cons pe_str (pa_cons pe_str pa_nil))))))) po_none (po_some (pv 1))))) pss_nil)
      (pss_cons (ps_set (i := 4) sc__law_names.nd rfl (Or.inl rfl) (pe_d d__law_draw hr (by decide) pass0 (by rfl) (pa_cons (pv 0) (pa_cons pe_int pa_nil))))
      (pss_cons (ps_set (i := 5) sc__law_names.nd rfl (Or.inl rfl) (pe_ix ix_seq (pe_lst (pa_cons pe_int (pa_cons pe_int (pa_cons pe_int pa_nil)))) (pe_d d__law_draw hr (by decide) pass0 (by rfl) (pa_cons (pv 0) (pa_cons pe_int pa_nil))) (fun _ _ => rfl)))
      (pss_cons (ps_set (i := 6) sc__law_names.nd rfl (Or.inl rfl) pe_str)
      (pss_cons (ps_for PassesOwn.never rfl (pi_range1 (by rfl) T.n_range (pa_cons (pe_d d__law_draw hr (by decide) pass0 (by rfl) (pa_cons (pv 0) (pa_cons pe_int pa_nil))) pa_nil)) (pg_name (i := 7) sc__law_names.nd rfl (Or.inl rfl)) (pss_one (ps_set (i := 6) sc__law_names.nd rfl (Or.inl rfl) (pe_op op_addA (pv 6) (pe_ix ix_seq (pv 2) (pe_d d__law_draw hr (by decide) pass0 (by rfl) (pa_cons (pv 0) (pa_cons pe_int pa_nil))) (fun _ _ => rfl))))))
      (pss_cons (ps_set (i := 8) sc__law_names.nd rfl (Or.inl rfl) pe_str)
      (pss_cons (ps_for PassesOwn.never rfl (pi_range1 (by rfl) T.n_range (pa_cons (pe_d d__law_draw hr (by decide) pass0 (by rfl) (pa_cons (pv 0) (pa_cons pe_int pa_nil))) pa_nil)) (pg_name (i := 7) sc__law_names.nd rfl (Or.inl rfl)) (pss_one (ps_set (i := 8) sc__law_names.nd rfl (Or.inl rfl) (pe_op op_addA (pv 8) (pe_ix ix_seq (pv 2) (pe_d d__law_draw hr (by decide) pass0 (by rfl) (pa_cons (pv 0) (pa_cons pe_int pa_nil))) (fun _ _ => rfl))))))
      (pss_cons (ps_set (i := 9) sc__law_names.nd rfl (Or.inl rfl) (pe_lst pa_nil))
      (pss_cons (ps_for PassesOwn.never rfl (pi_range1 (by rfl) T.n_range (pa_cons (pv 1) pa_nil)) (pg_name (i := 7) sc__law_names.nd rfl (Or.inl rfl)) (pss_cons (ps_set (i := 10) sc__law_names.nd rfl (Or.inl rfl) (pe_op op_addA (pe_op op_addA (pv 6) (pe_ix ix_seq (pv 2) (pe_op op_modA (pe_callTy call_intA (by rfl) T.n_int (by decide +kernel) (pa_cons (pe_op op_addA (pv 4) (pe_op op_mulA (pv 5) (pv 7))) pa_nil)) pe_int) (fun _ _ => rfl))) (pv 8)))
      (pss_cons (ps_if (pt_cmpR (op_eqA (hr.units)) (pv 3) pe_int (nomark _)) (pss_one (ps_set (i := 10) sc__law_names.nd rfl (Or.inl rfl) (pe_op op_addA (pv 10) (pe_op op_mulA (pe_ix ix_seq (pv 2) (pv 7) (fun _ _ => rfl)) (pe_op op_modA (pv 7) pe_int))))) pss_nil)
      (pss_one (ps_expr (pe_bm PySem.F.plainAttrs_list PySem.F.slot_list_append PySem.F.type_list_append mt_append (pv 9) (pa_cons (pv 10) pa_nil)))))))
      (pss_one (ps_ret (pv 9)))))))))))))), ?_⟩
    walk_at "rd"
    refine drawI (by decide) hp fun ch H1 c0 c6 hp1 b1 => eqII.mpr ⟨_, rfl, ?_⟩
    by_cases h4 : ch = 4
    · rw [if_pos (by simp [h4])]
      refine ⟨by rw [sizeLine_eq]; decide, fun l hl => ⟨l, _, rfl, .inl (.inl upd_same), fun q0 hq0 => ?_⟩⟩
      have key : ∀ xs : List Str, (upd (upd H1 l (.lst [V.str (Str.ofString "read"), V.str (Str.ofString "as"), V.str (Str.ofString "write"), V.str (Str.ofString "by"), V.str (Str.ofString "of"), V.str (Str.ofString "program")])) q0 (.lst (xs.map V.str)) = upd (upd H1 l (.lst [V.str (Str.ofString "read"), V.str (Str.ofString "as"), V.str (Str.ofString "write"), V.str (Str.ofString "by"), V.str (Str.ofString "of"), V.str (Str.ofString "program")])) q0 (.lst (cutV [V.str (Str.ofString "read"), V.str (Str.ofString "as"), V.str (Str.ofString "write"), V.str (Str.ofString "by"), V.str (Str.ofString "of"), V.str (Str.ofString "program")] none (some (c : Int))))) → xs.length = c → (∀ z ∈ xs, isNm z) → xs.Nodup → Q (.ref q0) (upd (upd H1 l (.lst [V.str (Str.ofString "read"), V.str (Str.ofString "as"), V.str (Str.ofString "write"), V.str (Str.ofString "by"), V.str (Str.ofString "of"), V.str (Str.ofString "program")])) q0 (.lst (cutV [V.str (Str.ofString "read"), V.str (Str.ofString "as"), V.str (Str.ofString "write"), V.str (Str.ofString "by"), V.str (Str.ofString "of"), V.str (Str.ofString "program")] none (some (c : Int))))) := by
        intro xs e hl2 hn hnd
        rw [← e]
        have hp2 := Pl.put (o := .lst [V.str (Str.ofString "read"), V.str (Str.ofString "as"), V.str (Str.ofString "write"), V.str (Str.ofString "by"), V.str (Str.ofString "of"), V.str (Str.ofString "program")]) hp1 (hp1.ne hl)
        have b2 := But.nw (o := .lst [V.str (Str.ofString "read"), V.str (Str.ofString "as"), V.str (Str.ofString "write"), V.str (Str.ofString "by"), V.str (Str.ofString "of"), V.str (Str.ofString "program")]) b1 hp1 hl
        exact q q0 _ xs hl2 hn hnd (But.free' b2 hp2 hq0) upd_same (hp2.put (hp2.ne hq0)) (But.nw b2 hp2 hq0)
      have c15 : c = 0 ∨ c = 1 ∨ c = 2 ∨ c = 3 ∨ c = 4 ∨ c = 5 := by omega
      rcases c15 with rfl | rfl | rfl | rfl | rfl | rfl
      · exact key [] rfl rfl (fun z hz => by cases hz) (by decide +kernel)
      · exact key ["read"] rfl rfl (by simp only [List.mem_singleton, forall_eq]; exact nm_read) (by decide +kernel)
      · exact key ["read", "as"] rfl rfl (by simp only [List.mem_cons, List.not_mem_nil, or_false, forall_eq_or_imp, forall_eq]; exact ⟨nm_read, nm_as⟩) (by decide +kernel)
      · exact key ["read", "as", "write"] rfl rfl (by simp only [List.mem_cons, List.not_mem_nil, or_false, forall_eq_or_imp, forall_eq]; exact ⟨nm_read, nm_as, nm_write⟩) (by decide +kernel)
      · exact key ["read", "as", "write", "by"] rfl rfl (by simp only [List.mem_cons, List.not_mem_nil, or_false, forall_eq_or_imp, forall_eq]; exact ⟨nm_read, nm_as, nm_write, nm_by⟩) (by decide +kernel)
      · exact key ["read", "as", "write", "by", "of"] rfl rfl (by simp only [List.mem_cons, List.not_mem_nil, or_false, forall_eq_or_imp, forall_eq]; exact ⟨nm_read, nm_as, nm_write, nm_by, nm_of⟩) (by decide +kernel)
    · rw [if_neg (by simp [h4])]
      refine drawI (by decide) hp1 fun sh H2 s0 s26 hp2 b2 => ⟨by rw [sizeLine_eq]; decide, fun l hl => ?_⟩
      have b02 := But.tr b1 b2
      refine drawI (by decide) (hp2.put (hp2.ne hl)) fun r3 H3 r0 r33 hp3 b3 => ?_
      have hl3 : H3 l = some (.lst [V.int 1, .int 25, .int 7]) := b3 _ _ upd_same (Ne.symm (hp2.ne hl))
      have b03 : But p H H3 := But.tr (But.nw b02 hp2 hl) b3
      have hstr : ∃ st : Int, atI [V.int 1, .int 25, .int 7] r3 = some (.int st) ∧ (st = 1 ∨ st = 25 ∨ st = 7) := by
        have : r3 = 0 ∨ r3 = 1 ∨ r3 = 2 := by omega
        rcases this with rfl | rfl | rfl
        · exact ⟨1, rfl, .inl rfl⟩
        · exact ⟨25, rfl, .inr (.inl rfl)⟩
        · exact ⟨7, rfl, .inr (.inr rfl)⟩
      obtain ⟨st, hat, hst⟩ := hstr
      refine ixL (.inl (.inl hl3)) hat (drawI (by decide) hp3 fun fn H4 f0 f4 hp4 b4 => ⟨fn, rfl, by omega, by omega, ?_⟩)
      have b04 := But.tr b03 b4
      refine FJ.rangeI (fun i σ' H' => ∃ fr : Str, fr.length ≤ i ∧ InL fr ∧ Pl H' p ∧ But p H H' ∧ ∃ z, σ' = [some (.ref p), some (.int c), some (.str abc), some (.int ch), some (.int sh), some (.int st), some (.str fr), z, none, none, none]) f0 ⟨Str.empty, Nat.le_refl _, inL_nil, hp4, b04, _, rfl⟩ (fun i σ' H' hi inv => ?_) fun σ' H' inv => ?_
      · obtain ⟨fr, hfl, hfi, hp5, b5, z, rfl⟩ := inv
        walk_at "rd"
        refine drawI (by decide) hp5 fun r H5 r0 r26 hp6 b6 => ixS (by rw [abc_len, sizeLine_eq]; decide) (abc_at r0 r26) (addSS.mpr ⟨by rw [len_one, sizeLine_eq]; omega, _, by rw [len_app, len_one]; omega, inL_app hfi (inL_one (by omega)), hp6, But.tr b5 b6, rfl, _, rfl⟩)
      · obtain ⟨fr, hfl, hfi, hp5, b5, z, rfl⟩ := inv
        walk_at "rd"
        refine drawI (by decide) hp5 fun bn H5 g0 g4 hp6 b6 => ⟨bn, rfl, by omega, by omega, ?_⟩
        have b06 := But.tr b5 b6
        refine FJ.rangeI (fun i σ' H' => ∃ bk : Str, bk.length ≤ i ∧ InL bk ∧ Pl H' p ∧ But p H H' ∧ ∃ z, σ' = [some (.ref p), some (.int c), some (.str abc), some (.int ch), some (.int sh), some (.int st), some (.str fr), z, some (.str bk), none, none]) g0 ⟨Str.empty, Nat.le_refl _, inL_nil, hp6, b06, _, rfl⟩ (fun i σ' H' hi inv => ?_) fun σ' H' inv => ?_
        · obtain ⟨bk, hbl, hbi, hp7, b7, z, rfl⟩ := inv
          walk_at "rd"
          refine drawI (by decide) hp7 fun r H8 r0 r26 hp8 b8 => ixS (by rw [abc_len, sizeLine_eq]; decide) (abc_at r0 r26) (addSS.mpr ⟨by rw [len_one, sizeLine_eq]; omega, _, by rw [len_app, len_one]; omega, inL_app hbi (inL_one (by omega)), hp8, But.tr b7 b8, rfl⟩)
        · obtain ⟨bk, hbl, hbi, hp7, b7, z, rfl⟩ := inv
          walk_at "rd"
          have hfl3 : fr.length ≤ 3 := by omega
          have hbl3 : bk.length ≤ 3 := by omega
          refine fun q0 hq0 => ⟨by omega, by omega, FJ.rangeI (fun i σ' H9 => ∃ xs : List Str, xs.length = i ∧ NU fr bk sh st xs ∧ H9 = upd H' q0 (.lst (xs.map V.str)) ∧ ∃ z w, σ' = [some (.ref p), some (.int c), some (.str abc), some (.int ch), some (.int sh), some (.int st), some (.str fr), z, some (.str bk), some (.ref q0), w]) (by omega) ⟨[], rfl, (fun j x h => nomatch h), rfl, _, _, rfl⟩ (fun i σ' H9 hi inv => ?_) fun σ' H9 inv => ?_⟩
          · obtain ⟨xs, hxl, hnu, rfl, z, w', rfl⟩ := inv
            walk_at "rd"
            subst hxl
            have m := mod26I (sh + st * xs.length)
            refine ⟨.inl (by omega), by decide, ixS (by rw [abc_len, sizeLine_eq]; decide) (abc_at m.1 m.2) (addSS.mpr ⟨by rw [len_one, sizeLine_eq]; omega, addSS.mpr ⟨by rw [len_app, len_one, sizeLine_eq]; omega, ?_⟩⟩)⟩
            have hup : upd H' q0 (.lst (xs.map V.str)) q0 = some (.lst (xs.map V.str)) := upd_same
            have hsz : (xs.map V.str).length < sizeLine := by rw [List.length_map, sizeLine_eq]; omega
            by_cases h2 : ch = 2
            · rw [if_pos h2]
              refine ixS (by rw [abc_len, sizeLine_eq]; decide) (abc_at (by omega) (by omega)) ⟨by decide, mulSI (by omega) fun y hy => addSS.mpr ?_⟩
              have hyl : y.length ≤ 1 ∧ InL y := by
                rcases hy with rfl | rfl
                · exact ⟨Nat.zero_le _, inL_nil⟩
                · exact ⟨Nat.le_refl _, inL_one (by omega)⟩
              refine ⟨by rw [len_app, len_app, len_one, sizeLine_eq]; omega, .inl ⟨rfl, _, .inl (.inl hup)⟩, q0, _, _, rfl, rfl, hup, hsz, _, by simp, hnu.snoc hyl.2 hyl.1, ?_, _, rfl⟩
              rw [upd_upd, List.map_append]; rfl
            · rw [if_neg h2]
              have e := hnu.snoc inL_nil (Nat.zero_le _)
              rw [app_nil] at e
              refine ⟨.inl ⟨rfl, _, .inl (.inl hup)⟩, q0, _, _, rfl, rfl, hup, hsz, _, by simp, e, ?_, _, rfl⟩
              rw [upd_upd, List.map_append]; rfl
          · obtain ⟨xs, hxl, hnu, rfl, z, w', rfl⟩ := inv
            walk_at "rd"
            have hnl : xs.length = c := by omega
            refine q q0 _ xs hnl (hnu.nm hfl3 hbl3 hfi hbi) (hnu.nodup hst (by omega)) (But.free' b7 hp7 hq0) upd_same ?_ ?_
            · exact hp7.put (hp7.ne hq0)
            · exact But.nw b7 hp7 hq0
def sp_namesN : Sp := fun vs H Q _ => ∃ (p : Addr) (c : Nat), vs = [.ref p, .int c] ∧ Pl H p ∧ 1 ≤ c ∧ c ≤ 5 ∧ ∀ q H' (xs : List Str), xs.length = c → (∀ z ∈ xs, isNm z) → xs.Nodup → H q = none → H' q = some (.lst (xs.map V.str)) → Pl H' p → But p H H' → Q (.ref q) H'
theorem d_namesN (T : Nm mg) (D : TD K mg "_law_names" s__law_names) (d__law_draw : Dn P w K mg base CX0 1 "_law_draw" sp_draw) : Dn P w K mg base CX0 2 "_law_names" sp_namesN := by
  obtain ⟨f, fd, ps, F, r⟩ := (d_names0 T D d__law_draw).ex
  exact ⟨f, fd, ps, F.imp fun vs H Q E ⟨p, c, e, hp, h1, h5, q⟩ => ⟨p, c, e, hp, h5, q⟩, r⟩
end
end U
set_option Elab.async false
set_option linter.all false
set_option maxRecDepth 100000
set_option maxHeartbeats 4000000
namespace U
open PySem PySem.Spec PyProof.Rows L2 UL UV UW NdefX
section
variable {P : Program} {w : World} {K : PySem.W.Frag} {mg : Str → Option Value} {base : Heap}
theorem ncK {CX : CXT} {N : List Str} {F : NF} {f : Addr} {A : Around} {outer : List Env} {s : Shared} {H : Hp} {E : XK} : (ncx CX P w K mg base N F f A outer s H E).K = K := rfl
end
local macro_rules | `(tactic| walk_at "rdx") => `(tactic| simp only [tCons, tNil, tJs, tC, tFmt, tFmtN, tVar, tOst, tSeq, startF, L2.start, List.length_cons, List.length_nil, List.map_cons, List.map_nil, List.replicate, List.cons_append, List.nil_append, List.getElem?_cons_zero, List.getElem?_cons_succ, Option.some.injEq, exists_eq_left', exists_eq_left, V.str.injEq, V.int.injEq, V.ref.injEq, reduceCtorEq, false_and, exists_false, or_false, false_or, and_true, true_and, exists_and_left, exists_and_right, Nat.reduceAdd, Nat.reduceSub, Nat.reduceLeDiff, ncK])
section
variable {P : Program} {w : World} {K : PySem.W.Frag} {mg : Str → Option Value} {base : Heap}
/-- an exception class as it stands, with its __init__ -/
structure XD (P : Program) (K : PySem.W.Frag) (mg : Str → Option Value) (C : Addr) (x qual : Str) (st : Stmt) : Prop where
  ex : ∃ (f c cc : Addr) (oc kV doc pm ct : Value) (od an : Option Addr) (osl : Array (Option Value)), K.lookup f = some ⟨oc, od, .func (PySem.W.fnX "__init__" qual (defArgs st) (defBody st) (defScope st) [("__class__", cc)] .none kV doc pm an (.ref c) ct), osl⟩ ∧ PySem.W.codeIn K (.ref c) qual = true ∧
    SupF P K mg C f c cc (PySem.W.fnX "__init__" qual (defArgs st) (defBody st) (defScope st) [("__class__", cc)] .none kV doc pm an (.ref c) ct) ∧ PySem.W.findIn K (.ref C) "__init__" = some (some (.ref f)) ∧ PySem.W.typeIn K (.ref f) = some (.type "function")
  ox : OexC K C
  gc : mg x = some (.ref C)
/-- .. and what its __init__ promises -/
structure Xn (P : Program) (w : World) (K : PySem.W.Frag) (mg : Str → Option Value) (base : Heap) (k : Nat) (C : Addr) (x : Str) (sp : Sp) : Prop where
  ex : ∃ (f : Addr) (fd : FuncData) (ps : List Str), FnOk P w K mg base CX0 k f fd ps sp ∧ PySem.W.findIn K (.ref C) "__init__" = some (some (.ref f)) ∧ PySem.W.typeIn K (.ref f) = some (.type "function") ∧ Binds K fd ps []
  ox : OexC K C
  gc : mg x = some (.ref C)
theorem pmk_x {X : Cx} {C : Addr} {x : Str} {sp : Sp} {k j : Nat} {e : Expr} {es : List Expr} {ta : TA} {p pos : Pos} (d : Xn X.prog X.w X.K X.mg X.base k C x sp) (hr : Room j X.A) (hk : k + 1 ≤ j) (hg : Gl X x) (ha : PA X (e :: es) ta)
    (hdb : (x == ("__debug__" : Str)) = false := by decide) (he : starEach (e :: es) X.env = (false, eval e X.env) :: starEach es X.env := by rfl) (hpl : (backTo pos (starEach es X.env)).any (·.1) = false := by rfl) : PMk X (.Call (.Name x p) (e :: es) [] pos) (tMkO C sp [] ta) := by
  obtain ⟨f, fd, ps, F, h1, h2, B⟩ := d.ex
  exact pmk_oex d.ox h1 h2 F (hr.mono hk) B .nil (fun _ _ _ _ _ _ _ h => h.elim) hg d.gc ha hdb he hpl
theorem log64 {i : Int} (h0 : -(2 ^ 64) < i) (h1 : i < 2 ^ 64) : i.natAbs.log2 < 1920 := by
  by_cases e : i.natAbs = 0
  · rw [e]; decide
  · have : i.natAbs < 2 ^ 64 := by omega
    have := (Nat.log2_lt e).mpr this
    omega
/-- the exception's record is gone, its dict stands -/
theorem exg1 {H : Hp} {a d : Addr} {o1 o2 o3 o4 : HO} (ha : H a = none) : upd (del (upd (upd (upd H a o1) d o2) a o3) a) d o4 = upd H d o4 := by
  funext b
  by_cases hb : b = d
  · rw [hb, upd_same, upd_same]
  · rw [upd_ne hb, upd_ne hb]
    by_cases h2 : b = a
    · rw [h2, del_same, ha]
    · rw [del_ne h2, upd_ne h2, upd_ne hb, upd_ne h2]
end
end U
set_option Elab.async false
set_option linter.all false
set_option maxRecDepth 100000
set_option maxHeartbeats 4000000
/-! a classmethod that may raise, called in a try's body -/
namespace UX
open PySem PySem.Spec PyProof.Rows L2 UL UV UW ClX
/-- C.m(..), m a classmethod that may raise -/
structure CMnX (P : Program) (w : World) (K : PySem.W.Frag) (mg : Str → Option Value) (base : Heap) (CX : CXT) (k : Nat) (C : Addr) (x m : Str) (sp : Sp) : Prop where
  ex : ∃ (q g : Addr) (mc : Value), CRead K C mc ∧ CMet K C mc m q g ∧ FnR P w K mg base CX k g sp ∧ mg x = some (.ref C)
def tBCX (sp : Sp) (E : L2.St → XK) (t : TA) : TE := fun σ H Q => t σ H fun vs H2 => sp vs H2 Q (E σ)
section
variable {X : Cx} {CX : CXT} {k j i : Nat} {C : Addr} {sp : Sp} {E : L2.St → XK} {e : Expr} {es : List Expr} {m x : Str} {p pos apos : Pos} {t : TA} {pl : Sem Bool}
theorem run_fnRS {pins : List (Addr × Obj)} {σ : L2.St} {H : Hp} {s : Shared} {Q : VK} {f : Addr} {us : List Value} {vs : List V} {E0 : XK} (F : FnR X.prog X.w X.K X.mg X.base CX k f sp) (hr : Room k X.A) (hx : ∀ (s' : Shared) (e : Value), CX X.stack H s E0 e s' → X.xe e s')
    (I : L2.Inv X pins σ H s) (r : Vals vs us) (h : sp vs H Q E0) :
    codeAny (model X.prog X.w) X.A (.call (.ref f) ⟨us, []⟩) (fun r s' => match r with | .ok (.ret v) => EP X pins σ Q v s' | .ok _ => False | .error e => X.xe e s') s := by
  refine codeAny_mono (F X.A X.stack s H us vs Q E0 hr I.env0 r h) fun r s' hq => ?_
  cases r with
  | error e => exact hx s' e hq
  | ok fl =>
    cases fl with
    | ret u => exact I.after hq
    | next => exact False.elim hq
    | brk => exact False.elim hq
    | cont => exact False.elim hq
theorem pe_cmX (d : CMnX X.prog X.w X.K X.mg X.base CX k C x m sp) (hr : Room j X.A) (hk : k ≤ j) (hx : ∀ σ, PassesAt CX X σ (E σ)) (hg : Gl X x) (ha : PA X (e :: es) t) (hdb : (x == ("__debug__" : Str)) = false := by decide)
    (hst : starEach (e :: es) X.env = (false, eval e X.env) :: starEach es X.env := by rfl) (hpl : (backTo pos (starEach es X.env)).any (·.1) = false := by rfl)
    (ht : eval (.Call (.Attribute (.Name x p) m apos) (e :: es) [] pos) X.env = (do
      let ov ← eval (.Name x p) X.env
      standAt apos.atName
      let (f, first) ← holding [ov] (getMethod ov m pl)
      callWith pos f first (backTo pos (starEach (e :: es) X.env)) (backToKw pos (keywordEach [] X.env))) := by rfl) : PE X (.Call (.Attribute (.Name x p) m apos) (e :: es) [] pos) (tBCX (fun vs H Q E => sp (.ref C :: vs) H Q E) E t) := by
  obtain ⟨q, g, mc, r, c, F, hm⟩ := d.ex
  have gl : PE X (.Name x p) (tC (.ref C)) := C8.pe_gc (v := .ref C) hg ⟨_, hm, rfl⟩ hdb
  refine ⟨fun pins s σ H Q I h => ?_⟩
  refine PySem.W.methodCall_KW (pl := pl) (thn (gl.run pins s σ H (fun x H1 => x = V.ref C ∧ H1 = H) I ⟨rfl, rfl⟩) fun u s1 ⟨x, H1, I1, rx, ex, eH⟩ => ?_) ht
  subst ex eH
  obtain rfl : u = Value.ref C := rx
  refine getmethcm_ok I1 r c fun s2 I2 => ?_
  refine callwith_cm I2 (base_none I1 (Nat.le_refl _)) c.fi (thn (ha.run pos _ s2 σ _ _ I2 h) fun us s3 ⟨vs, H2, I3, rv, q2⟩ => ⟨⟨pin_at I3, I3.kIn⟩, ?_⟩) hst hpl
  have z : wpAny (model X.prog X.w) X.A (call (.ref s1.heap.objs.size) us) (EP X ((s1.heap.objs.size, PySem.W.methodObj (.ref g) (.ref C)) :: pins) σ Q) X.xe s3 :=
    wpAny_call (PySem.W.method_call (pin_at I3) (run_fnRS (us := .ref C :: us) (vs := .ref C :: vs) F (hr.mono hk) (fun s' e c => hx σ _ H2 s3 e s' I3 c) I3 (.cons rfl rv) q2))
  exact thn z fun _ _ y => unpinE y
end
end UX
set_option Elab.async false
set_option linter.all false
set_option maxRecDepth 100000
set_option maxHeartbeats 4000000
/-! tuple(d); a class made in a try; what is never reached -/
namespace UX
open PySem PySem.Spec PyProof.Rows L2 UL UV UW PySem.W
section
variable {prog : Program} {w : World} {A : Around} {E : Value → Shared → Prop} {s : Shared} {r d : Addr} {n : Nat} {T : String} {P : Nat → Value → Prop} {OK : Heap → Prop}
theorem collect_kdl {Q : List Value → Shared → Prop} (K : KdlSrc prog w T r d n P OK) (hh : A.handled = none) (hok : OK s.heap) (hlen : n ≤ sizeLine)
    (hQ : ∀ (h' : Heap) (tk : Nat) (acc : Array Value), (∀ b o, s.heap.get? b = some o → h'.get? b = some o) → ItemsOf P acc n → Q acc.toList { s with heap := h', toks := tk }) :
    wpAny (model prog w) A (collect (.ref r)) Q E s := by
  unfold collect
  refine wpAny_bind (wpAny_runValue (codeAny_builtin F.entry_proto_collect ?_))
  rw [Around.under_plainId F.plain_proto_collect _]
  show wpAny _ A.in1 (newList [] >>= fun l => again (.builtin "list.__iadd__" ⟨[l, .ref r], []⟩)) _ _ s
  refine wpAny_bind (wpAny_newObj_type ?_)
  refine wpAny_pure ⟨plainId_quiet F.plain_list_iadd _, codeAny_builtin F.entry_list_iadd ?_⟩
  rw [Around.under_plainId F.plain_list_iadd _]
  show wpAny _ A.in1 (Builtin.List.listExtendWith (.ref s.heap.objs.size) (.ref r) (.ref s.heap.objs.size)) _ _ _
  have hS : (s.heap.push { cls := .type "list", data := .seq ([] : List Value).toArray }).get? s.heap.objs.size = some { cls := .type "list", data := .seq #[] 0 } := Heap.get?_push_size _ rfl
  have hok2 : OK (s.heap.push { cls := .type "list", data := .seq ([] : List Value).toArray }) := K.keep _ _ hok fun b _ o e => Heap.get?_push_of_some _ e
  obtain ⟨t1, t2⟩ := K.there _ hok
  refine wpAny_mono (kdl_extend (A := A) (R := fun rr s' => rr = .ok (.ret (.ref s.heap.objs.size)) ∧ ∃ (h' : Heap) (tk : Nat) (acc : Array Value) (c' : Nat), s' = { s with heap := h', toks := tk } ∧
      (∀ b o, s.heap.get? b = some o → h'.get? b = some o) ∧ h'.get? s.heap.objs.size = some { cls := .type "list", dict := none, data := .seq acc c', slots := #[] } ∧ ItemsOf P acc n)
    (s := { s with heap := s.heap.push { cls := .type "list", data := .seq ([] : List Value).toArray } }) K hh hok2 s.heap.objs.size (Nat.ne_of_gt t1) (Nat.ne_of_gt t2) _ 0 hS
    (fun h' tk acc c' hk e hi => ⟨rfl, h', tk, acc, c', rfl, fun b o q => hk b o (Nat.ne_of_lt (Heap.lt_size q)) (Heap.get?_push_of_some _ q), e, hi⟩) hlen) (fun fin s' h => ?_) (fun e s' h => ?_)
  · cases fin with
    | done f =>
      obtain ⟨e, h', tk, acc, c', rfl, hk, hS', hi⟩ := h
      cases e
      show wpAny _ A (load s.heap.objs.size >>= _) _ _ _
      exact wpAny_bind (wpAny_load hS' (wpAny_pure (hQ h' tk acc hk hi)))
    | again c' =>
      refine ⟨h.1, codeAny_mono h.2 fun rr s'' hr' => ?_⟩
      obtain ⟨rfl, h', tk, acc, c', rfl, hk, hS', hi⟩ := hr'
      show wpAny _ A (load s.heap.objs.size >>= _) _ _ _
      exact wpAny_bind (wpAny_load hS' (wpAny_pure (hQ h' tk acc hk hi)))
  · exact absurd h.1 (by simp)
theorem code_tuple_new_kdl {Q₁ : Value → Shared → Prop} (K : KdlSrc prog w T r d n P OK) (hh : A.handled = none) (hok : OK s.heap) (hlen : n ≤ sizeLine)
    (h : ∀ (h' : Heap) (tk : Nat) (acc : Array Value), (∀ b o, s.heap.get? b = some o → h'.get? b = some o) → ItemsOf P acc n →
      Q₁ (.ref h'.objs.size) { s with heap := h'.push { cls := .type "tuple", data := .seq acc }, toks := tk }) :
    codeAny (model prog w) A (.call (.builtin "tuple.__new__") ⟨[.type "tuple", .ref r], []⟩) (wants Q₁ E) s := by
  refine codeAny_of_tree ?_
  show wpAny _ A.in1 (do checkBuiltinCall "tuple.__new__" ⟨[.type "tuple", .ref r], []⟩; again (.builtin "tuple.__new__" ⟨[.type "tuple", .ref r], []⟩)) _ _ s
  refine wpAny_bind (wpAny_of_eq (F.newCall_tuple_1 _) (wpAny_pure ⟨plainId_quiet F.plain_tuple_new _, codeAny_builtin F.entry_tuple_new ?_⟩))
  rw [Around.under_plainId F.plain_tuple_new _]
  have hsub := sub_tuple_self
  have hinit := init_tuple_lookup
  have hmh := madeHere_tuple
  have hTI : s.TypeIs (.ref r) T := K.type s hok
  have hh1 : A.in1.handled = none := hh
  have hnt := K.notTuple
  wp_walk using wpAny_typeOf hTI, collect_kdl (A := A.in1) K hh1 hok hlen
  intro h' tk acc hk hacc
  show wpAny _ _ (Builtin.Tuple.tupleExact acc.toList.toArray >>= fun v => ret v) _ _ _
  unfold Builtin.Tuple.tupleExact
  refine wpAny_bind (wpAny_newObj_type ?_ (by show acc.toList.toArray.size ≤ sizeLine; simp only [Array.toArray_toList]; rw [hacc.1]; exact hlen))
  refine wpAny_pure ?_
  have e : acc.toList.toArray = acc := by simp
  rw [e]
  exact h h' tk acc hk hacc
theorem call_tuple_kdl {Q : Value → Shared → Prop} (K : KdlSrc prog w T r d n P OK) (hh : A.handled = none) (hok : OK s.heap) (hlen : n ≤ sizeLine)
    (hQ : ∀ (h' : Heap) (tk : Nat) (acc : Array Value), (∀ b o, s.heap.get? b = some o → h'.get? b = some o) → ItemsOf P acc n →
      Q (.ref h'.objs.size) { s with heap := h'.push { cls := .type "tuple", data := .seq acc }, toks := tk }) :
    wpAny (model prog w) A (call (.type "tuple") [.ref r]) Q E s := by
  refine callType_codes (Q₁ := fun obj s₁ => s₁.TypeIs obj "tuple" ∧ Q obj s₁) F.called_tuple (F.typeCall_tuple_1 _) F.entry_object_init
    (code_tuple_new_kdl (A := A.in1) K hh hok hlen fun h' tk acc hk hacc => ⟨⟨_, Heap.get?_push_size _ rfl, rfl⟩, hQ h' tk acc hk hacc⟩) fun obj s₁ h₁ => ?_
  exact ⟨h₁.1, F.args_object_init_2 obj _, object_init_meets F.called_tuple.init.lookup F.called_tuple.made (by decide) prog w A.in1 _ s₁ ⟨h₁.1, rfl, h₁.2⟩⟩
end
section
variable {X : Cx}
/-- tuple(d), d with plain keys: no dict, no slots -/
def cTupD : List V → Hp → VK → Prop := fun xs H Q => ∃ (a : Addr) (kvs : List (Key × V)), xs = [.ref a] ∧ Rd H a (.dK kvs) ∧ ∀ p o, H p = none → o.dict = none → o.slots = #[] → Q (.ref p) (upd H p (.frz o (.tup (kvs.map fun kv => kV kv.1))))
theorem call_tupD (hcalm : X.calm = true) : CallR X (.type "tuple") cTupD := by
  intro pins s σ H xs us Q I r q
  obtain ⟨a, kvs, ex, hd, q⟩ := q
  subst ex
  obtain ⟨u, eu, rx⟩ := vals1 r
  subst eu
  cases rx
  obtain ⟨z, lo, vs, rel, dd⟩ := dk_rd I.hok hd
  obtain ⟨ep, hat⟩ := dd.dictAt
  have ek : (kvs.map fun kv => kV kv.1) = vs.map fun p => kV p.1 := by
    have e := congrArg (List.map kV) rel.keys
    rw [List.map_map, List.map_map] at e
    exact e
  refine call_tuple_kdl (kdl_dict (knd := mixKind X.prog X.w) (kvs := vs) (ep := ep) lo) (I.ok.hd hcalm) hat (by rw [← rel.length]; exact z) fun h' tk acc hk hacc => ?_
  have hv : Vals (vs.map fun p => kV p.1) acc.toList := keys_at (by rw [Array.length_toList]; exact hacc.1) fun j v e => hacc.2 j v (by rw [← Array.getElem?_toList]; exact e)
  have I1 : Inv X pins σ H { s with heap := h', toks := tk } := I.kept (t' := tk) hk
  refine ⟨.ref h'.objs.size, _, I1.laid (t' := tk) (fun b o e => Heap.get?_push_of_some _ e) (Nat.le_refl _) (show ObjOk X.prog X.w _ _ _ (.frz { cls := .type "tuple", data := .seq acc } (.tup (kvs.map fun kv => kV kv.1))) from
    ⟨Heap.get?_push_size _ rfl, by rw [List.length_map]; exact z, acc.toList, by rw [ek]; exact hv, ?_⟩), rfl, q _ _ (I1.hok.fresh (Nat.le_refl _)) rfl rfl⟩
  have e : acc = acc.toList.toArray := by simp
  exact e ▸ IsTup.new _ _
end
/-- what a dict comprehension over J wants of its dict at D -/
def DJ (J : It) (g : TG) (tt : TT) (tk tv : TE) (vs : List Nat) (σ : L2.St) (D : Addr) (Qd : Hp → Prop) (H1 : Hp) : Prop := ∃ W : Nat → Nat → Hp → Prop, (∃ m, W 0 m (upd H1 D (.dK []))) ∧ ∀ i m H, W i m H →
  (J.stop i H ∧ Qd H) ∨ (J.go i H ∧ ∃ Nx : Hp → Prop, (∀ H', Nx H' → ∃ m', m' < m ∧ W (i + 1) m' H') ∧ ∀ x H', J.yld i H x H' → g x (wipe σ vs) H' fun σ2 H2 => wipe σ2 vs = wipe σ vs ∧ tt σ2 H2 fun b H3 =>
    if b = true then tk σ2 H3 fun y H4 => tv σ2 H4 fun z H5 => ∃ kvs k, y = kV k ∧ H5 D = some (.dK kvs) ∧ kvs.length < sizeLine ∧ Nx (upd H5 D (.dK (putK kvs k z))) else Nx H3)
theorem DJ.tup {K : PySem.W.Frag} {a : Addr} {xs : List V} {g : TG} {tt : TT} {tk tv : TE} {vs : List Nat} {σ : L2.St} {H1 : Hp} {D : Addr} {Qd : Hp → Prop} (Pv : Nat → Hp → Prop) (h0 : Pv 0 (upd H1 D (.dK []))) (hl : ∀ i H, i ≤ xs.length → Pv i H → SqT K H a xs)
    (hs : ∀ i x H, xs[i]? = some x → Pv i H → g x (wipe σ vs) H fun σ2 H2 => wipe σ2 vs = wipe σ vs ∧ tt σ2 H2 fun b H3 =>
      if b = true then tk σ2 H3 fun y H4 => tv σ2 H4 fun z H5 => ∃ kvs k, y = kV k ∧ H5 D = some (.dK kvs) ∧ kvs.length < sizeLine ∧ Pv (i + 1) (upd H5 D (.dK (putK kvs k z))) else Pv (i + 1) H3) (hd : ∀ H, Pv xs.length H → Qd H) : DJ (Itt K a) g tt tk tv vs σ D Qd H1 := dc_tup Pv h0 hl hs hd
end UX
set_option Elab.async false
set_option linter.all false
set_option maxRecDepth 100000
set_option maxHeartbeats 4000000
/-! a classmethod without arguments; own + and |; a classmethod with a star parameter -/
namespace UX
open PySem PySem.Spec PyProof.Rows L2 UL UV UW ClX
section
variable {X : Cx} {CX : CXT} {k j i : Nat} {C : Addr} {sp : Sp} {E : L2.St → XK} {ea eb : Expr} {op : Operator} {m x : Str} {p pos apos : Pos} {ta tb : TE} {pl : Sem Bool}
/-- C.m() -/
theorem pe_cmX0 (d : CMnX X.prog X.w X.K X.mg X.base CX k C x m sp) (hr : Room j X.A) (hk : k ≤ j) (hx : ∀ σ, PassesAt CX X σ (E σ)) (hg : Gl X x) (hdb : (x == ("__debug__" : Str)) = false := by decide)
    (ht : eval (.Call (.Attribute (.Name x p) m apos) [] [] pos) X.env = (do
      let ov ← eval (.Name x p) X.env
      standAt apos.atName
      let (f, first) ← holding [ov] (getMethod ov m pl)
      callWith pos f first (backTo pos (starEach [] X.env)) (backToKw pos (keywordEach [] X.env))) := by rfl) : PE X (.Call (.Attribute (.Name x p) m apos) [] [] pos) (tBCX (fun vs H Q E => sp (.ref C :: vs) H Q E) E tNil) := by
  obtain ⟨q, g, mc, r, c, F, hm⟩ := d.ex
  have gl : PE X (.Name x p) (tC (.ref C)) := C8.pe_gc (v := .ref C) hg ⟨_, hm, rfl⟩ hdb
  refine ⟨fun pins s σ H Q I h => ?_⟩
  refine PySem.W.methodCall_KW (pl := pl) (thn (gl.run pins s σ H (fun x H1 => x = V.ref C ∧ H1 = H) I ⟨rfl, rfl⟩) fun u s1 ⟨x, H1, I1, rx, ex, eH⟩ => ?_) ht
  subst ex eH
  obtain rfl : u = Value.ref C := rx
  refine getmethcm_ok I1 r c fun s2 I2 => ?_
  refine PySem.W.callWith_M0 (first := []) (K := X.K) (g := g) (self := .ref C) ⟨pin_at I2, I2.kIn⟩ c.fi ?_
  have z : wpAny (model X.prog X.w) X.A (call (.ref s1.heap.objs.size) []) (EP X ((s1.heap.objs.size, PySem.W.methodObj (.ref g) (.ref C)) :: pins) σ Q) X.xe s2 :=
    wpAny_call (PySem.W.method_call (pin_at I2) (run_fnRS (us := [.ref C]) (vs := [.ref C]) F (hr.mono hk) (fun s' e c => hx σ _ H1 s2 e s' I2 c) I2 (.cons rfl .nil) h))
  exact thn z fun _ _ y => unpinE y
/-- cls(..), cls the class at C, which may raise -/
def tMakeLX (i : Nat) (C : Addr) (sp : Sp) (E : XK) (t : TA) : TE := fun σ H Q => σ[i]? = some (some (.ref C)) ∧ t σ H fun vs H1 => ∀ x dx, H1 x = none → H1 dx = none → dx ≠ x → sp (.ref x :: vs) (upd (upd H1 dx (.own x)) x (.ins C dx [])) (fun v H2 => v = .non ∧ Q (.ref x) H2) E
theorem pe_makeLX {y : Str} {E : XK} {e : Expr} {es : List Expr} {t : TA} (d : Kn X.prog X.w X.K X.mg X.base CX k C y sp) (hr : Room j X.A) (hk : k + 1 ≤ j) (hN : X.N[i]? = some x) (hv : Vis X.env.scope x) (hx : Passes CX X E) (ha : PA X (e :: es) t)
    (hdb : (x == ("__debug__" : Str)) = false := by decide) (hcd : (x == ("__classdict__" : Str)) = false := by decide)
    (he : starEach (e :: es) X.env = (false, eval e X.env) :: starEach es X.env := by rfl) (hpl : (backTo pos (starEach es X.env)).any (·.1) = false := by rfl) : PE X (.Call (.Name x p) (e :: es) [] pos) (tMakeLX i C sp E t) := by
  obtain ⟨f, fd, ps, F, M, hb, hm⟩ := d.ex
  refine ⟨fun pins s σ H Q I h => ?_⟩
  obtain ⟨hs, ht⟩ := h
  refine wpAny_Call_Name_kw (thn ((pe_var (pos := p) hN hv hdb hcd).run pins s σ H (fun v H1 => v = .ref C ∧ H1 = H) I ⟨.ref C, hs, rfl, rfl⟩) fun u s1 ⟨v, H1, I1, r1, q1⟩ => ?_)
  obtain ⟨rfl, rfl⟩ := q1
  cases r1
  refine PySem.W.callWith_K (h₀ := X.base) I.ok.mod.kin M.kp (thn (ha.run pos pins s1 σ _ _ I1 ht) fun us s2 ⟨vs, H2, I2, r, q⟩ => ⟨I2.kIn, ?_⟩) he hpl
  have q' : ∀ x dx, H2 x = none → H2 dx = none → dx ≠ x → sp (.ref x :: (vs ++ [])) (upd (upd H2 dx (.own x)) x (.ins C dx [])) (fun v H3 => v = .non ∧ Q (.ref x) H3) E := fun x dx h1 h2 h3 => by
    rw [List.append_nil]
    exact q x dx h1 h2 h3
  exact run_make (dvs := []) M F (hr.mono hk) hb .nil hx I2 r q'
/-- inside a comprehension -/
theorem call_lenK (K : PySem.W.Frag) (h : X.K = K) : CallR X (.builtin "len") (cLen K) := h ▸ call_lenA
theorem ix_seqK (K : PySem.W.Frag) (h : X.K = K) : IxR X (rIx K) := h ▸ ix_seq
theorem op_eqK (K : PySem.W.Frag) (h : X.K = K) (hu : X.A.units + 64 < cLine) : OpR X (compareOp .Eq) (rEqA K) := h ▸ op_eqA hu
/-- C.f, a constant of the class -/
structure CVn (K : PySem.W.Frag) (mg : Str → Option Value) (x f : Str) (v : V) : Prop where
  ex : ∃ (C : Addr) (mc u : Value), mg x = some (.ref C) ∧ CRead K C mc ∧ CVal K C mc f v u
theorem pe_cv {f : Str} {v : V} (d : CVn X.K X.mg x f v) (hg : Gl X x) (hdb : (x == ("__debug__" : Str)) = false := by decide) (hb : attributeBase (.Name x p) f X.env (eval (.Name x p) X.env) = eval (.Name x p) X.env := by rfl) : PE X (.Attribute (.Name x p) f pos) (tC v) := by
  obtain ⟨C, mc, u, hm, r, k⟩ := d.ex
  have gl : PE X (.Name x p) (tC (.ref C)) := C8.pe_gc (v := .ref C) hg ⟨_, hm, rfl⟩ hdb
  exact ⟨fun pins s σ H Q I h => (pe_cval (pos := pos) gl hb).run pins s σ H Q I ⟨C, mc, v, u, rfl, r, k, h⟩⟩
/-- own binary operator -/
structure BiO (K : PySem.W.Frag) (C f : Addr) (op : Operator) : Prop where
  sf : PySem.W.selfFirst K C = true
  at_ : PySem.W.findIn K (.ref C) (PySem.dunder op.info.2) = some (some (.ref f))
  is : PySem.W.isFn K (.ref f) = true
structure BOn (P : Program) (w : World) (K : PySem.W.Frag) (mg : Str → Option Value) (base : Heap) (CX : CXT) (k : Nat) (C : Addr) (op : Operator) (sp : Sp) : Prop where
  ex : ∃ (f : Addr) (fd : FuncData) (ps : List Str), FnOk P w K mg base CX k f fd ps sp ∧ BiO K C f op ∧ Binds K fd ps []
end
section
variable {P : Program} {w : World} {K : PySem.W.Frag} {mg : Str → Option Value} {base : Heap}
/-- def f(p1, *pv), which may raise -/
theorem fun_starX {x qual : Str} {st : Stmt} {f : Addr} {fd : FuncData} {N : List Str} {p1 pv : Str} {k : Nat} {sp : Sp} (F : Fun K x qual st f fd) (S : FnScope N ([p1] ++ [pv]) (defScope st))
    (hb : ∀ (kV doc pm : Value) (an : Option Addr) (cdv ct : Value), (∀ a, bindArgs (PySem.W.fnOf x qual (defArgs st) (defBody st) (defScope st) .none kV doc pm an cdv ct) ⟨[a], []⟩ = (newTuple [] >>= fun t => pure [(p1, a), (pv, t)])) ∧
      (∀ a r rs, bindArgs (PySem.W.fnOf x qual (defArgs st) (defBody st) (defScope st) .none kV doc pm an cdv ct) ⟨a :: r :: rs, []⟩ = (newTuple (r :: rs) >>= fun t => pure [(p1, a), (pv, t)])))
    (hbody : ∀ (cdv : Value) (A : Around) (outer : List Env) (s : Shared) (H : Hp) (vs : List V) (Q : VK) (E : XK), Room k (A.deeper (envOfC qual (defScope st) s.heap.objs.size f cdv)) → sp vs H Q E →
      ∃ t, PSs (cxOf (L2.CX P w) P w K mg base N qual (defScope st) f cdv A outer s H E) (defBody st) t ∧ t { nx := fun _ H' => Q .non H', rt := Q } (start N vs) H) :
    FnR P w K mg base (L2.CX P w) (k + 1) f (fun vs H Q E => ∃ ws rest, vs = ws ++ rest ∧ ws.length = 1 ∧ rest.length ≤ sizeLine ∧ ∀ p, H p = Option.none → sp (ws ++ [V.ref p]) (upd H p (.tup rest)) Q E) := by
  obtain ⟨oc, od, kV, doc, pm, an, cdv, ct, osl, rfl, lk, hcd⟩ := F.ex
  exact StX.fn_star (ps := [p1]) lk hcd S StX.cxUp (fun us rest hl => StX.bind_star1 (B := fun l => bindArgs (PySem.W.fnOf x qual (defArgs st) (defBody st) (defScope st) .none kV doc pm an cdv ct) ⟨l, []⟩) (hb kV doc pm an cdv ct).1 (hb kV doc pm an cdv ct).2 us rest hl) fun A outer s H vs Q E hr hsp => hbody cdv A outer s H vs Q E hr hsp
end
end UX
set_option Elab.async false
set_option linter.all false
set_option maxRecDepth 100000
set_option maxHeartbeats 4000000
/-! d.setdefault(k, v) -/
namespace UX
open PySem PySem.Spec PyProof.Rows L2 UL UV UW ClX
theorem mt_setd {X : Cx} : MtR X "dict.setdefault" rSetd := by
  intro pins s σ H x vs u us Q I rx rv h
  obtain ⟨a, kvs, k, v, rfl, rfl, ea, hl, w1, w2⟩ := h
  cases rx
  obtain ⟨u1, u2, rfl, ry, rd⟩ := rv.two
  obtain ⟨z, hd, vs0, rel, dd⟩ := dk_of I.hok ea
  have hz : vs0.length ≤ sizeLine := by rw [← rel.length]; exact z
  refine call_meetsIn F.slot_dict_setdefault dd.typeIs F.entry_dict_setdefault (F.args_dict_setdefault_3 _ _ _) (kt_meets_setdefault (mixKind X.prog X.w) _ (kV_is ry) hd _) ⟨vs0, dd, hz, fun u hu => ?_, fun hn h' dd' hs => ?_⟩
  · have rr := rel.val k
    rw [hu] at rr
    cases hv : valV kvs k with
    | none => rw [hv] at rr; exact False.elim rr
    | some x =>
      rw [hv] at rr
      exact (⟨x, H, I.tok _, rr, w1 x hv⟩ : EP X pins σ Q u _)
  · have rr := rel.val k
    rw [hn] at rr
    cases hv : valV kvs k with
    | some x => rw [hv] at rr; exact False.elim rr
    | none =>
      have hl2 : (putK kvs k v).length ≤ sizeLine := by have := length_putK kvs k v; omega
      exact (⟨v, _, d_write (t' := s.toks + 1) I (by rw [ea]; exact True.intro) hs (let ⟨q, _, _, hq, _⟩ := dd'; ⟨q, hq⟩) (dk_new hl2 hd (rel.put k rd) dd'), rd, w2 hv⟩ : EP X pins σ Q _ _)
/-- len(d) -/
def cLenD : List V → Hp → VK → Prop := fun xs H Q => ∃ (a : Addr) (kvs : List (Key × V)), xs = [.ref a] ∧ Rd H a (.dK kvs) ∧ Q (.int kvs.length) H
theorem call_lenF {X : Cx} : CallR X (.builtin "len") cLenD := by
  intro pins s σ H xs us Q I r h
  obtain ⟨a, kvs, rfl, hd, q⟩ := h
  obtain ⟨u, rfl, ru⟩ := r.one
  cases ru
  exact d_len I hd fun t s' I' => ⟨.int kvs.length, H, I', ⟨t, rfl⟩, q⟩
theorem un1 {n k : Nat} (h : n + 64 < k) : n + 1 < k := by omega
end UX
set_option Elab.async false
set_option linter.all false
set_option maxRecDepth 100000
set_option maxHeartbeats 4000000
set_option pp.deepTerms true
set_option pp.maxSteps 400000
namespace U
open PySem PySem.Spec PyProof.Rows L2 UL UX
local macro_rules | `(tactic| walk_at "rd") => `(tactic| simp only [sMatch, tJs, tFmt, tBC, tMethA, tMakeL, iEnumS, tSeq, tAsg, tOp, tCB, tCons, tNil, tVar, tC, tB, tTest, tNot, tIfS, tNext, tYes, tUn, rU, tM0, tGFrom, tGThen, tG0, tYfLst, gcxK, tSubO, tProp, tListG, tMethG, tBMF, tFld, sFld, tMeth, tMake, tSl, tNoPart, tPart, tM1, gTup, gCons, gNil, tDrop, tFor_eq, tLc_eq, tLc2_eq, iRng1_eq, StX.tStar, iList, iTup, iStr, iAny_var, iZipB, tLenSetS, wipe, tVar, tAndV, tOrV, tNotV, tOr, tAnd, tLst, tTup, tBM, tBM0, tChain, tCall, cxK, noxK, addII, addSS, mulII, eqII, neII, neSS, cIntI, cAbsI, rI, rI0, rLt, rLe, rGt_, rGe_, rSub_, rMod, rPow, rDivW, rNeg, gName, tRet, L2.start, List.length_cons, List.length_nil, List.map_cons, List.map_nil, List.replicate, List.cons_append, List.nil_append, List.getElem?_cons_zero, List.getElem?_cons_succ, List.set_cons_zero, List.set_cons_succ, Option.some.injEq, exists_eq_left', exists_eq_left, V.int.injEq, V.bl.injEq, V.str.injEq, V.ref.injEq, V.ty.injEq, List.cons.injEq, and_true, true_and, reduceCtorEq, false_and, exists_false, or_false, false_or, exists_and_left, exists_and_right, List.append_nil, forall_eq, decide_eq_true_eq, Bool.not_eq_true, Nat.reduceAdd, Nat.reduceSub, List.replicate_zero, List.replicate_succ, Nat.zero_le, ite_true, ite_false, if_true, if_false])
section
variable {P : Program} {w : World} {K : PySem.W.Frag} {mg : Str → Option Value} {base : Heap}
open UV UW NdefX
variable {IC : Addr}
theorem pmk_0 {X : Cx} {C : Addr} {x : Str} {sp : Sp} {k j : Nat} {p pos : Pos} (d : Xn X.prog X.w X.K X.mg X.base k C x sp) (hr : Room j X.A) (hk : k + 1 ≤ j) (hg : Gl X x) (hdb : (x == ("__debug__" : Str)) = false := by decide) (hex : X.ex = [] := by rfl) : PMk X (.Call (.Name x p) [] [] pos) (tMk0 C sp) := by
  obtain ⟨f, fd, ps, F, h1, h2, B⟩ := d.ex
  exact made0 d.ox h1 h2 F hr hk B hex hg d.gc hdb
local macro_rules | `(tactic| walk_at "rdx") => `(tactic| simp only [tCons, tNil, tJs, tC, tFmt, tFmtN, tVar, tOst, tSeq, NdefX.startF, L2.start, List.length_cons, List.length_nil, List.map_cons, List.map_nil, List.replicate, List.cons_append, List.nil_append, List.getElem?_cons_zero, List.getElem?_cons_succ, Option.some.injEq, exists_eq_left', exists_eq_left, V.str.injEq, V.int.injEq, V.ref.injEq, reduceCtorEq, false_and, exists_false, or_false, false_or, and_true, true_and, exists_and_left, exists_and_right, Nat.reduceAdd, Nat.reduceSub, Nat.reduceLeDiff, ncK])
abbrev s_IC : Stmt := inClass (top 3) 0
theorem sc_IC : NScope ["self", "__class__"] ["self"] ["__class__"] (defScope s_IC) := nscope_by (by decide +kernel)
def sp_IC : Addr → Sp := fun C vs H Q _ => ∃ a : Addr, vs = [.ref a] ∧ H a = some (exo a C none) ∧ Q .non H
theorem x_IC {C : Addr} (D : XD P K mg C "InvalidCells" "InvalidCells.__init__" s_IC) : Xn P w K mg base 1 C "InvalidCells" (sp_IC C) := by
  obtain ⟨f, c, cc, oc, kV, doc, pm, ct, od, an, osl, lk, hcd, F, h1, h2⟩ := D.ex
  refine ⟨⟨f, _, ["self"], fn_sup (N := ["self", "__class__"]) (ps := []) (pl := _) lk hcd sc_IC D.ox F (by decide +kernel) (fun vs H Q E h => ?_) (fun A outer s H vs Q E hr h => ?_), h1, h2, Binds.all fun us hl => match us, hl with | [_], _ => rfl⟩, D.ox, D.gc⟩
  · obtain ⟨a, rfl, _⟩ := h; rfl
  · obtain ⟨a, rfl, ha, q⟩ := h
    refine ⟨a, _, _, rfl, ha, pa_cons pe_str pa_nil, pss_nil, ?_⟩
    walk_at "rdx"
    exact ⟨ha, q⟩
/-- an exception without fields, at a later heap -/
def X0 (C : Addr) (H : Hp) (E : XK) : Prop := ∀ H', Same H H' → E (.ref C) none H'
theorem X0.same {C : Addr} {H H' : Hp} {E : XK} (h : X0 C H E) (s : Same H H') : X0 C H' E := fun H2 s2 => h H2 (Same.tr s s2)
theorem raise0 {H : Hp} {E : XK} {σ : L2.St} (h : X0 IC H E) : tMk0 IC (sp_IC IC) σ H (fun cls d H' => E cls d H') := fun a ha => ⟨a, rfl, upd_same, rfl, upd_same, h _ fun b o e => by
  have n : b ≠ a := ne_of_none e ha
  rw [del_ne n, upd_ne n]; exact e⟩
def nmsB (xs : List Str) : Bool := decide (1 ≤ xs.length) && decide (xs.length ≤ 3) && xs.all nmB && decide ((met xs).length = xs.length)
abbrev s_check_names : Stmt := top 39
abbrev sc_check_names_N : List Str := ["names", ".0", "name"]
theorem sc_check_names : FnScope sc_check_names_N ["names"] (defScope s_check_names) := ⟨rfl, rfl, rfl, by decide +kernel, rfl, by decide +kernel, by decide +kernel⟩
-- 0 names, 1 .0, 2 name
def sp_chknX (K : PySem.W.Frag) (IC : Addr) : Sp := fun vs H Q E => ∃ a xs, vs = [.ref a] ∧ SqA K H a (xs.map V.str) ∧ xs.length ≤ 60 ∧ (∀ z ∈ xs, z.length ≤ 1000) ∧ (nmsB xs = true → ∀ H', Same H H' → Q .non H') ∧ (nmsB xs = false → X0 IC H E)
theorem d_chknX (T : Nm mg) (D : TD K mg "check_names" s_check_names) (d_is_name : Dn P w K mg base CX0 1 "is_name" sp_isnm) (x_InvalidCells : Xn P w K mg base 1 IC "InvalidCells" (sp_IC IC)) : Dn P w K mg base (L2.CX P w) 3 "check_names" (sp_chknX K IC) := by
  refine D.dx sc_check_names (fun _ _ _ _ _ _ us hl => match us, hl with | [_], _ => rfl) (fun vs H Q E h => ?_) (fun f cdv A outer s H vs Q E hr h => ?_)
  · obtain ⟨a, xs, rfl, _⟩ := h; rfl
  · obtain ⟨a, xs, rfl, ha, h6, hz, q, qx⟩ := h
    refine ⟨_, (pss_cons (ps_if (pt_not (pt_chain op_leA op_leA pe_int (pe_callB call_lenA (by rfl) T.n_len (by decide +kernel) (pa_cons (pv 0) pa_nil)) (C8.pe_gc (by rfl) T.c_MOST_CELLS))) (pss_one (ps_raise rfl (takes_of rfl rfl rfl rfl) (pmk_0 x_InvalidCells hr (by decide) (by rfl)))) pss_nil)
      (pss_cons (ps_if (pt_not (pt_val (pe_callB (cr_all rfl) (by rfl) T.n_all (by decide +kernel) (pa_cons (pe_lc (own := [(".0", 1), ("name", 2)]) (g := (gName 2)) (tt := tYes) rfl sc_check_names.nd (pi_any (pv 0)) (blkOk_by (N := sc_check_names_N) (sc := defScope s_check_names) (by decide +kernel)) (fun _ _ _ _ _ => pg_name (i := 2) sc_check_names.nd rfl (Or.inl rfl)) (fun _ _ _ _ _ => pts_nil) (fun _ _ _ _ _ => (pe_d d_is_name hr (by decide) pass0 (by rfl) (pa_cons (pv 2) pa_nil)))) pa_nil)))) (pss_one (ps_raise rfl (takes_of rfl rfl rfl rfl) (pmk_0 x_InvalidCells hr (by decide) (by rfl)))) pss_nil)
      (pss_one (ps_if (pt_cmpR op_ltA (pe_lenSetS rfl (by rfl) T.n_len (by rfl) T.n_set (pv 0)) (pe_callB call_lenA (by rfl) T.n_len (by decide +kernel) (pa_cons (pv 0) pa_nil)) (nomark _)) (pss_one (ps_raise rfl (takes_of rfl rfl rfl rfl) (pmk_0 x_InvalidCells hr (by decide) (by rfl)))) pss_nil)))), ?_⟩
    walk_at "rd"
    obtain ⟨k, ha⟩ := ha
    refine Kd.len ha ⟨_, rfl, ?_⟩
    rw [List.length_map]
    by_cases c1 : ¬ 1 ≤ xs.length
    · rw [if_neg (by omega), if_pos (by decide)]
      exact raise0 (qx (by unfold nmsB; rw [decide_eq_false c1]; rfl))
    have c1 := Decidable.not_not.mp c1
    rw [if_pos (by omega)]
    refine ⟨_, rfl, ?_⟩
    by_cases c2 : ¬ xs.length ≤ 3
    · rw [if_pos (by rw [decide_eq_false (by omega)]; rfl)]
      exact raise0 (qx (by unfold nmsB; rw [decide_eq_false c2, Bool.and_false, Bool.false_and, Bool.false_and]))
    have c2 := Decidable.not_not.mp c2
    rw [if_neg (by rw [decide_eq_true (by omega)]; decide)]
    refine ⟨k, ⟨_, ha⟩, fun D hD => LJ.it (walk_any (xs := xs.map V.str) k) (fun i H2 => H2 D = some (.lst (((xs.take i).map nmB).map V.bl)) ∧ Same H H2) ⟨upd_same, UL.Same.new hD⟩ (fun i H2 _ inv => Kd.same inv.2 ha) (fun i x H2 H3 hi inv yy => ?_) fun H2 inv => ?_⟩
    · obtain ⟨hD2, s2⟩ := inv
      obtain ⟨rfl, hx⟩ := yy
      refine ⟨rfl, ?_⟩
      walk_at "rd"
      rw [List.length_map] at hi
      have ex : x = V.str xs[i] := by rw [List.getElem?_map, List.getElem?_eq_getElem hi] at hx; exact (Option.some.inj hx).symm
      subst ex
      have et : xs.take (i + 1) = xs.take i ++ [xs[i]] := by rw [List.take_add_one, List.getElem?_eq_getElem hi]; rfl
      exact ⟨_, rfl, hz _ (List.getElem_mem hi), fun H4 s4 => ⟨_, s4 _ _ hD2, by simp [sizeLine_eq]; omega, by rw [upd_same, et, List.map_append, List.map_append]; rfl, UL.Same.put (Same.tr s2 s4) hD⟩⟩
    · obtain ⟨hD2, s2⟩ := inv
      rw [List.length_map, List.take_length] at hD2
      refine ⟨D, _, rfl, .inl (.inl hD2), _, rfl, ?_⟩
      have e3 : (xs.map nmB).all id = xs.all nmB := by rw [List.all_map]; rfl
      rw [e3]
      cases c3 : xs.all nmB with
      | false =>
        rw [if_pos (by decide)]
        exact raise0 ((qx (by unfold nmsB; rw [c3, Bool.and_false, Bool.false_and])).same s2)
      | true =>
      rw [if_neg (by decide)]
      refine ⟨xs, Kd.or (Kd.same s2 ha), by omega, Kd.len (Kd.same s2 ha) ⟨_, rfl, ?_⟩⟩
      rw [List.length_map]
      have ml := met_len xs
      by_cases c4 : (met xs).length = xs.length
      · rw [if_neg (by omega)]
        exact q (by unfold nmsB; rw [decide_eq_true c1, decide_eq_true c2, c3, decide_eq_true c4]; rfl) _ s2
      · rw [if_pos (by omega)]
        exact raise0 ((qx (by unfold nmsB; rw [decide_eq_false c4, Bool.and_false])).same s2)
end
end U
set_option Elab.async false
set_option linter.all false
set_option maxRecDepth 100000
set_option maxHeartbeats 4000000
set_option pp.deepTerms true
set_option pp.maxSteps 400000
namespace U
open PySem PySem.Spec PyProof.Rows L2 UL UX
local macro_rules | `(tactic| walk_at "rd") => `(tactic| simp only [sMatch, tJs, tFmt, tBC, tMethA, tMakeL, iEnumS, tSeq, tAsg, tOp, tCB, tCons, tNil, tVar, tC, tB, tTest, tNot, tIfS, tNext, tYes, tUn, rU, tM0, tGFrom, tGThen, tG0, tYfLst, gcxK, tSubO, tProp, tListG, tMethG, tBMF, tFld, sFld, tMeth, tMake, tSl, tNoPart, tPart, tM1, gTup, gCons, gNil, tDrop, tFor_eq, tLc_eq, tLc2_eq, iRng1_eq, StX.tStar, iList, iTup, iStr, iAny_var, iZipB, tLenSetS, wipe, tVar, tAndV, tOrV, tNotV, tOr, tAnd, tLst, tTup, tBM, tBM0, tChain, tCall, cxK, noxK, addII, addSS, mulII, eqII, neII, neSS, cIntI, cAbsI, rI, rI0, rLt, rLe, rGt_, rGe_, rSub_, rMod, rPow, rDivW, rNeg, gName, tRet, L2.start, List.length_cons, List.length_nil, List.map_cons, List.map_nil, List.replicate, List.cons_append, List.nil_append, List.getElem?_cons_zero, List.getElem?_cons_succ, List.set_cons_zero, List.set_cons_succ, Option.some.injEq, exists_eq_left', exists_eq_left, V.int.injEq, V.bl.injEq, V.str.injEq, V.ref.injEq, V.ty.injEq, List.cons.injEq, and_true, true_and, reduceCtorEq, false_and, exists_false, or_false, false_or, exists_and_left, exists_and_right, List.append_nil, forall_eq, decide_eq_true_eq, Bool.not_eq_true, Nat.reduceAdd, Nat.reduceSub, List.replicate_zero, List.replicate_succ, Nat.zero_le, ite_true, ite_false, if_true, if_false])
section
variable {P : Program} {w : World} {K : PySem.W.Frag} {mg : Str → Option Value} {base : Heap}
open UV UW NdefX ClX
variable {R Wr B Pg Sy IC UC IS UP : Addr}
local macro_rules | `(tactic| walk_at "rdx") => `(tactic| simp only [tCons, tNil, tJs, tC, tFmt, tFmtN, tVar, tOst, tSeq, NdefX.startF, L2.start, List.length_cons, List.length_nil, List.map_cons, List.map_nil, List.replicate, List.cons_append, List.nil_append, List.getElem?_cons_zero, List.getElem?_cons_succ, Option.some.injEq, exists_eq_left', exists_eq_left, V.str.injEq, V.int.injEq, V.ref.injEq, reduceCtorEq, false_and, exists_false, or_false, false_or, and_true, true_and, exists_and_left, exists_and_right, Nat.reduceAdd, Nat.reduceSub, Nat.reduceLeDiff, ncK])
abbrev s_IS : Stmt := inClass (top 6) 0
theorem sc_IS : NScope ["self", "name", "__class__"] ["self", "name"] ["__class__"] (defScope s_IS) := nscope_by (by decide +kernel)
def sp_IS : Addr → Sp := fun C vs H Q _ => ∃ (a : Addr) (x0 : Str), vs = [.ref a, .str x0] ∧ H a = some (exo a C none) ∧ PySem.W.findIn K (.ref C) "name" = some none ∧ x0.length ≤ 1000 ∧ x0.length ≤ 1000 ∧ ∀ d, H d = none → d ≠ a → Q .non (upd (upd H d (exd d [(("name" : Str), V.str x0)])) a (exo a C (some d)))
theorem x_IS {C : Addr} (D : XD P K mg C "InvalidSystem" "InvalidSystem.__init__" s_IS) : Xn P w K mg base 1 C "InvalidSystem" (sp_IS (K := K) C) := by
  obtain ⟨f, c, cc, oc, kV, doc, pm, ct, od, an, osl, lk, hcd, F, h1, h2⟩ := D.ex
  refine ⟨⟨f, _, ["self", "name"], fn_sup (N := ["self", "name", "__class__"]) (ps := ["name"]) (pl := _) lk hcd sc_IS D.ox F (by decide +kernel) (fun vs H Q E h => ?_) (fun A outer s H vs Q E hr h => ?_), h1, h2, Binds.all fun us hl => match us, hl with | [_, _], _ => rfl⟩, D.ox, D.gc⟩
  · obtain ⟨a, x0, rfl, _⟩ := h; rfl
  · obtain ⟨a, x0, rfl, ha, hf0, hc0, hd0, q⟩ := h
    refine ⟨a, _, _, rfl, ha, pa_cons (pe_joined (.cons (pe_fmt (pv 1)) (.cons pe_str .nil))) pa_nil, (pss_one (ps_ost (pv 0) (pv 1))), ?_⟩
    walk_at "rdx"
    have ll0 : (Str.ofString " does not fit into the system").length ≤ 200 := by decide +kernel
    have l0 : Str.empty.length = 0 := rfl
    repeat (first | refine ⟨by (simp only [len_app, l0, sizeLine_eq]; omega), ?_⟩)
    exact ⟨ha, C, D.ox, hf0, .inl ⟨ha, fun d hd hda => q d hd hda⟩⟩
abbrev s_UC : Stmt := inClass (top 4) 0
theorem sc_UC : NScope ["self", "cell", "__class__"] ["self", "cell"] ["__class__"] (defScope s_UC) := nscope_by (by decide +kernel)
def sp_UC : Addr → Sp := fun C vs H Q _ => ∃ (a : Addr) (x0 : Str), vs = [.ref a, .str x0] ∧ H a = some (exo a C none) ∧ PySem.W.findIn K (.ref C) "cell" = some none ∧ x0.length ≤ 1000 ∧ x0.length ≤ 1000 ∧ ∀ d, H d = none → d ≠ a → Q .non (upd (upd H d (exd d [(("cell" : Str), V.str x0)])) a (exo a C (some d)))
theorem x_UC {C : Addr} (D : XD P K mg C "UnknownCell" "UnknownCell.__init__" s_UC) : Xn P w K mg base 1 C "UnknownCell" (sp_UC (K := K) C) := by
  obtain ⟨f, c, cc, oc, kV, doc, pm, ct, od, an, osl, lk, hcd, F, h1, h2⟩ := D.ex
  refine ⟨⟨f, _, ["self", "cell"], fn_sup (N := ["self", "cell", "__class__"]) (ps := ["cell"]) (pl := _) lk hcd sc_UC D.ox F (by decide +kernel) (fun vs H Q E h => ?_) (fun A outer s H vs Q E hr h => ?_), h1, h2, Binds.all fun us hl => match us, hl with | [_, _], _ => rfl⟩, D.ox, D.gc⟩
  · obtain ⟨a, x0, rfl, _⟩ := h; rfl
  · obtain ⟨a, x0, rfl, ha, hf0, hc0, hd0, q⟩ := h
    refine ⟨a, _, _, rfl, ha, pa_cons (pe_joined (.cons pe_str (.cons (pe_fmt (pv 1)) .nil))) pa_nil, (pss_one (ps_ost (pv 0) (pv 1))), ?_⟩
    walk_at "rdx"
    have ll0 : (Str.ofString "there is no cell ").length ≤ 200 := by decide +kernel
    have l0 : Str.empty.length = 0 := rfl
    repeat (first | refine ⟨by (simp only [len_app, l0, sizeLine_eq]; omega), ?_⟩)
    exact ⟨ha, C, D.ox, hf0, .inl ⟨ha, fun d hd hda => q d hd hda⟩⟩
abbrev s_UP : Stmt := inClass (top 7) 0
theorem sc_UP : NScope ["self", "name", "__class__"] ["self", "name"] ["__class__"] (defScope s_UP) := nscope_by (by decide +kernel)
def sp_UP : Addr → Sp := fun C vs H Q _ => ∃ (a : Addr) (x0 : Str), vs = [.ref a, .str x0] ∧ H a = some (exo a C none) ∧ PySem.W.findIn K (.ref C) "name" = some none ∧ x0.length ≤ 1000 ∧ x0.length ≤ 1000 ∧ ∀ d, H d = none → d ≠ a → Q .non (upd (upd H d (exd d [(("name" : Str), V.str x0)])) a (exo a C (some d)))
theorem x_UP {C : Addr} (D : XD P K mg C "UnknownProgram" "UnknownProgram.__init__" s_UP) : Xn P w K mg base 1 C "UnknownProgram" (sp_UP (K := K) C) := by
  obtain ⟨f, c, cc, oc, kV, doc, pm, ct, od, an, osl, lk, hcd, F, h1, h2⟩ := D.ex
  refine ⟨⟨f, _, ["self", "name"], fn_sup (N := ["self", "name", "__class__"]) (ps := ["name"]) (pl := _) lk hcd sc_UP D.ox F (by decide +kernel) (fun vs H Q E h => ?_) (fun A outer s H vs Q E hr h => ?_), h1, h2, Binds.all fun us hl => match us, hl with | [_, _], _ => rfl⟩, D.ox, D.gc⟩
  · obtain ⟨a, x0, rfl, _⟩ := h; rfl
  · obtain ⟨a, x0, rfl, ha, hf0, hc0, hd0, q⟩ := h
    refine ⟨a, _, _, rfl, ha, pa_cons (pe_joined (.cons pe_str (.cons (pe_fmt (pv 1)) .nil))) pa_nil, (pss_one (ps_ost (pv 0) (pv 1))), ?_⟩
    walk_at "rdx"
    have ll0 : (Str.ofString "there is no program ").length ≤ 200 := by decide +kernel
    have l0 : Str.empty.length = 0 := rfl
    repeat (first | refine ⟨by (simp only [len_app, l0, sizeLine_eq]; omega), ?_⟩)
    exact ⟨ha, C, D.ox, hf0, .inl ⟨ha, fun d hd hda => q d hd hda⟩⟩
/-- a list or a tuple of the heap -/
def SqW (H : Hp) (a : Addr) (xs : List V) : Prop := Rd H a (.lst xs) ∨ Rd H a (.tup xs)
theorem SqW.sqA {H : Hp} {a : Addr} {xs : List V} (h : SqW H a xs) : SqA K H a xs := h.elim (fun h => ⟨.l, .inl h⟩) fun h => ⟨.t, .inl h⟩
theorem rd_same {H H' : Hp} {a : Addr} {o : HO} (h : Rd H a o) (s : Same H H') : Rd H' a o := h.elim (fun e => .inl (s _ _ e)) fun ⟨ob, e⟩ => .inr ⟨ob, s _ _ e⟩
theorem SqW.same {H H' : Hp} {a : Addr} {xs : List V} (h : SqW H a xs) (s : Same H H') : SqW H' a xs := h.elim (fun h => .inl (rd_same h s)) fun h => .inr (rd_same h s)
theorem SqW.off {H H' : Hp} {a : Addr} {xs : List V} (h : SqW H a xs) (f : ∀ o, H a = some o → H' a = some o) : SqW H' a xs := by
  rcases h with (h | ⟨o, h⟩) | (h | ⟨o, h⟩)
  · exact .inl (.inl (f _ h))
  · exact .inl (.inr ⟨o, f _ h⟩)
  · exact .inr (.inl (f _ h))
  · exact .inr (.inr ⟨o, f _ h⟩)
theorem SqW.some {H : Hp} {a : Addr} {xs : List V} (h : SqW H a xs) : ∃ o, H a = some o ∧ (∀ C d fs, o ≠ .ins C d fs) ∧ ∀ kvs, o ≠ .dK kvs := by
  rcases h with (h | ⟨o, h⟩) | (h | ⟨o, h⟩) <;> exact ⟨_, h, fun _ _ _ z => (nomatch z), fun _ z => nomatch z⟩
theorem Kd.off (k : Kd) {H H' : Hp} {a : Addr} {xs : List V} (h : k.Sq K H a xs) (f : ∀ o, H a = some o → H' a = some o) : k.Sq K H' a xs := by
  cases k with
  | l =>
    rcases h with (h | ⟨o, h⟩) | h
    · exact .inl (.inl (f _ h))
    · exact .inl (.inr ⟨o, f _ h⟩)
    · exact .inr h
  | t =>
    rcases h with (h | ⟨o, h⟩) | h
    · exact .inl (.inl (f _ h))
    · exact .inl (.inr ⟨o, f _ h⟩)
    · exact .inr h
theorem cTupG_any {a : Addr} {xs : List V} {H : Hp} {Q : VK} (h : SqW H a xs) (q : ∀ t H', Rd H' t (.tup xs) → Same H H' → Q (.ref t) H') : cTupG K [.ref a] H Q := by
  rcases h with h | h
  · exact ⟨a, xs, rfl, .inl ⟨.inl h, fun l o hl _ _ => q l _ (.inr ⟨o, upd_same⟩) (UL.Same.new hl)⟩⟩
  · exact ⟨a, xs, rfl, .inr ⟨.inl h, q a H h fun _ _ z => z⟩⟩
/-- an exception with one field, at a later heap -/
def X1 (C : Addr) (f : Str) (v : V) (H : Hp) (E : XK) : Prop := ∀ d H', Same H H' → H' d = some (.xd [(f, v)]) → E (.ref C) (some d) H'
theorem X1.same {C : Addr} {f : Str} {v : V} {H H' : Hp} {E : XK} (h : X1 C f v H E) (s : Same H H') : X1 C f v H' E := fun d H2 s2 e => h d H2 (Same.tr s s2) e
theorem raiseIS {z : Str} {H : Hp} {E : XK} {σ : L2.St} {ta : TA} (x : PySem.W.findIn K (.ref IS) "name" = some none) (hz : z.length ≤ 1000) (hta : ∀ R : List V → Hp → Prop, R [.str z] H → ta σ H R) (h : X1 IS "name" (.str z) H E) : tMkO IS (sp_IS (K := K) IS) [] ta σ H (fun cls d H' => E cls d H') := by
  refine hta _ ⟨by show 1 ≤ 1000; decide, fun e1 he1 => ?_⟩
  refine ⟨e1, z, rfl, upd_same, x, hz, hz, fun d1 hd1 hde1 => ⟨rfl, d1, _, upd_same, by rw [upd_ne hde1, upd_same], by rw [upd_ne hde1] at hd1; exact hd1, ?_⟩⟩
  rw [exg1 he1]
  rw [upd_ne hde1] at hd1
  exact h d1 _ (UL.Same.new hd1) upd_same
theorem raiseUC {z : Str} {H : Hp} {E : XK} {σ : L2.St} {ta : TA} (x : PySem.W.findIn K (.ref UC) "cell" = some none) (hz : z.length ≤ 1000) (hta : ∀ R : List V → Hp → Prop, R [.str z] H → ta σ H R) (h : X1 UC "cell" (.str z) H E) : tMkO UC (sp_UC (K := K) UC) [] ta σ H (fun cls d H' => E cls d H') := by
  refine hta _ ⟨by show 1 ≤ 1000; decide, fun e1 he1 => ?_⟩
  refine ⟨e1, z, rfl, upd_same, x, hz, hz, fun d1 hd1 hde1 => ⟨rfl, d1, _, upd_same, by rw [upd_ne hde1, upd_same], by rw [upd_ne hde1] at hd1; exact hd1, ?_⟩⟩
  rw [exg1 he1]
  rw [upd_ne hde1] at hd1
  exact h d1 _ (UL.Same.new hd1) upd_same
theorem raiseUP {z : Str} {H : Hp} {E : XK} {σ : L2.St} {ta : TA} (x : PySem.W.findIn K (.ref UP) "name" = some none) (hz : z.length ≤ 1000) (hta : ∀ R : List V → Hp → Prop, R [.str z] H → ta σ H R) (h : X1 UP "name" (.str z) H E) : tMkO UP (sp_UP (K := K) UP) [] ta σ H (fun cls d H' => E cls d H') := by
  refine hta _ ⟨by show 1 ≤ 1000; decide, fun e1 he1 => ?_⟩
  refine ⟨e1, z, rfl, upd_same, x, hz, hz, fun d1 hd1 hde1 => ⟨rfl, d1, _, upd_same, by rw [upd_ne hde1, upd_same], by rw [upd_ne hde1] at hd1; exact hd1, ?_⟩⟩
  rw [exg1 he1]
  rw [upd_ne hde1] at hd1
  exact h d1 _ (UL.Same.new hd1) upd_same
end
end U
set_option Elab.async false
set_option linter.all false
set_option maxRecDepth 100000
set_option maxHeartbeats 4000000
/-! all but some addresses -/
namespace UX
open PySem PySem.Spec PyProof.Rows L2 UL UV UW ClX
def SmS (S : List Addr) (H H' : Hp) : Prop := ∀ c o, H c = some o → c ∉ S → H' c = some o
theorem SmS.same {S : List Addr} {H H' : Hp} (s : ∀ b u, H b = some u → H' b = some u) : SmS S H H' := fun c o e _ => s c o e
theorem SmS.tr {S : List Addr} {H H1 H2 : Hp} (a : SmS S H H1) (b : SmS S H1 H2) : SmS S H H2 := fun c o e n => b c o (a c o e n) n
theorem SmS.at_ {S : List Addr} {p : Addr} {H : Hp} {o : HO} (h : p ∈ S) : SmS S H (upd H p o) := fun c u e n => by rw [upd_ne fun z => n (by rw [z]; exact h)]; exact e
theorem SmS.refl {S : List Addr} {H : Hp} : SmS S H H := fun c o e _ => e
end UX
set_option Elab.async false
set_option linter.all false
set_option maxRecDepth 100000
set_option maxHeartbeats 4000000
set_option pp.deepTerms true
set_option pp.maxSteps 400000
namespace U
open PySem PySem.Spec PyProof.Rows L2 UL UX
local macro_rules | `(tactic| walk_at "rd") => `(tactic| simp only [sMatch, tJs, tFmt, tBC, tMethA, tMakeL, iEnumS, tSeq, tAsg, tOp, tCB, tCons, tNil, tVar, tC, tB, tTest, tNot, tIfS, tNext, tYes, tUn, rU, tM0, tGFrom, tGThen, tG0, tYfLst, gcxK, tSubO, tProp, tListG, tMethG, tBMF, tFld, sFld, tMeth, tMake, tSl, tNoPart, tPart, tM1, gTup, gCons, gNil, tDrop, tFor_eq, tLc_eq, tLc2_eq, iRng1_eq, StX.tStar, iList, iTup, iStr, iAny_var, iZipB, tLenSetS, wipe, tVar, tAndV, tOrV, tNotV, tOr, tAnd, tLst, tTup, tBM, tBM0, tChain, tCall, cxK, noxK, addII, addSS, mulII, eqII, neII, neSS, cIntI, cAbsI, rI, rI0, rLt, rLe, rGt_, rGe_, rSub_, rMod, rPow, rDivW, rNeg, gName, tRet, L2.start, List.length_cons, List.length_nil, List.map_cons, List.map_nil, List.replicate, List.cons_append, List.nil_append, List.getElem?_cons_zero, List.getElem?_cons_succ, List.set_cons_zero, List.set_cons_succ, Option.some.injEq, exists_eq_left', exists_eq_left, V.int.injEq, V.bl.injEq, V.str.injEq, V.ref.injEq, V.ty.injEq, List.cons.injEq, and_true, true_and, reduceCtorEq, false_and, exists_false, or_false, false_or, exists_and_left, exists_and_right, List.append_nil, forall_eq, decide_eq_true_eq, Bool.not_eq_true, Nat.reduceAdd, Nat.reduceSub, List.replicate_zero, List.replicate_succ, Nat.zero_le, ite_true, ite_false, if_true, if_false])
section
variable {P : Program} {w : World} {K : PySem.W.Frag} {mg : Str → Option Value} {base : Heap}
open UV UW NdefX ClX
variable {R Wr B Pg Sy IC UC IS UP : Addr}
local macro_rules | `(tactic| walk_at "rq") => `(tactic| (simp only [tDGet, tDIn, tDNotIn, sDPut, LiI.tListItems, tTest, tB]; walk_at "rd"))
structure SyX (K : PySem.W.Frag) (mg : Str → Option Value) (R Wr B Pg Sy IS UC UP : Addr) : Prop extends PT K mg R Wr B Pg where
  cls : Cls K Sy
  s_cells : NoAttr K Sy "cells"
  s_programs : NoAttr K Sy "_programs"
  s_arities : NoAttr K Sy "_arities"
  s_names : NoAttr K Sy "names"
  c_MOST_PROGRAMS : ∃ u, mg "MOST_PROGRAMS" = some u ∧ RelV (.int 4) u
  naIS : PySem.W.findIn K (.ref IS) "name" = some none
  naUC : PySem.W.findIn K (.ref UC) "cell" = some none
  naUP : PySem.W.findIn K (.ref UP) "name" = some none
inductive Er where
  | cell (c : Str)
  | sys (n : Str)
/-- the exception of a system that is refused, at a heap that is the same but at S -/
def XE (IS UC : Addr) (S : List Addr) (H : Hp) (E : XK) : Er → Prop
  | .cell c => ∀ d H', SmS S H H' → H' d = some (.xd [("cell", .str c)]) → E (.ref UC) (some d) H'
  | .sys n => ∀ d H', SmS S H H' → H' d = some (.xd [("name", .str n)]) → E (.ref IS) (some d) H'
theorem XE.sm {S : List Addr} {H H' : Hp} {E : XK} {e : Er} (h : XE IS UC S H E e) (s : SmS S H H') : XE IS UC S H' E e := match e, h with
  | .cell _, h => fun d H2 s2 x => h d H2 (SmS.tr s s2) x
  | .sys _, h => fun d H2 s2 x => h d H2 (SmS.tr s s2) x
theorem XE.x1s {S : List Addr} {H : Hp} {E : XK} {n : Str} (h : XE IS UC S H E (.sys n)) : X1 IS "name" (.str n) H E := fun d H' s e => h d H' (SmS.same s) e
theorem XE.x1c {S : List Addr} {H : Hp} {E : XK} {n : Str} (h : XE IS UC S H E (.cell n)) : X1 UC "cell" (.str n) H E := fun d H' s e => h d H' (SmS.same s) e
def valA {α : Type} (xs : List (Str × α)) (f : Str) : Option α := (xs.find? fun q => decide (q.1 = f)).map (·.2)
def pk (ps : List (Str × Addr)) : List (Key × V) := ps.map fun q => (Sum.inr q.1, V.ref q.2)
def ak (as : List (Str × Nat)) : List (Key × V) := as.map fun q => (Sum.inr q.1, V.int q.2)
def takeF (as : List (Str × Nat)) (f : Str) (n : Nat) : Except Er (List (Str × Nat)) := match valA as f with
  | none => .ok (as ++ [(f, n)])
  | some m => if m = n then .ok as else .error (.sys f)
theorem valV_ak (as : List (Str × Nat)) (f : Str) : valV (ak as) (Sum.inr f) = (valA as f).map fun n => V.int (n : Nat) := by
  induction as with
  | nil => rfl
  | cons q r ih =>
    by_cases e : q.1 = f
    · show valV ((Sum.inr q.1, V.int q.2) :: ak r) (Sum.inr f) = _
      rw [valV_pos (show (Sum.inr q.1 : Key) = Sum.inr f by rw [e])]
      simp [valA, List.find?_cons, e]
    · show valV ((Sum.inr q.1, V.int q.2) :: ak r) (Sum.inr f) = _
      rw [valV_neg (show ¬ (Sum.inr q.1 : Key) = Sum.inr f from fun h => e (Sum.inr.inj h)), ih]
      simp [valA, List.find?_cons, e]
theorem valV_pk (as : List (Str × Addr)) (f : Str) : valV (pk as) (Sum.inr f) = (valA as f).map fun n => V.ref n := by
  induction as with
  | nil => rfl
  | cons q r ih =>
    by_cases e : q.1 = f
    · show valV ((Sum.inr q.1, V.ref q.2) :: pk r) (Sum.inr f) = _
      rw [valV_pos (show (Sum.inr q.1 : Key) = Sum.inr f by rw [e])]
      simp [valA, List.find?_cons, e]
    · show valV ((Sum.inr q.1, V.ref q.2) :: pk r) (Sum.inr f) = _
      rw [valV_neg (show ¬ (Sum.inr q.1 : Key) = Sum.inr f from fun h => e (Sum.inr.inj h)), ih]
      simp [valA, List.find?_cons, e]
theorem putK_new {α : Type} [DecidableEq α] {kvs : List (α × V)} {k : α} {v : V} (h : valV kvs k = none) : putK kvs k v = kvs ++ [(k, v)] := by
  unfold putK
  rw [if_neg (by rw [valV_any, h]; decide)]
abbrev sysM : List Str := ["_take_program", "_take_step", "_take_function", "program_named", "functions", "known", "check_programs"]
/-- the parts of a system that its methods read and write -/
structure Yo (H : Hp) (Sy y : Addr) (cs : List Str) (pd ad : Addr) (ps : List (Str × Addr)) (as : List (Str × Nat)) : Prop where
  ex : ∃ (dy c : Addr) (fs : List (Str × V)), H y = some (.ins Sy dy fs) ∧ fs.lookup ("cells" : Str) = some (.ref c) ∧ Rd H c (.tup (cs.map V.str)) ∧ fs.lookup ("_programs" : Str) = some (.ref pd) ∧ fs.lookup ("_arities" : Str) = some (.ref ad) ∧ ∀ m ∈ sysM, fs.lookup m = none
  hp : H pd = some (.dK (pk ps))
  ha : H ad = some (.dK (ak as))
  ne : pd ≠ ad
theorem Yo.same {H H' : Hp} {y : Addr} {cs : List Str} {pd ad : Addr} {ps : List (Str × Addr)} {as : List (Str × Nat)} (h : Yo H Sy y cs pd ad ps as) (s : Same H H') : Yo H' Sy y cs pd ad ps as := by
  obtain ⟨⟨dy, c, fs, h1, h2, h3, h4, h5, h9⟩, h6, h7, h8⟩ := h
  exact ⟨⟨dy, c, fs, s _ _ h1, h2, rd_same h3 s, h4, h5, h9⟩, s _ _ h6, s _ _ h7, h8⟩
theorem Yo.put {H : Hp} {y : Addr} {cs : List Str} {pd ad : Addr} {ps : List (Str × Addr)} {as as' : List (Str × Nat)} (h : Yo H Sy y cs pd ad ps as) : Yo (upd H ad (.dK (ak as'))) Sy y cs pd ad ps as' := by
  obtain ⟨⟨dy, c, fs, h1, h2, h3, h4, h5, h9⟩, h6, h7, h8⟩ := h
  refine ⟨⟨dy, c, fs, by rw [upd_ne fun e => by rw [e, h7] at h1; cases h1]; exact h1, h2, ?_, h4, h5, h9⟩, by rw [upd_ne h8]; exact h6, upd_same, h8⟩
  rcases h3 with e | ⟨o, e⟩
  · exact .inl (by rw [upd_ne fun z => by rw [z, h7] at e; cases e]; exact e)
  · exact .inr ⟨o, by rw [upd_ne fun z => by rw [z, h7] at e; cases e]; exact e⟩
abbrev s_System__take_function : Stmt := inClass (top 42) 3
abbrev sc_System__take_function_N : List Str := ["self", "function", "number"]
theorem sc_System__take_function : FnScope sc_System__take_function_N ["self", "function", "number"] (defScope s_System__take_function) := ⟨rfl, rfl, rfl, by decide +kernel, rfl, by decide +kernel, by decide +kernel⟩
-- 0 self, 1 function, 2 number
def sp_takeF (Sy IS UC : Addr) : Sp := fun vs H Q E => ∃ (y pd ad : Addr) (f : Str) (n : Nat) (cs : List Str) (ps : List (Str × Addr)) (as : List (Str × Nat)), vs = [.ref y, .str f, .int n] ∧ Yo H Sy y cs pd ad ps as ∧ f.length ≤ 1000 ∧ as.length ≤ 100 ∧
  (∀ as' H', takeF as f n = .ok as' → Yo H' Sy y cs pd ad ps as' → SmS [ad] H H' → Q .non H') ∧ (∀ e, takeF as f n = .error e → XE IS UC [pd, ad] H E e)
theorem m_takeF (T : SyX K mg R Wr B Pg Sy IS UC UP) (D : MD K Sy "_take_function" "System._take_function" s_System__take_function) (x_InvalidSystem : Xn P w K mg base 1 IS "InvalidSystem" (sp_IS (K := K) IS)) : Mn P w K mg base (L2.CX P w) 3 Sy "_take_function" (sp_takeF Sy IS UC) := by
  refine D.mx sc_System__take_function (fun _ _ _ _ _ _ us hl => match us, hl with | [_, _, _], _ => rfl) (fun vs H Q E h => ?_) (fun f cdv A outer s H vs Q E hr h => ?_)
  · obtain ⟨y, pd, ad, f, n, cs, ps, as, rfl, _⟩ := h; rfl
  · obtain ⟨y, pd, ad, f, n, cs, ps, as, rfl, hy, hf, hn, q, qx⟩ := h
    refine ⟨_, (pss_one (ps_if (pt_cmpR (op_neA (hr.units)) (pe_bm PySem.F.plainAttrs_dict PySem.F.slot_dict_setdefault PySem.F.type_dict_setdefault mt_setd (pe_fld (pv 0) (by rfl)) (pa_cons (pv 1) (pa_cons (pv 2) pa_nil))) (pv 2) (nomark _)) (pss_one (ps_raise rfl (takes_of rfl rfl rfl rfl) (pmk_x x_InvalidSystem hr (by decide) (by rfl) (pa_cons (pv 1) pa_nil)))) pss_nil)), ?_⟩
    walk_at "rd"
    obtain ⟨⟨dy, c, fs, h1, h2, h3, h4, h5, h9⟩, h6, h7, h8⟩ := id hy
    have la : (ak as).length = as.length := List.length_map _
    refine ⟨Sy, dy, fs, h1, T.cls, T.s_arities, .ref ad, h5, .inr (.inr (.inl ⟨rfl, .inl ⟨_, h7⟩⟩)), ad, ak as, Sum.inr f, .int n, rfl, rfl, h7, by rw [la, sizeLine_eq]; omega, fun u hu => ?_, fun hn0 => ?_⟩
    · rw [valV_ak] at hu
      cases hv : valA as f with
      | none => rw [hv] at hu; cases hu
      | some m =>
        rw [hv] at hu
        cases hu
        refine neII.mpr ⟨_, rfl, ?_⟩
        by_cases e : m = n
        · rw [if_neg (by simp [e])]
          exact q as H (by unfold takeF; rw [hv]; exact if_pos e) hy SmS.refl
        · rw [if_pos (by simp; omega)]
          exact raiseIS T.naIS hf (fun R r => ⟨_, rfl, r⟩) (XE.x1s (qx (.sys f) (by unfold takeF; rw [hv]; exact if_neg e)))
    · have hv : valA as f = none := by
        rw [valV_ak] at hn0
        cases hv : valA as f with
        | none => rfl
        | some m => rw [hv] at hn0; cases hn0
      refine neII.mpr ⟨_, rfl, ?_⟩
      rw [if_neg (by simp), putK_new hn0]
      have e : ak as ++ [(Sum.inr f, V.int (n : Nat))] = ak (as ++ [(f, n)]) := by unfold ak; rw [List.map_append]; rfl
      rw [e]
      exact q _ _ (by unfold takeF; rw [hv]) hy.put (SmS.at_ List.mem_cons_self)
/-- the function that a step applies, and its arguments -/
def Sk.fn : Sk → Option (Str × List Str)
  | .rd .. => none
  | .wr _ f xs | .rw _ _ _ f xs => some (f, xs)
def takeS (cs : List Str) (as : List (Str × Nat)) (k : Sk) : Except Er (List (Str × Nat)) := match (k.src ++ k.tgt).find? fun c => decide (c ∉ cs) with
  | some c => .error (.cell c)
  | none => match k.fn with
    | none => .ok as
    | some (f, xs) => takeF as f xs.length
theorem flatS (xs : List Str) : (xs.map V.str).all flatV = true := by
  rw [List.all_eq_true]; intro x hx; obtain ⟨z, _, rfl⟩ := List.mem_map.mp hx; rfl
theorem small_io {k : Sk} (h : k.small) : ∀ c ∈ k.src ++ k.tgt, c.length ≤ 1000 := by
  cases k with
  | rd s l => intro c hc; simp only [Sk.src, Sk.tgt, List.append_nil, List.mem_singleton] at hc; rw [hc]; exact h.1
  | wr t f xs => intro c hc; simp only [Sk.src, Sk.tgt, List.nil_append, List.mem_singleton] at hc; rw [hc]; exact h.1
  | rw s l t f xs =>
    intro c hc
    simp only [Sk.src, Sk.tgt, List.mem_append, List.mem_singleton] at hc
    rcases hc with rfl | rfl
    · exact h.1.1
    · exact h.2.1
theorem io_len (k : Sk) : k.src.length ≤ 1 ∧ k.tgt.length ≤ 1 := by cases k <;> exact ⟨by simp [Sk.src], by simp [Sk.tgt]⟩
theorem find_at {l : List Str} {p : Str → Bool} {i : Nat} {c : Str} (h : l[i]? = some c) (hp : p c = true) (hb : ∀ d ∈ l.take i, p d = false) : l.find? p = some c := by
  have hi : i < l.length := (List.getElem?_eq_some_iff.mp h).1
  have e : l = l.take i ++ c :: l.drop (i + 1) := by
    have e2 : l.drop i = c :: l.drop (i + 1) := by
      rw [List.drop_eq_getElem_cons hi]
      rw [List.getElem?_eq_getElem hi] at h
      rw [Option.some.inj h]
    rw [← e2, List.take_append_drop]
  rw [e, List.find?_append, List.find?_eq_none.mpr (fun d hd => by simp [hb d hd])]
  simp [List.find?_cons, hp]
abbrev s_System__take_step : Stmt := inClass (top 42) 2
abbrev sc_System__take_step_N : List Str := ["self", "step", "cell"]
theorem sc_System__take_step : FnScope sc_System__take_step_N ["self", "step"] (defScope s_System__take_step) := ⟨rfl, rfl, rfl, by decide +kernel, rfl, by decide +kernel, by decide +kernel⟩
-- 0 self, 1 step, 2 cell
def sp_takeS (R Wr B Sy IS UC : Addr) : Sp := fun vs H Q E => ∃ (y pd ad t : Addr) (k : Sk) (cs : List Str) (ps : List (Str × Addr)) (as : List (Str × Nat)), vs = [.ref y, .ref t] ∧ Yo H Sy y cs pd ad ps as ∧ StA H R Wr B t k ∧ k.small ∧ cs.length ≤ 100 ∧ as.length ≤ 100 ∧
  (∀ as' H', takeS cs as k = .ok as' → Yo H' Sy y cs pd ad ps as' → SmS [pd, ad] H H' → Q .non H') ∧ (∀ e, takeS cs as k = .error e → XE IS UC [pd, ad] H E e)
theorem m_takeS (ap : Ap R Wr B) (T : SyX K mg R Wr B Pg Sy IS UC UP) (D : MD K Sy "_take_step" "System._take_step" s_System__take_step) (x_UnknownCell : Xn P w K mg base 1 UC "UnknownCell" (sp_UC (K := K) UC)) (A_reads : ∀ C s, Fam R Wr B (sp_reads R Wr B) C s → Mn P w K mg base CX0 1 C "reads" s ∧ Cls K C) (A_writes : ∀ C s, Fam R Wr B (sp_writes R Wr B) C s → Mn P w K mg base CX0 1 C "writes" s ∧ Cls K C)
    (m__take_function : Mn P w K mg base (L2.CX P w) 3 Sy "_take_function" (sp_takeF Sy IS UC)) : Mn P w K mg base (L2.CX P w) 5 Sy "_take_step" (sp_takeS R Wr B Sy IS UC) := by
  refine D.mx sc_System__take_step (fun _ _ _ _ _ _ us hl => match us, hl with | [_, _], _ => rfl) (fun vs H Q E h => ?_) (fun f cdv A outer s H vs Q E hr h => ?_)
  · obtain ⟨y, pd, ad, t, k, cs, ps, as, rfl, _⟩ := h; rfl
  · obtain ⟨y, pd, ad, t, k, cs, ps, as, rfl, hy, ht, hk, hc, hn, q, qx⟩ := h
    refine ⟨_, (pss_cons (ps_for (passes_of rfl) rfl (pi_tup (pe_op op_addA (pe_mA (i := 1) A_reads hr (by decide) (pv 1)) (pe_mA (i := 1) A_writes hr (by decide) (pv 1)))) (pg_name (i := 2) sc_System__take_step.nd rfl (Or.inl rfl)) (pss_one (ps_if (pt_cmpR op_ninA (pv 2) (pe_fld (pv 0) (by rfl)) (by with_unfolding_all rfl)) (pss_one (ps_raise rfl (takes_of rfl rfl rfl rfl) (pmk_x x_UnknownCell hr (by decide) (by rfl) (pa_cons (pv 2) pa_nil)))) pss_nil)))
      (pss_one (ps_if (pt_val (pe_callB call_isi (by rfl) T.n_isinstance (by decide +kernel) (pa_cons (pv 1) (pa_cons (C8.pe_gc (by rfl) T.c_Write) pa_nil)))) (pss_one (ps_expr (pe_m m__take_function T.cls hr (by decide) (passes_call (takes_of rfl rfl rfl rfl) (fun _ _ _ _ h => h)) (pv 0) (pa_cons (pe_fld (pv 1) (by rfl)) (pa_cons (pe_callB call_lenA (by rfl) T.n_len (by decide +kernel) (pa_cons (pe_fld (pv 1) (by rfl)) pa_nil)) pa_nil))))) pss_nil))), ?_⟩
    walk_at "rd"
    obtain ⟨⟨dy, cc, fs, h1, h2, h3, h4, h5, h9⟩, h6, h7, h8⟩ := id hy
    obtain ⟨dx1, fs1, e1, lk1, lk2, lk3⟩ := StA.ins ht
    obtain ⟨il, ol⟩ := io_len k
    refine ⟨k.cls R Wr B, _, ⟨Sk.cls3 k, rfl⟩, dx1, fs1, e1, lk2, t, k, rfl, rfl, ht, fun r1 H1 hr1 s1 => ⟨k.cls R Wr B, _, ⟨Sk.cls3 k, rfl⟩, dx1, fs1, s1 _ _ e1, lk3, t, k, rfl, rfl, StA.same s1 ht, fun r2 H2 hr2 s2 => ?_⟩⟩
    have hr1 := s2 _ _ hr1
    have s12 : Same H H2 := Same.tr s1 s2
    have fin : ∀ (σ : L2.St) (H3 : Hp) (z : Option V), Same H H3 → (k.src ++ k.tgt).find? (fun c => decide (c ∉ cs)) = none → (tIfS (tB (tCB (rIsi K) (tCons (tVar 1) (tCons (tC (V.ref Wr)) tNil)))) (tDrop (tMeth Sy (Str.ofString "_take_function") (sp_takeF Sy IS UC) [] E (tVar 0) (tCons (tFld K (tVar 1) (Str.ofString "function")) (tCons (tCB (cLen K) (tCons (tFld K (tVar 1) (Str.ofString "arguments")) tNil)) tNil)))) tNext) { nx := fun x H' => Q V.non H', rt := Q } [some (V.ref y), some (V.ref t), z] H3 := fun σ H3 z s3 hf => by
      have hy3 := hy.same s3
      obtain ⟨⟨dy, cc, fs, h1, h2, h3, h4, h5, h9⟩, h6, h7, h8⟩ := id hy3
      walk_at "rd"
      cases k with
      | rd a l =>
        obtain ⟨dx, e⟩ := StA.same s3 ht
        refine ⟨_, _, _, _, _, rfl, .own Wr, T.iR.ty T.cR e, T.kRW, ⟨false, rfl, ?_⟩⟩
        rw [if_neg (by decide)]
        exact q as H3 (by unfold takeS; rw [hf]; rfl) hy3 (SmS.same s3)
      | wr t0 f0 xs =>
        obtain ⟨dx, p, e, ft⟩ := StA.same s3 ht
        refine ⟨_, _, _, _, _, rfl, .own Wr, T.iW.ty T.cW e, T.kWW, ⟨true, rfl, ?_⟩⟩
        rw [if_pos rfl]
        refine ⟨dy, fs, h1, h9 _ (by decide +kernel), Wr, dx, _, e, T.cW, T.aW_function, .str f0, rfl, Wr, dx, _, e, T.cW, T.aW_arguments, .ref p, rfl, lenT (FT.sq ft) ⟨y, pd, ad, f0, xs.length, cs, ps, as, by rw [List.length_map], hy3, hk.2.1, hn, fun as' H' ht' hy' s' => q as' H' (by unfold takeS; rw [hf]; exact ht') hy' (SmS.tr (SmS.same s3) fun c o e n => s' c o e fun z => n (by rw [List.mem_singleton.mp z]; simp)), fun er he => (qx er (by unfold takeS; rw [hf]; exact he)).sm (SmS.same s3)⟩⟩
      | rw a l t0 f0 xs =>
        obtain ⟨dx, p, e, ft⟩ := StA.same s3 ht
        refine ⟨_, _, _, _, _, rfl, .own Wr, T.iB.ty T.cB e, T.kBW, ⟨true, rfl, ?_⟩⟩
        rw [if_pos rfl]
        refine ⟨dy, fs, h1, h9 _ (by decide +kernel), B, dx, _, e, T.cB, T.aB_function, .str f0, rfl, B, dx, _, e, T.cB, T.aB_arguments, .ref p, rfl, lenT (FT.sq ft) ⟨y, pd, ad, f0, xs.length, cs, ps, as, by rw [List.length_map], hy3, hk.2.2.1, hn, fun as' H' ht' hy' s' => q as' H' (by unfold takeS; rw [hf]; exact ht') hy' (SmS.tr (SmS.same s3) fun c o e n => s' c o e fun z => n (by rw [List.mem_singleton.mp z]; simp)), fun er he => (qx er (by unfold takeS; rw [hf]; exact he)).sm (SmS.same s3)⟩⟩
    have lop : ∀ (a : Addr) (H3 : Hp), SqT K H3 a ((k.src ++ k.tgt).map V.str) → Same H H3 → ∃ a', V.ref a = V.ref a' ∧ (∃ xs, SqT K H3 a' xs) ∧ FJ (Itt K a') (gName 2) (tIfS (tTest (tOp (rNInA K) (tVar 2) (tFld K (tVar 0) (Str.ofString "cells")))) (fun x σ H => tMkO UC (sp_UC (K := K) UC) [] (tCons (tVar 2) tNil) σ H fun cls d H' => E cls d H') tNext) { nx := tIfS (tB (tCB (rIsi K) (tCons (tVar 1) (tCons (tC (V.ref Wr)) tNil)))) (tDrop (tMeth Sy (Str.ofString "_take_function") (sp_takeF Sy IS UC) [] E (tVar 0) (tCons (tFld K (tVar 1) (Str.ofString "function")) (tCons (tCB (cLen K) (tCons (tFld K (tVar 1) (Str.ofString "arguments")) tNil)) tNil)))) tNext { nx := fun x H' => Q V.non H', rt := Q }, rt := Q } [some (V.ref y), some (V.ref t), none] H3 := fun a H3 ha s3 => by
      refine ⟨a, rfl, ⟨_, ha⟩, FJ.tup (fun i σ' H' => (∃ z, σ' = [some (.ref y), some (.ref t), z]) ∧ H' = H3 ∧ ∀ d ∈ (k.src ++ k.tgt).take i, d ∈ cs) ⟨⟨_, rfl⟩, rfl, fun d hd => absurd hd (by simp)⟩ (fun i σ' H' _ inv => by rw [inv.2.1]; exact ha) (fun i x σ' H' hx inv => ?_) fun σ' H' inv => ?_⟩
      · obtain ⟨⟨z, rfl⟩, rfl, hin⟩ := inv
        walk_at "rd"
        rw [List.getElem?_map] at hx
        cases hc0 : (k.src ++ k.tgt)[i]? with
        | none => rw [hc0] at hx; cases hx
        | some c0 =>
          rw [hc0] at hx
          cases hx
          have hm : c0 ∈ k.src ++ k.tgt := List.mem_of_getElem? hc0
          obtain ⟨⟨dy, cc, fs, h1, h2, h3, h4, h5, h9⟩, h6, h7, h8⟩ := hy.same s3
          refine ⟨Sy, dy, fs, h1, T.cls, T.s_cells, .ref cc, h2, .inr ⟨cc, cs.map V.str, rfl, .inr (.inl h3), rfl, flatS cs, ?_⟩⟩
          rw [if_pos rfl, inV_str]
          refine ⟨_, rfl, ?_⟩
          by_cases e : c0 ∈ cs
          · rw [if_neg (by simp [e])]
            refine ⟨⟨_, rfl⟩, rfl, fun d hd => ?_⟩
            rw [List.take_add_one, hc0] at hd
            rcases List.mem_append.mp hd with h | h
            · exact hin d h
            · rw [show d = c0 by simpa using h]; exact e
          · rw [if_pos (by simp [e])]
            refine raiseUC T.naUC (small_io hk _ hm) (fun R r => ⟨_, rfl, r⟩) (XE.x1c ((qx (.cell c0) ?_).sm (SmS.same s3)))
            unfold takeS
            rw [find_at hc0 (by simp [e]) (fun d hd => by simp [hin d hd])]
      · obtain ⟨⟨z, rfl⟩, rfl, hin⟩ := inv
        rw [List.length_map, List.take_length] at hin
        exact fin [] _ z s3 (List.find?_eq_none.mpr fun d hd => by simp [hin d hd])
    refine .inr (.inr (.inl ⟨r1, r2, k.src.map V.str, k.tgt.map V.str, rfl, rfl, .inl (.inl hr1), .inl (.inl hr2), by rw [List.length_map, List.length_map, sizeLine_eq]; omega, fun e => ?_, fun e e2 => ?_, fun e e2 p hp => ?_⟩))
    · exact lop r2 H2 (by rw [List.map_append, e]; exact .inl (.inl hr2)) s12
    · exact lop r1 H2 (by rw [List.map_append, e2, List.append_nil]; exact .inl (.inl hr1)) s12
    · exact lop p _ (by rw [List.map_append]; exact .inl (.inl upd_same)) (Same.tr s12 (UL.Same.new hp))
def takeSs (cs : List Str) : List (Str × Nat) → List Sk → Except Er (List (Str × Nat))
  | as, [] => .ok as
  | as, k :: r => match takeS cs as k with
    | .error e => .error e
    | .ok as' => takeSs cs as' r
theorem takeSs_app (cs : List Str) : ∀ (xs ys : List Sk) (as : List (Str × Nat)), takeSs cs as (xs ++ ys) = match takeSs cs as xs with
    | .error e => .error e
    | .ok as' => takeSs cs as' ys
  | [], _, _ => rfl
  | k :: r, ys, as => by
    show (match takeS cs as k with | .error e => Except.error e | .ok as' => takeSs cs as' (r ++ ys)) = match (match takeS cs as k with | .error e => Except.error e | .ok as' => takeSs cs as' r) with | .error e => Except.error e | .ok as' => takeSs cs as' ys
    cases takeS cs as k with
    | error e => rfl
    | ok a => exact takeSs_app cs r ys a
theorem takeF_len {as as' : List (Str × Nat)} {f : Str} {n : Nat} (h : takeF as f n = .ok as') : as'.length ≤ as.length + 1 := by
  unfold takeF at h
  cases hv : valA as f with
  | none => rw [hv] at h; cases h; rw [List.length_append]; exact Nat.le_refl _
  | some m =>
    rw [hv] at h
    by_cases e : m = n
    · simp only [if_pos e] at h; cases h; omega
    · simp only [if_neg e] at h; cases h
theorem takeS_len {cs : List Str} {as as' : List (Str × Nat)} {k : Sk} (h : takeS cs as k = .ok as') : as'.length ≤ as.length + 1 := by
  unfold takeS at h
  cases hf : (k.src ++ k.tgt).find? fun c => decide (c ∉ cs) with
  | some c => rw [hf] at h; cases h
  | none =>
    rw [hf] at h
    cases hk : k.fn with
    | none => rw [hk] at h; cases h; omega
    | some q => rw [hk] at h; exact takeF_len h
/-- the program at a -/
def PgA (H : Hp) (R Wr B Pg a : Addr) (n : Str) (ks : List Sk) : Prop := ∃ (dx p : Addr) (ts : List Addr), H a = some (.ins Pg dx (fsP n p)) ∧ FT H p (ts.map V.ref) ∧ Paired (fun t k => StA H R Wr B t k) ts ks
theorem StA.sms {S : List Addr} {H H' : Hp} {a : Addr} {k : Sk} (h : StA H R Wr B a k) (s : SmS S H H') (hs : ∀ c ∈ S, ∃ kvs, H c = some (.dK kvs)) : StA H' R Wr B a k := by
  have off : ∀ c o, H c = some o → (∀ kvs, o ≠ .dK kvs) → H' c = some o := fun c o e n => s c o e fun z => by
    obtain ⟨kvs, e2⟩ := hs c z
    rw [e] at e2
    exact n kvs (Option.some.inj e2)
  cases k with
  | rd s l => obtain ⟨dx, e⟩ := h; exact ⟨dx, off _ _ e (fun _ z => nomatch z)⟩
  | wr t f xs => obtain ⟨dx, p, e, o, e2, d⟩ := h; exact ⟨dx, p, off _ _ e (fun _ z => nomatch z), o, off _ _ e2 (fun _ z => nomatch z), d⟩
  | rw s l t f xs => obtain ⟨dx, p, e, o, e2, d⟩ := h; exact ⟨dx, p, off _ _ e (fun _ z => nomatch z), o, off _ _ e2 (fun _ z => nomatch z), d⟩
theorem PgA.sms {S : List Addr} {H H' : Hp} {a : Addr} {n : Str} {ks : List Sk} (h : PgA H R Wr B Pg a n ks) (s : SmS S H H') (hs : ∀ c ∈ S, ∃ kvs, H c = some (.dK kvs)) : PgA H' R Wr B Pg a n ks := by
  have off : ∀ c o, H c = some o → (∀ kvs, o ≠ .dK kvs) → H' c = some o := fun c o e n => s c o e fun z => by
    obtain ⟨kvs, e2⟩ := hs c z
    rw [e] at e2
    exact n kvs (Option.some.inj e2)
  obtain ⟨dx, p, ts, e, ⟨o, e2, d⟩, pr⟩ := h
  exact ⟨dx, p, ts, off _ _ e (fun _ z => nomatch z), ⟨o, off _ _ e2 (fun _ z => nomatch z), d⟩, L2.Paired.mapP pr fun _ _ g => StA.sms g s hs⟩
def takeP (cs : List Str) (ps : List (Str × Addr)) (as : List (Str × Nat)) (n : Str) (ks : List Sk) : Except Er (List (Str × Nat)) := if ps.length = 4 ∨ (valA ps n).isSome = true then .error (.sys n) else takeSs cs as ks
theorem Yo.dks {H : Hp} {y : Addr} {cs : List Str} {pd ad : Addr} {ps : List (Str × Addr)} {as : List (Str × Nat)} (h : Yo H Sy y cs pd ad ps as) : ∀ c ∈ [pd, ad], ∃ kvs, H c = some (.dK kvs) := fun c hc => by
  simp only [List.mem_cons, List.not_mem_nil, or_false] at hc
  rcases hc with rfl | rfl
  · exact ⟨_, h.hp⟩
  · exact ⟨_, h.ha⟩
theorem Yo.putp {H : Hp} {y : Addr} {cs : List Str} {pd ad : Addr} {ps ps' : List (Str × Addr)} {as : List (Str × Nat)} (h : Yo H Sy y cs pd ad ps as) : Yo (upd H pd (.dK (pk ps'))) Sy y cs pd ad ps' as := by
  obtain ⟨⟨dy, c, fs, h1, h2, h3, h4, h5, h9⟩, h6, h7, h8⟩ := h
  refine ⟨⟨dy, c, fs, by rw [upd_ne fun e => by rw [e, h6] at h1; cases h1]; exact h1, h2, ?_, h4, h5, h9⟩, upd_same, by rw [upd_ne (Ne.symm h8)]; exact h7, h8⟩
  rcases h3 with e | ⟨o, e⟩
  · exact .inl (by rw [upd_ne fun z => by rw [z, h6] at e; cases e]; exact e)
  · exact .inr ⟨o, by rw [upd_ne fun z => by rw [z, h6] at e; cases e]; exact e⟩
theorem paired_len {α β : Type} {F : α → β → Prop} : ∀ {l : List α} {m : List β}, Paired F l m → l.length = m.length
  | [], [], _ => rfl
  | _ :: _, _ :: _, .cons _ r => congrArg (· + 1) (paired_len r)
abbrev s_System__take_program : Stmt := inClass (top 42) 1
abbrev sc_System__take_program_N : List Str := ["self", "program", "step"]
theorem sc_System__take_program : FnScope sc_System__take_program_N ["self", "program"] (defScope s_System__take_program) := ⟨rfl, rfl, rfl, by decide +kernel, rfl, by decide +kernel, by decide +kernel⟩
-- 0 self, 1 program, 2 step
def sp_takeP (R Wr B Pg Sy IS UC : Addr) : Sp := fun vs H Q E => ∃ (y pd ad a : Addr) (n : Str) (ks : List Sk) (cs : List Str) (ps : List (Str × Addr)) (as : List (Str × Nat)), vs = [.ref y, .ref a] ∧ Yo H Sy y cs pd ad ps as ∧ PgA H R Wr B Pg a n ks ∧ (∀ k ∈ ks, k.small) ∧ ks.length ≤ 8 ∧ n.length ≤ 1000 ∧ cs.length ≤ 100 ∧ as.length ≤ 64 ∧ ps.length ≤ 4 ∧
  (∀ as' H', takeP cs ps as n ks = .ok as' → Yo H' Sy y cs pd ad (ps ++ [(n, a)]) as' → as'.length ≤ as.length + ks.length → SmS [pd, ad] H H' → Q .non H') ∧ (∀ e, takeP cs ps as n ks = .error e → XE IS UC [pd, ad] H E e)
theorem m_takeP (T : SyX K mg R Wr B Pg Sy IS UC UP) (D : MD K Sy "_take_program" "System._take_program" s_System__take_program) (x_InvalidSystem : Xn P w K mg base 1 IS "InvalidSystem" (sp_IS (K := K) IS)) (m__take_step : Mn P w K mg base (L2.CX P w) 5 Sy "_take_step" (sp_takeS R Wr B Sy IS UC)) :
    Mn P w K mg base (L2.CX P w) 7 Sy "_take_program" (sp_takeP R Wr B Pg Sy IS UC) := by
  refine D.mx sc_System__take_program (fun _ _ _ _ _ _ us hl => match us, hl with | [_, _], _ => rfl) (fun vs H Q E h => ?_) (fun f cdv A outer s H vs Q E hr h => ?_)
  · obtain ⟨y, pd, ad, a, n, ks, cs, ps, as, rfl, _⟩ := h; rfl
  · obtain ⟨y, pd, ad, a, n, ks, cs, ps, as, rfl, hy, hg, hk, hkl, hn, hc, hal, hpl, q, qx⟩ := h
    refine ⟨_, (pss_cons (ps_if (pw_or (pt_cmpR (op_eqA (hr.units)) (pe_callB call_lenF (by rfl) T.n_len (by decide +kernel) (pa_cons (pe_fld (pv 0) (by rfl)) pa_nil)) (C8.pe_gc (by rfl) T.c_MOST_PROGRAMS) (nomark _)) (pw_or1 (pt_cmp (pc_din (un1 hr.units) (pe_fld (pv 1) (by rfl)) (pe_fld (pv 0) (by rfl))) (by with_unfolding_all rfl)))).pt (pss_one (ps_raise rfl (takes_of rfl rfl rfl rfl) (pmk_x x_InvalidSystem hr (by decide) (by rfl) (pa_cons (pe_fld (pv 1) (by rfl)) pa_nil)))) pss_nil)
      (pss_cons (ps_for (passes_of rfl) rfl (pi_tup (pe_fld (pv 1) (by rfl))) (pg_name (i := 2) sc_System__take_program.nd rfl (Or.inl rfl)) (pss_one (ps_expr (pe_m m__take_step T.cls hr (by decide) (passes_call (takes_of rfl rfl rfl rfl) (fun _ _ _ _ h => h)) (pv 0) (pa_cons (pv 2) pa_nil)))))
      (pss_one (ps_dput (un1 hr.units) (pe_fld (pv 0) (by rfl)) (pe_fld (pv 1) (by rfl)) (pv 1) rfl)))), ?_⟩
    walk_at "rd"
    obtain ⟨⟨dy, cc, fs, h1, h2, h3, h4, h5, h9⟩, h6, h7, h8⟩ := id hy
    obtain ⟨dx, p, ts, e1, ft, pr⟩ := id hg
    have lp : (pk ps).length = ps.length := List.length_map _
    have rais : takeP cs ps as n ks = .error (.sys n) → tMkO IS (sp_IS (K := K) IS) [] (tCons (tFld K (tVar 1) (Str.ofString "name")) tNil) [some (V.ref y), some (V.ref a), none] H fun cls d H' => E cls d H' := fun e => raiseIS T.naIS hn (fun R r => by
      walk_at "rd"
      exact ⟨Pg, dx, _, e1, T.cP, T.aP_name, .str n, rfl, r⟩) (XE.x1s (qx _ e))
    refine ⟨Sy, dy, fs, h1, T.cls, T.s_programs, .ref pd, h4, pd, pk ps, rfl, .inl h6, eqII.mpr ⟨_, rfl, ?_⟩⟩
    rw [lp]
    by_cases c1 : ps.length = 4
    · rw [if_pos (by simp [c1])]
      exact rais (by unfold takeP; rw [if_pos (.inl c1)])
    rw [if_neg (by simp; omega)]
    unfold tDIn
    walk_at "rd"
    refine ⟨Pg, dx, _, e1, T.cP, T.aP_name, .str n, rfl, Sy, dy, fs, h1, T.cls, T.s_programs, .ref pd, h4, pd, rfl, _, DGet.k (k := Sum.inr n) h6, ?_⟩
    rw [valV_pk]
    cases hv : valA ps n with
    | some m =>
      rw [if_pos (by simp)]
      exact rais (by unfold takeP; rw [if_pos (.inr (by rw [hv]; rfl))])
    | none =>
      rw [if_neg (by simp)]
      have tk : takeP cs ps as n ks = takeSs cs as ks := by unfold takeP; rw [if_neg (by rw [hv]; simp [c1])]
      obtain ⟨ob, ep, eo⟩ := id ft
      have pn : p ∉ [pd, ad] := fun z => by
        obtain ⟨kvs, e⟩ := hy.dks p z
        rw [ep] at e; cases e
      have lt : ts.length = ks.length := paired_len pr
      refine ⟨Pg, dx, _, e1, T.cP, T.aP_steps, .ref p, rfl, p, rfl, ⟨_, FT.sq ft⟩, FJ.tup (fun i σ' H' => (∃ z, σ' = [some (.ref y), some (.ref a), z]) ∧ SmS [pd, ad] H H' ∧ ∃ asi, takeSs cs as (ks.take i) = .ok asi ∧ Yo H' Sy y cs pd ad ps asi ∧ asi.length ≤ as.length + i) ⟨⟨_, rfl⟩, SmS.refl, as, rfl, hy, by omega⟩ (fun i σ' H' _ inv => FT.sq ⟨ob, inv.2.1 _ _ ep pn, eo⟩) (fun i x σ' H' hx inv => ?_) fun σ' H' inv => ?_⟩
      · obtain ⟨⟨z, rfl⟩, s, asi, hasi, hyi, hli⟩ := inv
        rw [List.getElem?_map] at hx
        cases ht : ts[i]? with
        | none => rw [ht] at hx; cases hx
        | some t =>
          rw [ht] at hx
          cases hx
          obtain ⟨k, hki, gk⟩ := pr_at pr ht
          have hil : i < ks.length := (List.getElem?_eq_some_iff.mp hki).1
          walk_at "rd"
          obtain ⟨⟨dy', cc', fs', g1, g2, g3, g4, g5, g9⟩, g6, g7, g8⟩ := id hyi
          refine ⟨dy', fs', g1, g9 _ (by decide +kernel), y, pd, ad, t, k, cs, ps, asi, rfl, hyi, gk.sms s hy.dks, hk k (List.mem_of_getElem? hki), hc, by omega, fun as' H'' ht' hy'' s'' => ⟨⟨_, rfl⟩, SmS.tr s s'', as', ?_, hy'', ?_⟩, fun e he => XE.sm (qx e ?_) s⟩
          · rw [List.take_add_one, hki, takeSs_app, hasi]
            show takeSs cs asi [k] = _
            show (match takeS cs asi k with | .error e => Except.error e | .ok as' => takeSs cs as' []) = _
            rw [ht']
            rfl
          · have := takeS_len ht'; omega
          · rw [tk]
            have e2 : ks = ks.take i ++ k :: ks.drop (i + 1) := by
              have e3 : ks.drop i = k :: ks.drop (i + 1) := by
                rw [List.drop_eq_getElem_cons hil]
                rw [List.getElem?_eq_getElem hil] at hki
                rw [Option.some.inj hki]
              rw [← e3, List.take_append_drop]
            rw [e2, takeSs_app, hasi]
            show (match takeS cs asi k with | .error e => Except.error e | .ok as' => takeSs cs as' (ks.drop (i + 1))) = _
            rw [he]
      · obtain ⟨⟨z, rfl⟩, s, asi, hasi, hyi, hli⟩ := inv
        rw [List.length_map, lt] at hasi hli
        rw [List.take_length] at hasi
        unfold sDPut
        walk_at "rd"
        obtain ⟨⟨dy', cc', fs', g1, g2, g3, g4, g5, g9⟩, g6, g7, g8⟩ := id hyi
        have an : a ∉ [pd, ad] := fun z => by
          obtain ⟨kvs, e⟩ := hy.dks a z
          rw [e1] at e; cases e
        refine ⟨Sy, dy', fs', g1, T.cls, T.s_programs, .ref pd, g4, Pg, dx, _, s _ _ e1 an, T.cP, T.aP_name, .str n, rfl, pd, rfl, _, DPut.k (k := Sum.inr n) (v := .ref a) g6 (by rw [lp, sizeLine_eq]; omega), ?_⟩
        rw [putK_new (by rw [valV_pk, hv]; rfl)]
        have e : pk ps ++ [(Sum.inr n, V.ref a)] = pk (ps ++ [(n, a)]) := by unfold pk; rw [List.map_append]; rfl
        rw [e]
        exact q asi _ (by rw [tk]; exact hasi) hyi.putp hli (SmS.tr s (SmS.at_ List.mem_cons_self))
/-! ### the system -/
abbrev QsT := List (Addr × Str × List Sk)
def takePs (cs : List Str) : List (Str × Addr) → List (Str × Nat) → QsT → Except Er (List (Str × Addr) × List (Str × Nat))
  | ps, as, [] => .ok (ps, as)
  | ps, as, q :: r => match takeP cs ps as q.2.1 q.2.2 with
    | .error e => .error e
    | .ok as' => takePs cs (ps ++ [(q.2.1, q.1)]) as' r
theorem takePs_app (cs : List Str) : ∀ (xs ys : QsT) (ps : List (Str × Addr)) (as : List (Str × Nat)), takePs cs ps as (xs ++ ys) = match takePs cs ps as xs with
    | .error e => .error e
    | .ok (ps', as') => takePs cs ps' as' ys
  | [], _, _, _ => rfl
  | q :: r, ys, ps, as => by
    show (match takeP cs ps as q.2.1 q.2.2 with | .error e => Except.error e | .ok as' => takePs cs (ps ++ [(q.2.1, q.1)]) as' (r ++ ys)) = match (match takeP cs ps as q.2.1 q.2.2 with | .error e => Except.error e | .ok as' => takePs cs (ps ++ [(q.2.1, q.1)]) as' r) with | .error e => Except.error e | .ok (ps', as') => takePs cs ps' as' ys
    cases takeP cs ps as q.2.1 q.2.2 with
    | error e => rfl
    | ok a => exact takePs_app cs r ys _ a
theorem takeP_lt {cs : List Str} {ps : List (Str × Addr)} {as as' : List (Str × Nat)} {n : Str} {ks : List Sk} (h : takeP cs ps as n ks = .ok as') (hp : ps.length ≤ 4) : ps.length < 4 := by
  unfold takeP at h
  by_cases c : ps.length = 4 ∨ (valA ps n).isSome = true
  · rw [if_pos c] at h; cases h
  · have : ps.length ≠ 4 := fun e => c (.inl e)
    omega
theorem StA.keep {H H' : Hp} {a : Addr} {k : Sk} (h : StA H R Wr B a k) (off : ∀ c o, H c = some o → (∀ C d, o ≠ .ins C d []) → H' c = some o) : StA H' R Wr B a k := by
  cases k with
  | rd s l => obtain ⟨dx, e⟩ := h; exact ⟨dx, off _ _ e (fun _ _ z => by injection z with _ _ h; cases h)⟩
  | wr t f xs => obtain ⟨dx, p, e, o, e2, d⟩ := h; exact ⟨dx, p, off _ _ e (fun _ _ z => by injection z with _ _ h; cases h), o, off _ _ e2 (fun _ _ z => nomatch z), d⟩
  | rw s l t f xs => obtain ⟨dx, p, e, o, e2, d⟩ := h; exact ⟨dx, p, off _ _ e (fun _ _ z => by injection z with _ _ h; cases h), o, off _ _ e2 (fun _ _ z => nomatch z), d⟩
theorem PgA.keep {H H' : Hp} {a : Addr} {n : Str} {ks : List Sk} (h : PgA H R Wr B Pg a n ks) (off : ∀ c o, H c = some o → (∀ C d, o ≠ .ins C d []) → H' c = some o) : PgA H' R Wr B Pg a n ks := by
  obtain ⟨dx, p, ts, e, ⟨o, e2, d⟩, pr⟩ := h
  exact ⟨dx, p, ts, off _ _ e (fun _ _ z => by injection z with _ _ h; cases h), ⟨o, off _ _ e2 (fun _ _ z => nomatch z), d⟩, L2.Paired.mapP pr fun _ _ g => StA.keep g off⟩
theorem rd_insS {H : Hp} {x b C dx : Addr} {f0 : List (Str × V)} {o : HO} {ys : List V} (hx : H x = some (.ins C dx f0)) (h : Rd H b (.tup ys)) : Rd (upd H x o) b (.tup ys) := by
  rcases h with e | ⟨ob, e⟩
  · exact .inl (by rw [upd_ne (fun q => by rw [q, hx] at e; cases e)]; exact e)
  · exact .inr ⟨ob, by rw [upd_ne (fun q => by rw [q, hx] at e; cases e)]; exact e⟩
theorem sy1 : ("cells" : Str) ≠ "_programs" := by decide +kernel
theorem sy2 : ("cells" : Str) ≠ "_arities" := by decide +kernel
theorem sy3 : ("_programs" : Str) ≠ "_arities" := by decide +kernel
theorem sy4 : ("cells" : Str) ≠ "names" := by decide +kernel
theorem sy5 : ("_programs" : Str) ≠ "names" := by decide +kernel
theorem sy6 : ("_arities" : Str) ≠ "names" := by decide +kernel
theorem XE.off {S S2 : List Addr} {H H2 : Hp} {E : XK} {e : Er} (h : XE IS UC S H E e) (s : ∀ H3, SmS S2 H2 H3 → SmS S H H3) : XE IS UC S2 H2 E e := match e, h with
  | .cell _, h => fun d H3 s3 z => h d H3 (s H3 s3) z
  | .sys _, h => fun d H3 s3 z => h d H3 (s H3 s3) z
abbrev s_System___init__ : Stmt := inClass (top 42) 0
abbrev sc_System___init___N : List Str := ["self", "cells", "programs", "program"]
theorem sc_System___init__ : FnScope sc_System___init___N ["self", "cells", "programs"] (defScope s_System___init__) := ⟨rfl, rfl, rfl, by decide +kernel, rfl, by decide +kernel, by decide +kernel⟩
-- 0 self, 1 cells, 2 programs, 3 program
def fsS (c p a n : Addr) : List (Str × V) := [("cells", .ref c), ("_programs", .ref p), ("_arities", .ref a), ("names", .ref n)]
def fsS3 (c p a : Addr) : List (Str × V) := [("cells", .ref c), ("_programs", .ref p), ("_arities", .ref a)]
theorem fs3_no {c p a : Addr} : ∀ m ∈ sysM, (fsS3 c p a).lookup m = none := fun m hm => by
  simp only [sysM, List.mem_cons, List.not_mem_nil, or_false] at hm
  rcases hm with rfl | rfl | rfl | rfl | rfl | rfl | rfl <;> rfl
def sp_sinit (K : PySem.W.Frag) (R Wr B Pg Sy IC IS UC : Addr) : Sp := fun vs H Q E => ∃ (x n b dx : Addr) (cs : List Str) (qs : QsT), vs = [.ref x, .ref n, .ref b] ∧ H x = some (.ins Sy dx []) ∧ SqW H n (cs.map V.str) ∧ SqW H b (qs.map fun q => V.ref q.1) ∧ cs.length ≤ 60 ∧ (∀ z ∈ cs, z.length ≤ 1000) ∧ qs.length ≤ 8 ∧
  (∀ q ∈ qs, PgA H R Wr B Pg q.1 q.2.1 q.2.2 ∧ (∀ k ∈ q.2.2, k.small) ∧ q.2.2.length ≤ 8 ∧ q.2.1.length ≤ 1000) ∧
  (nmsB cs = false → X0 IC H E) ∧ (nmsB cs = true → (∀ e, takePs cs [] [] qs = .error e → XE IS UC [x] H E e) ∧
    ∀ ps as, takePs cs [] [] qs = .ok (ps, as) → ∀ H' c p a nn, H' x = some (.ins Sy dx (fsS c p a nn)) → Rd H' c (.tup (cs.map V.str)) → (Rd H n (.lst (cs.map V.str)) → FT H' c (cs.map V.str)) → H' p = some (.dK (pk ps)) → H' a = some (.dK (ak as)) → FT H' nn (ps.map fun q => V.str q.1) → p ≠ a → But x H H' → Q .non H')
theorem cTupG_any2 {a : Addr} {xs : List V} {H : Hp} {Q : VK} (h : SqW H a xs) (q : ∀ t H', Rd H' t (.tup xs) → (Rd H a (.lst xs) → FT H' t xs) → Same H H' → Q (.ref t) H') : cTupG K [.ref a] H Q := by
  rcases h with h | h
  · exact ⟨a, xs, rfl, .inl ⟨.inl h, fun l o hl d s => q l _ (.inr ⟨o, upd_same⟩) (fun _ => ⟨o, upd_same, d, s⟩) (UL.Same.new hl)⟩⟩
  · refine ⟨a, xs, rfl, .inr ⟨.inl h, q a H h (fun h2 => ?_) fun _ _ z => z⟩⟩
    rcases h with h | ⟨o, h⟩ <;> rcases h2 with h2 | ⟨o2, h2⟩ <;>
    · rw [h] at h2; cases h2
theorem m_sinit (T : SyX K mg R Wr B Pg Sy IS UC UP) (D : MD K Sy "__init__" "System.__init__" s_System___init__) (d_check_names : Dn P w K mg base (L2.CX P w) 3 "check_names" (sp_chknX K IC)) (m__take_program : Mn P w K mg base (L2.CX P w) 7 Sy "_take_program" (sp_takeP R Wr B Pg Sy IS UC)) :
    Mn P w K mg base (L2.CX P w) 9 Sy "__init__" (sp_sinit K R Wr B Pg Sy IC IS UC) := by
  refine D.mx sc_System___init__ (fun _ _ _ _ _ _ us hl => match us, hl with | [_, _, _], _ => rfl) (fun vs H Q E h => ?_) (fun f cdv A outer s H vs Q E hr h => ?_)
  · obtain ⟨x, n, b, dx, cs, qs, rfl, _⟩ := h; rfl
  · obtain ⟨x, n, b, dx, cs, qs, rfl, hx, hnn, hb, h6, hz, hql, hqs, qx, q⟩ := h
    refine ⟨_, (pss_cons (ps_expr (pe_d d_check_names hr (by decide) (passes_call (takes_of rfl rfl rfl rfl) (fun _ _ _ _ h => h)) (by rfl) (pa_cons (pv 1) pa_nil)))
      (pss_cons (ps_fld (pv 0) (pe_callTy call_tupG (by rfl) T.n_tuple (by decide +kernel) (pa_cons (pv 1) pa_nil)) rfl)
      (pss_cons (ps_fld (pv 0) pe_dnewK rfl)
      (pss_cons (ps_fld (pv 0) pe_dnewK rfl)
      (pss_cons (ps_for (passes_of rfl) rfl (pi_any (pv 2)) (pg_name (i := 3) sc_System___init__.nd rfl (Or.inl rfl)) (pss_one (ps_expr (pe_m m__take_program T.cls hr (by decide) (passes_call (takes_of rfl rfl rfl rfl) (fun _ _ _ _ h => h)) (pv 0) (pa_cons (pv 3) pa_nil)))))
      (pss_one (ps_fld (pv 0) (pe_callTy (call_tupD rfl) (by rfl) T.n_tuple (by decide +kernel) (pa_cons (pe_fld (pv 0) (by rfl)) pa_nil)) rfl))))))), ?_⟩
    walk_at "rd"
    refine ⟨n, cs, rfl, hnn.sqA, h6, hz, fun hb2 H1 sm1 => cTupG_any2 (hnn.same sm1) fun t H2 ht hft s2 => ?_, fun hb2 => qx hb2⟩
    obtain ⟨qe, qk⟩ := q hb2
    have s02 : Same H H2 := Same.tr sm1 s2
    have hx2 := s02 _ _ hx
    refine ⟨Sy, dx, [], hx2, T.cls, T.s_cells, by decide, fun p hp => ?_⟩
    have e1 : putF "cells" (V.ref t) [] = [(("cells" : Str), V.ref t)] := rfl
    rw [e1] at hp ⊢
    have xp : x ≠ p := ne_of_none upd_same hp
    have hpH : H p = none := by
      have h2 : H2 p = none := by rw [upd_ne (Ne.symm xp)] at hp; exact hp
      cases e : H p with
      | none => rfl
      | some o => rw [s02 _ _ e] at h2; cases h2
    have hx3 : (upd (upd H2 x (.ins Sy dx [(("cells" : Str), V.ref t)])) p (.dK [])) x = some (.ins Sy dx [(("cells" : Str), V.ref t)]) := by rw [upd_ne xp]; exact upd_same
    have ht3 : Rd (upd (upd H2 x (.ins Sy dx [(("cells" : Str), V.ref t)])) p (.dK [])) t (.tup (cs.map V.str)) := rd_same (rd_insS hx2 ht) (UL.Same.new hp)
    have hp3 : (upd (upd H2 x (.ins Sy dx [(("cells" : Str), V.ref t)])) p (.dK [])) p = some (.dK []) := upd_same
    have b3 : But x H (upd (upd H2 x (.ins Sy dx [(("cells" : Str), V.ref t)])) p (.dK [])) := fun c u e nc => UL.Same.new hp _ _ (by rw [upd_ne nc]; exact s02 _ _ e)
    have c3 : But x H2 (upd (upd H2 x (.ins Sy dx [(("cells" : Str), V.ref t)])) p (.dK [])) := fun c u e nc => UL.Same.new hp _ _ (by rw [upd_ne nc]; exact e)
    generalize upd (upd H2 x (.ins Sy dx [(("cells" : Str), V.ref t)])) p (.dK []) = H3 at hx3 ht3 hp3 b3 c3 ⊢
    refine ⟨Sy, dx, _, hx3, T.cls, T.s_programs, by show 1 < 1000; decide, fun a ha => ?_⟩
    have e2 : putF "_programs" (V.ref p) [(("cells" : Str), V.ref t)] = [(("cells" : Str), V.ref t), (("_programs" : Str), V.ref p)] := by simp [putF, sy1]
    rw [e2] at ha ⊢
    have xa : x ≠ a := ne_of_none upd_same ha
    have ha3 : H3 a = none := by rw [upd_ne (Ne.symm xa)] at ha; exact ha
    have haH : H a = none := by
      cases e : H a with
      | none => rfl
      | some o => rw [b3 _ _ e (Ne.symm xa)] at ha3; cases ha3
    have pa : p ≠ a := fun e => by rw [← e, hp3] at ha3; cases ha3
    have hx4 : (upd (upd H3 x (.ins Sy dx [(("cells" : Str), V.ref t), (("_programs" : Str), V.ref p)])) a (.dK [])) x = some (.ins Sy dx [(("cells" : Str), V.ref t), (("_programs" : Str), V.ref p)]) := by rw [upd_ne xa]; exact upd_same
    have ht4 : Rd (upd (upd H3 x (.ins Sy dx [(("cells" : Str), V.ref t), (("_programs" : Str), V.ref p)])) a (.dK [])) t (.tup (cs.map V.str)) := rd_same (rd_insS hx3 ht3) (UL.Same.new ha)
    have hp4 : (upd (upd H3 x (.ins Sy dx [(("cells" : Str), V.ref t), (("_programs" : Str), V.ref p)])) a (.dK [])) p = some (.dK []) := UL.Same.new ha _ _ (by rw [upd_ne (Ne.symm xp)]; exact hp3)
    have ha4 : (upd (upd H3 x (.ins Sy dx [(("cells" : Str), V.ref t), (("_programs" : Str), V.ref p)])) a (.dK [])) a = some (.dK []) := upd_same
    have b4 : But x H (upd (upd H3 x (.ins Sy dx [(("cells" : Str), V.ref t), (("_programs" : Str), V.ref p)])) a (.dK [])) := fun c u e nc => UL.Same.new ha _ _ (by rw [upd_ne nc]; exact b3 c u e nc)
    have c4 : But x H2 (upd (upd H3 x (.ins Sy dx [(("cells" : Str), V.ref t), (("_programs" : Str), V.ref p)])) a (.dK [])) := fun c u e nc => UL.Same.new ha _ _ (by rw [upd_ne nc]; exact c3 c u e nc)
    generalize upd (upd H3 x (.ins Sy dx [(("cells" : Str), V.ref t), (("_programs" : Str), V.ref p)])) a (.dK []) = H4 at hx4 ht4 hp4 ha4 b4 c4 ⊢
    have e3 : putF "_arities" (V.ref a) [(("cells" : Str), V.ref t), (("_programs" : Str), V.ref p)] = fsS3 t p a := by simp [putF, sy2, sy3, fsS3]
    obtain ⟨ob, hob, obi, obd⟩ := hb.some
    have xb : b ≠ x := fun e => by rw [e, hx] at hob; exact obi _ _ _ (Option.some.inj hob).symm
    have hx5 : (upd H4 x (.ins Sy dx (fsS3 t p a))) x = some (.ins Sy dx (fsS3 t p a)) := upd_same
    have hp5 : (upd H4 x (.ins Sy dx (fsS3 t p a))) p = some (.dK []) := by rw [upd_ne (Ne.symm xp)]; exact hp4
    have ha5 : (upd H4 x (.ins Sy dx (fsS3 t p a))) a = some (.dK []) := by rw [upd_ne (Ne.symm xa)]; exact ha4
    have ht5 := rd_insS (o := .ins Sy dx (fsS3 t p a)) hx4 ht4
    have b5 : But x H (upd H4 x (.ins Sy dx (fsS3 t p a))) := fun c u e nc => by rw [upd_ne nc]; exact b4 c u e nc
    have c5 : But x H2 (upd H4 x (.ins Sy dx (fsS3 t p a))) := fun c u e nc => by rw [upd_ne nc]; exact c4 c u e nc
    have hb5 : SqW _ b _ := hb.off fun o e => b5 _ _ e xb
    refine ⟨Sy, dx, _, hx4, T.cls, T.s_arities, by show 2 < 1000; decide, ?_⟩
    rw [e3]
    generalize upd H4 x (.ins Sy dx (fsS3 t p a)) = H5 at hx5 hp5 ha5 ht5 hb5 b5 c5 ⊢
    obtain ⟨kd, hkd⟩ := hb5.sqA (K := K)
    refine ⟨kd, ⟨_, hkd⟩, ?_⟩
    have lq : (qs.map fun q => V.ref q.1).length = qs.length := List.length_map _
    have sH : ∀ H6 H7, SmS [p, a] H5 H6 → SmS [p, a] H6 H7 → SmS [x] H H7 := fun H6 H7 s6 s7 c o e n => by
      have nx : c ≠ x := fun z => n (by simp [z])
      have npa : c ∉ [p, a] := fun z => by
        simp only [List.mem_cons, List.not_mem_nil, or_false] at z
        rcases z with rfl | rfl
        · rw [hpH] at e; cases e
        · rw [haH] at e; cases e
      exact s7 _ _ (s6 _ _ (b5 _ _ e nx) npa) npa
    have bpa : b ∉ [p, a] := fun z => by
      simp only [List.mem_cons, List.not_mem_nil, or_false] at z
      rcases z with rfl | rfl
      · rw [hpH] at hob; cases hob
      · rw [haH] at hob; cases hob
    have xpa : x ∉ [p, a] := by simp [xp, xa]
    have y0 : Yo H5 Sy x cs p a [] [] := ⟨⟨dx, t, fsS3 t p a, hx5, rfl, ht5, rfl, rfl, fs3_no⟩, hp5, ha5, pa⟩
    have pg5 : ∀ q ∈ qs, PgA H5 R Wr B Pg q.1 q.2.1 q.2.2 := fun q hq => (hqs q hq).1.keep fun c o e n => b5 _ _ e fun z => by
      rw [z, hx] at e
      exact n _ _ (Option.some.inj e).symm
    refine fj_any (xs := qs.map fun q => V.ref q.1) kd (fun i σ' H' => (∃ z, σ' = [some (.ref x), some (.ref n), some (.ref b), z]) ∧ SmS [p, a] H5 H' ∧ ∃ psi asi, takePs cs [] [] (qs.take i) = .ok (psi, asi) ∧ Yo H' Sy x cs p a psi asi ∧ psi.length ≤ 4 ∧ asi.length ≤ 8 * i) ⟨⟨_, rfl⟩, SmS.refl, [], [], rfl, y0, by decide, by decide⟩ (fun i σ' H' _ inv => Kd.off kd hkd fun o e => inv.2.1 _ _ e bpa) (fun i v σ' H' hv inv => ?_) fun σ' H' inv => ?_
    · obtain ⟨⟨z, rfl⟩, s, psi, asi, ht6, yi, hpi, hai⟩ := inv
      rw [List.getElem?_map] at hv
      cases hq : qs[i]? with
      | none => rw [hq] at hv; cases hv
      | some q =>
        rw [hq] at hv
        cases hv
        have hil : i < qs.length := (List.getElem?_eq_some_iff.mp hq).1
        have hqm := List.mem_of_getElem? hq
        walk_at "rd"
        have app : takePs cs [] [] qs = match takeP cs psi asi q.2.1 q.2.2 with
            | .error e => .error e
            | .ok as' => takePs cs (psi ++ [(q.2.1, q.1)]) as' (qs.drop (i + 1)) := by
          have e2 : qs = qs.take i ++ q :: qs.drop (i + 1) := by
            have e3 : qs.drop i = q :: qs.drop (i + 1) := by
              rw [List.drop_eq_getElem_cons hil]
              rw [List.getElem?_eq_getElem hil] at hq
              rw [Option.some.inj hq]
            rw [← e3, List.take_append_drop]
          have e4 : takePs cs [] [] (qs.take i ++ q :: qs.drop (i + 1)) = match takeP cs psi asi q.2.1 q.2.2 with
            | .error e => .error e
            | .ok as' => takePs cs (psi ++ [(q.2.1, q.1)]) as' (qs.drop (i + 1)) := by
            rw [takePs_app, ht6]; rfl
          rw [← e2] at e4
          exact e4
        refine ⟨dx, fsS3 t p a, s _ _ hx5 xpa, rfl, x, p, a, q.1, q.2.1, q.2.2, cs, psi, asi, rfl, yi, (pg5 q hqm).sms s y0.dks, (hqs q hqm).2.1, (hqs q hqm).2.2.1, (hqs q hqm).2.2.2, by omega, by omega, hpi, fun as' H7 ht7 y7 l7 s7 => ⟨⟨_, rfl⟩, SmS.tr s s7, psi ++ [(q.2.1, q.1)], as', ?_, y7, ?_, ?_⟩, fun e he => XE.off (qe e (by rw [app, he])) fun H8 s8 => sH _ _ s s8⟩
        · rw [List.take_add_one, hq, takePs_app, ht6]
          show (match takeP cs psi asi q.2.1 q.2.2 with | .error e => Except.error e | .ok as' => takePs cs (psi ++ [(q.2.1, q.1)]) as' []) = _
          rw [ht7]
          rfl
        · have := takeP_lt ht7 hpi
          rw [List.length_append]; simp only [List.length_cons, List.length_nil]; omega
        · have := (hqs q hqm).2.2.1; omega
    · obtain ⟨⟨z, rfl⟩, s, psi, asi, ht6, yi, hpi, hai⟩ := inv
      rw [lq, List.take_length] at ht6
      walk_at "rd"
      have hx6 := s _ _ hx5 xpa
      refine ⟨Sy, dx, _, hx6, T.cls, T.s_programs, .ref p, rfl, p, pk psi, rfl, .inl yi.hp, fun nn o hnn od os => ?_⟩
      have s6 : Same H' (upd H' nn (.frz o (.tup ((pk psi).map fun kv => kV kv.1)))) := UL.Same.new hnn
      refine ⟨Sy, dx, _, s6 _ _ hx6, T.cls, T.s_names, by show 3 < 1000; decide, ?_⟩
      have xn : x ≠ nn := ne_of_none hx6 hnn
      have e4' : putF (Str.ofString "names") (V.ref nn) (fsS3 t p a) = fsS t p a nn := by
        show putF ("names" : Str) (V.ref nn) [(("cells" : Str), V.ref t), (("_programs" : Str), V.ref p), (("_arities" : Str), V.ref a)] = _
        simp [putF, sy4, sy5, sy6, fsS]
      rw [e4']
      have ek : ((pk psi).map fun kv => kV kv.1) = psi.map fun q => V.str q.1 := by unfold pk; rw [List.map_map]; rfl
      have tpa : t ∉ [p, a] := fun z => by
        obtain ⟨kvs, e⟩ := y0.dks t z
        rcases ht5 with h | ⟨o, h⟩ <;> · rw [h] at e; cases e
      have ht6' : Rd H' t (.tup (cs.map V.str)) := ht5.elim (fun e => .inl (s _ _ e tpa)) fun ⟨o, e⟩ => .inr ⟨o, s _ _ e tpa⟩
      have hft6 : Rd H n (.lst (cs.map V.str)) → FT (upd (upd H' nn (.frz o (.tup ((pk psi).map fun kv => kV kv.1)))) x (.ins Sy dx (fsS t p a nn))) t (cs.map V.str) := fun hl => by
        obtain ⟨o', e, d⟩ := hft (rd_same hl sm1)
        have tx : t ≠ x := fun z => by rw [z, hx2] at e; cases e
        exact ⟨o', (upd_ne tx).trans (s6 _ _ (s _ _ (c5 _ _ e tx) tpa)), d⟩
      refine qk psi asi ht6 _ t p a nn upd_same (rd_insS (s6 _ _ hx6) (rd_same ht6' s6)) hft6 ?_ ?_ ⟨o, ?_, od, os⟩ pa fun c u e nc => ?_
      · rw [upd_ne (Ne.symm xp)]; exact s6 _ _ yi.hp
      · rw [upd_ne (Ne.symm xa)]; exact s6 _ _ yi.ha
      · rw [upd_ne (Ne.symm xn), upd_same, ek]
      · rw [upd_ne nc]
        exact s6 _ _ (s _ _ (b5 c u e nc) fun z => by
          simp only [List.mem_cons, List.not_mem_nil, or_false] at z
          rcases z with rfl | rfl
          · rw [hpH] at e; cases e
          · rw [haH] at e; cases e)
abbrev s_System_program_named : Stmt := inClass (top 42) 4
abbrev sc_System_program_named_N : List Str := ["self", "name"]
theorem sc_System_program_named : FnScope sc_System_program_named_N ["self", "name"] (defScope s_System_program_named) := ⟨rfl, rfl, rfl, by decide +kernel, rfl, by decide +kernel, by decide +kernel⟩
-- 0 self, 1 name
def sp_named (Sy UP : Addr) : Sp := fun vs H Q E => ∃ (y pd ad : Addr) (n : Str) (cs : List Str) (ps : List (Str × Addr)) (as : List (Str × Nat)), vs = [.ref y, .str n] ∧ Yo H Sy y cs pd ad ps as ∧ n.length ≤ 1000 ∧ (∀ a, valA ps n = some a → Q (.ref a) H) ∧ (valA ps n = none → X1 UP "name" (.str n) H E)
theorem m_named (T : SyX K mg R Wr B Pg Sy IS UC UP) (D : MD K Sy "program_named" "System.program_named" s_System_program_named) (x_UnknownProgram : Xn P w K mg base 1 UP "UnknownProgram" (sp_UP (K := K) UP)) : Mn P w K mg base (L2.CX P w) 3 Sy "program_named" (sp_named Sy UP) := by
  refine D.mx sc_System_program_named (fun _ _ _ _ _ _ us hl => match us, hl with | [_, _], _ => rfl) (fun vs H Q E h => ?_) (fun f cdv A outer s H vs Q E hr h => ?_)
  · obtain ⟨y, pd, ad, n, cs, ps, as, rfl, _⟩ := h; rfl
  · obtain ⟨y, pd, ad, n, cs, ps, as, rfl, hy, hn, q, qx⟩ := h
    refine ⟨_, (pss_cons (ps_if (pt_cmp (pc_dnotin (un1 hr.units) (pv 1) (pe_fld (pv 0) (by rfl))) (by with_unfolding_all rfl)) (pss_one (ps_raise rfl (takes_of rfl rfl rfl rfl) (pmk_x x_UnknownProgram hr (by decide) (by rfl) (pa_cons (pv 1) pa_nil)))) pss_nil)
      (pss_one (ps_ret (pe_dget (un1 hr.units) (pe_fld (pv 0) (by rfl)) (pv 1) (fun _ _ => rfl))))), ?_⟩
    unfold tDNotIn tDGet
    walk_at "rd"
    obtain ⟨⟨dy, cc, fs, h1, h2, h3, h4, h5, h9⟩, h6, h7, h8⟩ := id hy
    refine ⟨Sy, dy, fs, h1, T.cls, T.s_programs, .ref pd, h4, pd, rfl, _, DGet.k (k := Sum.inr n) h6, ?_⟩
    rw [valV_pk]
    cases hv : valA ps n with
    | none =>
      rw [if_pos (by simp)]
      exact raiseUP T.naUP hn (fun R r => ⟨_, rfl, r⟩) (qx hv)
    | some a =>
      rw [if_neg (by simp)]
      exact ⟨Sy, dy, fs, h1, T.cls, T.s_programs, .ref pd, h4, pd, rfl, .ref a, by have := DGet.k (k := Sum.inr n) h6; rw [valV_pk, hv] at this; exact this, q a hv⟩
end
end U
set_option Elab.async false
set_option linter.all false
set_option maxRecDepth 100000
set_option maxHeartbeats 4000000
set_option pp.deepTerms true
set_option pp.maxSteps 400000
namespace U
open PySem PySem.Spec PyProof.Rows L2 UL UX
local macro_rules | `(tactic| walk_at "rd") => `(tactic| simp only [sMatch, tJs, tFmt, tBC, tMethA, tMakeL, iEnumS, tSeq, tAsg, tOp, tCB, tCons, tNil, tVar, tC, tB, tTest, tNot, tIfS, tNext, tYes, tUn, rU, tM0, tGFrom, tGThen, tG0, tYfLst, gcxK, tSubO, tProp, tListG, tMethG, tBMF, tFld, sFld, tMeth, tMake, tSl, tNoPart, tPart, tM1, gTup, gCons, gNil, tDrop, tFor_eq, tLc_eq, tLc2_eq, iRng1_eq, StX.tStar, iList, iTup, iStr, iAny_var, iZipB, tLenSetS, wipe, tVar, tAndV, tOrV, tNotV, tOr, tAnd, tLst, tTup, tBM, tBM0, tChain, tCall, cxK, noxK, addII, addSS, mulII, eqII, neII, neSS, cIntI, cAbsI, rI, rI0, rLt, rLe, rGt_, rGe_, rSub_, rMod, rPow, rDivW, rNeg, gName, tRet, L2.start, List.length_cons, List.length_nil, List.map_cons, List.map_nil, List.replicate, List.cons_append, List.nil_append, List.getElem?_cons_zero, List.getElem?_cons_succ, List.set_cons_zero, List.set_cons_succ, Option.some.injEq, exists_eq_left', exists_eq_left, V.int.injEq, V.bl.injEq, V.str.injEq, V.ref.injEq, V.ty.injEq, List.cons.injEq, and_true, true_and, reduceCtorEq, false_and, exists_false, or_false, false_or, exists_and_left, exists_and_right, List.append_nil, forall_eq, decide_eq_true_eq, Bool.not_eq_true, Nat.reduceAdd, Nat.reduceSub, List.replicate_zero, List.replicate_succ, Nat.zero_le, ite_true, ite_false, if_true, if_false])
section
variable {P : Program} {w : World} {K : PySem.W.Frag} {mg : Str → Option Value} {base : Heap}
open UW
variable {R Wr B Pg : Addr}
theorem nm_len {z : Str} (h : isNm z) : z.length ≤ 8 := by
  have h : nmB z = true := h
  simp only [nmB, Bool.and_eq_true, decide_eq_true_eq] at h
  exact h.1.2
abbrev s__law_cells : Stmt := top 52
abbrev sc__law_cells_N : List Str := ["_law_pool_here"]
theorem sc__law_cells : FnScope sc__law_cells_N ["_law_pool_here"] (defScope s__law_cells) := ⟨rfl, rfl, rfl, by decide +kernel, rfl, by decide +kernel, by decide +kernel⟩
-- 0 _law_pool_here
abbrev s__law_functions : Stmt := top 53
abbrev sc__law_functions_N : List Str := ["_law_pool_here"]
theorem sc__law_functions : FnScope sc__law_functions_N ["_law_pool_here"] (defScope s__law_functions) := ⟨rfl, rfl, rfl, by decide +kernel, rfl, by decide +kernel, by decide +kernel⟩
-- 0 _law_pool_here
abbrev s__law_line : Stmt := top 60
abbrev sc__law_line_N : List Str := ["_law_step_here", "_law_words"]
theorem sc__law_line : FnScope sc__law_line_N ["_law_step_here"] (defScope s__law_line) := ⟨rfl, rfl, rfl, by decide +kernel, rfl, by decide +kernel, by decide +kernel⟩
-- 0 _law_step_here, 1 _law_words
/-- a row of the law: what a step reads, its variable, what it writes, by which function, of what -/
def rowV (k : Sk) (e : Addr) : List V := match k with
  | .rd s l => [.str s, .str l, .non, .non, .ref e]
  | .wr t f _ => [.non, .non, .str t, .str f, .ref e]
  | .rw s l t f _ => [.str s, .str l, .str t, .str f, .ref e]
def Sk.args : Sk → List Str
  | .rd .. => []
  | .wr _ _ xs | .rw _ _ _ _ xs => xs
def RowA (H : Hp) (a : Addr) (k : Sk) : Prop := ∃ e, H a = some (.tup (rowV k e)) ∧ H e = some (.tup (k.args.map V.str))
def Sk.words : Sk → List Str
  | .rd s l => [("read" : Str), s, "as", l]
  | .wr t f xs => wrT t f xs
  | .rw s l t f xs => [("read" : Str), s, "as", l] ++ wrT t f xs
theorem words_many {k : Sk} (h : k.small) (hn : k.args.length ≤ 3) : (∀ x ∈ k.words, x.length ≤ 1000) ∧ k.words.length ≤ 12 := by
  have l1 : ("read" : Str).length = 4 := by decide +kernel
  have l2 : ("as" : Str).length = 2 := by decide +kernel
  have hb : (∀ x ∈ k.words, x.length ≤ 1000) ∧ k.words.length ≤ 12 := by
    have r4 : ∀ {s l : Str}, s.length ≤ 1000 → l.length ≤ 1000 → ∀ x ∈ [("read" : Str), s, "as", l], x.length ≤ 1000 := fun hs hl x hx => by
      simp only [List.mem_cons, List.not_mem_nil, or_false] at hx
      rcases hx with rfl | rfl | rfl | rfl
      · rw [l1]; omega
      · exact hs
      · rw [l2]; omega
      · exact hl
    cases k with
    | rd s l => exact ⟨r4 h.1 h.2, by simp [Sk.words]⟩
    | wr t f xs => exact ⟨wr_len h.1 h.2.1 h.2.2.1, Nat.le_trans wr_many (by have : xs.length ≤ 3 := hn; omega)⟩
    | rw s l t f xs =>
      refine ⟨fun x hx => (List.mem_append.mp hx).elim (r4 h.1.1 h.1.2 x) (wr_len h.2.1 h.2.2.1 h.2.2.2.1 x), ?_⟩
      have h3 : xs.length ≤ 3 := hn
      have h4 := wr_many (t := t) (f := f) (xs := xs)
      show ([("read" : Str), s, "as", l] ++ wrT t f xs).length ≤ 12
      rw [List.length_append]
      simp only [List.length_cons, List.length_nil]
      omega
  exact hb
theorem words_sum {k : Sk} (h : k.small) (hn : k.args.length ≤ 3) : (k.words.map (·.length)).sum + k.words.length * (" " : Str).length ≤ 16777216 := by
  have hb := words_many h hn
  have h1 := sum_le hb.1
  have h2 : k.words.length * 1000 ≤ 12 * 1000 := Nat.mul_le_mul_right _ hb.2
  have h3 := hb.2
  rw [l_sp]
  omega
def sp_line : Sp := fun vs H Q _ => ∃ (a : Addr) (k : Sk), vs = [.ref a] ∧ RowA H a k ∧ k.small ∧ k.args.length ≤ 3 ∧ (∀ x ∈ k.args, PyData.strOk x = true) ∧ ∀ H', Same H H' → Q (.str (Txt.join " " k.words)) H'
theorem d_line (T : Nm mg) (D : TD K mg "_law_line" s__law_line) : Dn P w K mg base CX0 1 "_law_line" sp_line := by
  refine D.dn sc__law_line (fun _ _ _ _ _ _ us hl => match us, hl with | [_], _ => rfl) (fun vs H Q E h => ?_) (fun f cdv A outer s H vs Q E hr h => ?_)
  · obtain ⟨a, k, rfl, _⟩ := h; rfl
  · obtain ⟨a, k, rfl, ⟨e, ha, he⟩, hs, hn, hso, q⟩ := h
    refine ⟨_, (pss_cons (ps_set (i := 1) sc__law_line.nd rfl (Or.inl rfl) (pe_lst pa_nil))
      (pss_cons (ps_if (pt_cmpR op_notNone (pe_ix ix_seq (pv 0) pe_int (fun _ _ => rfl)) pe_non (nomark _)) (pss_one (ps_set (i := 1) sc__law_line.nd rfl (Or.inl rfl) (pe_lst (pa_cons pe_str (pa_cons (pe_ix ix_seq (pv 0) pe_int (fun _ _ => rfl)) (pa_cons pe_str (pa_cons (pe_ix ix_seq (pv 0) pe_int (fun _ _ => rfl)) pa_nil))))))) pss_nil)
      (pss_cons (ps_if (pt_cmpR op_notNone (pe_ix ix_seq (pv 0) pe_int (fun _ _ => rfl)) pe_non (nomark _)) (pss_cons (ps_set (i := 1) sc__law_line.nd rfl (Or.inl rfl) (pe_op op_addA (pv 1) (pe_lst (pa_cons pe_str (pa_cons (pe_ix ix_seq (pv 0) pe_int (fun _ _ => rfl)) (pa_cons pe_str (pa_cons (pe_ix ix_seq (pv 0) pe_int (fun _ _ => rfl)) pa_nil)))))))
      (pss_one (ps_if (pt_cmpR (op_neA (hr.units)) (pe_ix ix_seq (pv 0) pe_int (fun _ _ => rfl)) (pe_tup pa_nil) (nomark _)) (pss_one (ps_set (i := 1) sc__law_line.nd rfl (Or.inl rfl) (pe_op op_addA (pe_op op_addA (pv 1) (pe_lst (pa_cons pe_str pa_nil))) (pe_callTy call_listA (by rfl) T.n_list (by decide +kernel) (pa_cons (pe_ix ix_seq (pv 0) pe_int (fun _ _ => rfl)) pa_nil))))) pss_nil))) pss_nil)
      (pss_one (ps_ret (pe_join pe_str (pv 1))))))), ?_⟩
    walk_at "rd"
    have ra : ∀ {H' : Hp} (i : Nat) (j : Int) (_ : j = i) (v : V), Same H H' → (rowV k e)[i]? = some v → ∀ {Q : VK}, Q v H' → rIx K (.ref a) (.int j) H' Q := fun {H'} i j hj v sm hv {Q} hq => by
      subst hj
      exact ixT (.inl (.inl (sm _ _ ha))) (atN hv) hq
    have hj : (k.words.map (·.length)).sum + k.words.length * (" " : Str).length ≤ 16777216 := words_sum hs hn
    have hfx : (k.args.map V.str).all fl3 = true := by
      rw [List.all_map, List.all_eq_true]
      exact fun x hx => hso x hx
    refine fun p hp => ?_
    have s1 : Same H (upd H p (.lst [])) := UL.Same.new hp
    cases k with
    | rd sr l =>
      refine ra 0 0 rfl _ s1 rfl ⟨rfl, _, rfl, ?_⟩
      rw [if_pos (by simp)]
      refine ra 0 0 rfl _ s1 rfl (ra 1 1 rfl _ s1 rfl ⟨by rw [sizeLine_eq]; decide, fun p2 hp2 => ?_⟩)
      have s2 := Same.tr s1 (UL.Same.new (o := .lst [V.str (Str.ofString "read"), V.str sr, V.str (Str.ofString "as"), V.str l]) hp2)
      refine ra 2 2 rfl _ s2 rfl ⟨rfl, _, rfl, ?_⟩
      rw [if_neg (by simp)]
      exact ⟨⟨_, rfl⟩, Sk.words (.rd sr l), .inl (.inl (.inl upd_same)), hj, q _ s2⟩
    | wr t fn xs =>
      refine ra 0 0 rfl _ s1 rfl ⟨rfl, _, rfl, ?_⟩
      rw [if_neg (by simp)]
      refine ra 2 2 rfl _ s1 rfl ⟨rfl, _, rfl, ?_⟩
      rw [if_pos (by simp)]
      have hx1 : upd H p (.lst []) p = some (.lst (([] : List Str).map V.str)) := upd_same
      have hn' : xs.length ≤ 3 := hn
      refine ra 2 2 rfl _ s1 rfl (ra 3 3 rfl _ s1 rfl ⟨by rw [sizeLine_eq]; decide, fun p3 hp3 => ?_⟩)
      refine .inr (.inr (.inr ⟨p, p3, _, _, rfl, rfl, UL.Same.new hp3 _ _ hx1, upd_same, by simp [sizeLine_eq], fun p4 hp4 => ?_⟩))
      have s4 := Same.tr (Same.tr s1 (UL.Same.new (o := .lst [V.str (Str.ofString "write"), V.str t, V.str (Str.ofString "by"), V.str fn]) hp3)) (UL.Same.new (o := .lst (([] : List Str).map V.str ++ [V.str (Str.ofString "write"), V.str t, V.str (Str.ofString "by"), V.str fn])) hp4)
      refine ra 4 4 rfl _ s4 rfl (fun p5 hp5 => neT3 hfx rfl (.inl (.inl (UL.Same.new hp5 _ _ (s4 _ _ he)))) (.inl (.inl upd_same)) ⟨_, rfl, ?_⟩)
      have s5 := Same.tr s4 (UL.Same.new (o := .tup []) hp5)
      by_cases hxs : xs = []
      · subst hxs
        rw [if_neg (by simp [Sk.args])]
        exact ⟨⟨_, rfl⟩, p4, rfl, ([] : List Str) ++ wrT t fn [], .inl (.inl (.inl (UL.Same.new hp5 _ _ (by rw [upd_same, List.map_append]; rfl)))), hj, q _ s5⟩
      · rw [if_pos (by simp [Sk.args, hxs])]
        refine ⟨by rw [sizeLine_eq]; decide, fun p6 hp6 => .inr (.inr (.inr ⟨p4, p6, _, _, rfl, rfl, UL.Same.new hp6 _ _ (UL.Same.new hp5 _ _ upd_same), upd_same, by simp [sizeLine_eq], fun p7 hp7 => ?_⟩))⟩
        have s7 := Same.tr (Same.tr s5 (UL.Same.new (o := .lst [V.str (Str.ofString "of")]) hp6)) (UL.Same.new (o := .lst (([] : List Str).map V.str ++ [V.str (Str.ofString "write"), V.str t, V.str (Str.ofString "by"), V.str fn] ++ [V.str (Str.ofString "of")])) hp7)
        refine ra 4 4 rfl _ s7 rfl ⟨e, _, rfl, .inr (.inl (.inl (s7 _ _ he))), fun p8 hp8 => .inr (.inr (.inr ⟨p7, p8, _, _, rfl, rfl, UL.Same.new hp8 _ _ upd_same, upd_same, by simp [sizeLine_eq, Sk.args]; omega, fun p9 hp9 => ?_⟩))⟩
        have ew : wrT t fn xs = (("write" : Str) :: t :: ("by" : Str) :: fn :: ("of" : Str) :: xs) := by unfold wrT; rw [if_neg hxs]
        exact ⟨⟨_, rfl⟩, p9, rfl, ([] : List Str) ++ wrT t fn xs, .inl (.inl (.inl (by rw [upd_same, ew]; simp [Sk.args]))), hj, q _ (Same.tr (Same.tr s7 (UL.Same.new hp8)) (UL.Same.new hp9))⟩
    | rw sr l t fn xs =>
      refine ra 0 0 rfl _ s1 rfl ⟨rfl, _, rfl, ?_⟩
      rw [if_pos (by simp)]
      refine ra 0 0 rfl _ s1 rfl (ra 1 1 rfl _ s1 rfl ⟨by rw [sizeLine_eq]; decide, fun p2 hp2 => ?_⟩)
      have s2 := Same.tr s1 (UL.Same.new (o := .lst [V.str (Str.ofString "read"), V.str sr, V.str (Str.ofString "as"), V.str l]) hp2)
      have hx2 : upd (upd H p (.lst [])) p2 (.lst [V.str (Str.ofString "read"), V.str sr, V.str (Str.ofString "as"), V.str l]) p2 = some (.lst ([("read" : Str), sr, "as", l].map V.str)) := upd_same
      refine ra 2 2 rfl _ s2 rfl ⟨rfl, _, rfl, ?_⟩
      rw [if_pos (by simp)]
      have hn' : xs.length ≤ 3 := hn
      refine ra 2 2 rfl _ s2 rfl (ra 3 3 rfl _ s2 rfl ⟨by rw [sizeLine_eq]; decide, fun p3 hp3 => ?_⟩)
      refine .inr (.inr (.inr ⟨p2, p3, _, _, rfl, rfl, UL.Same.new hp3 _ _ hx2, upd_same, by simp [sizeLine_eq], fun p4 hp4 => ?_⟩))
      have s4 := Same.tr (Same.tr s2 (UL.Same.new (o := .lst [V.str (Str.ofString "write"), V.str t, V.str (Str.ofString "by"), V.str fn]) hp3)) (UL.Same.new (o := .lst ([("read" : Str), sr, "as", l].map V.str ++ [V.str (Str.ofString "write"), V.str t, V.str (Str.ofString "by"), V.str fn])) hp4)
      refine ra 4 4 rfl _ s4 rfl (fun p5 hp5 => neT3 hfx rfl (.inl (.inl (UL.Same.new hp5 _ _ (s4 _ _ he)))) (.inl (.inl upd_same)) ⟨_, rfl, ?_⟩)
      have s5 := Same.tr s4 (UL.Same.new (o := .tup []) hp5)
      by_cases hxs : xs = []
      · subst hxs
        rw [if_neg (by simp [Sk.args])]
        exact ⟨⟨_, rfl⟩, p4, rfl, [("read" : Str), sr, "as", l] ++ wrT t fn [], .inl (.inl (.inl (UL.Same.new hp5 _ _ (by rw [upd_same, List.map_append]; rfl)))), hj, q _ s5⟩
      · rw [if_pos (by simp [Sk.args, hxs])]
        refine ⟨by rw [sizeLine_eq]; decide, fun p6 hp6 => .inr (.inr (.inr ⟨p4, p6, _, _, rfl, rfl, UL.Same.new hp6 _ _ (UL.Same.new hp5 _ _ upd_same), upd_same, by simp [sizeLine_eq], fun p7 hp7 => ?_⟩))⟩
        have s7 := Same.tr (Same.tr s5 (UL.Same.new (o := .lst [V.str (Str.ofString "of")]) hp6)) (UL.Same.new (o := .lst ([("read" : Str), sr, "as", l].map V.str ++ [V.str (Str.ofString "write"), V.str t, V.str (Str.ofString "by"), V.str fn] ++ [V.str (Str.ofString "of")])) hp7)
        refine ra 4 4 rfl _ s7 rfl ⟨e, _, rfl, .inr (.inl (.inl (s7 _ _ he))), fun p8 hp8 => .inr (.inr (.inr ⟨p7, p8, _, _, rfl, rfl, UL.Same.new hp8 _ _ upd_same, upd_same, by simp [sizeLine_eq, Sk.args]; omega, fun p9 hp9 => ?_⟩))⟩
        have ew : wrT t fn xs = (("write" : Str) :: t :: ("by" : Str) :: fn :: ("of" : Str) :: xs) := by unfold wrT; rw [if_neg hxs]
        exact ⟨⟨_, rfl⟩, p9, rfl, [("read" : Str), sr, "as", l] ++ wrT t fn xs, .inl (.inl (.inl (by rw [upd_same, ew]; simp [Sk.args]))), hj, q _ (Same.tr (Same.tr s7 (UL.Same.new hp8)) (UL.Same.new hp9))⟩
end
end U
set_option Elab.async false
set_option linter.all false
set_option maxRecDepth 100000
set_option maxHeartbeats 4000000
set_option pp.deepTerms true
set_option pp.maxSteps 400000
namespace U
open PySem PySem.Spec PyProof.Rows L2 UL UX
local macro_rules | `(tactic| walk_at "rd") => `(tactic| simp only [sMatch, tJs, tFmt, tBC, tMethA, tMakeL, iEnumS, tSeq, tAsg, tOp, tCB, tCons, tNil, tVar, tC, tB, tTest, tNot, tIfS, tNext, tYes, tUn, rU, tM0, tGFrom, tGThen, tG0, tYfLst, gcxK, tSubO, tProp, tListG, tMethG, tBMF, tFld, sFld, tMeth, tMake, tSl, tNoPart, tPart, tM1, gTup, gCons, gNil, tDrop, tFor_eq, tLc_eq, tLc2_eq, iRng1_eq, StX.tStar, iList, iTup, iStr, iAny_var, iZipB, tLenSetS, wipe, tVar, tAndV, tOrV, tNotV, tOr, tAnd, tLst, tTup, tBM, tBM0, tChain, tCall, cxK, noxK, addII, addSS, mulII, eqII, neII, neSS, cIntI, cAbsI, rI, rI0, rLt, rLe, rGt_, rGe_, rSub_, rMod, rPow, rDivW, rNeg, gName, tRet, L2.start, List.length_cons, List.length_nil, List.map_cons, List.map_nil, List.replicate, List.cons_append, List.nil_append, List.getElem?_cons_zero, List.getElem?_cons_succ, List.set_cons_zero, List.set_cons_succ, Option.some.injEq, exists_eq_left', exists_eq_left, V.int.injEq, V.bl.injEq, V.str.injEq, V.ref.injEq, V.ty.injEq, List.cons.injEq, and_true, true_and, reduceCtorEq, false_and, exists_false, or_false, false_or, exists_and_left, exists_and_right, List.append_nil, forall_eq, decide_eq_true_eq, Bool.not_eq_true, Nat.reduceAdd, Nat.reduceSub, List.replicate_zero, List.replicate_succ, Nat.zero_le, ite_true, ite_false, if_true, if_false])
section
variable {P : Program} {w : World} {K : PySem.W.Frag} {mg : Str → Option Value} {base : Heap}
open UW
variable {R Wr B Pg : Addr}
theorem nm_ok {z : Str} (h : isNm z) : PyData.strOk z = true := by
  have h : nmB z = true := h
  simp only [nmB, Bool.and_eq_true, List.all_eq_true, decide_eq_true_eq] at h
  have e : ∀ c ∈ abc.cps.toList, c < 0x110000 := by rw [abc_eq]; intro c hc; obtain ⟨n, hn, rfl⟩ := List.mem_map.mp hc; have := List.mem_range.mp hn; omega
  show (z.cps.all (· < 0x110000)) = true
  rw [Array.all_eq_true_iff_forall_mem]
  intro c hc
  exact decide_eq_true (e c (h.2 c (by simpa using hc)))
abbrev s__law_step : Stmt := top 54
abbrev sc__law_step_N : List Str := ["_law_pool_here", "_law_cells_here", "_law_words", "_law_functions_here", "_law_known", "_law_kind", "_law_source", "_law_local", "_law_target", "_law_names_here", "_law_which", "_law_inputs", "_law_k"]
theorem sc__law_step : FnScope sc__law_step_N ["_law_pool_here", "_law_cells_here", "_law_words", "_law_functions_here", "_law_known"] (defScope s__law_step) := ⟨rfl, rfl, rfl, by decide +kernel, rfl, by decide +kernel, by decide +kernel⟩
-- 0 _law_pool_here, 1 _law_cells_here, 2 _law_words, 3 _law_functions_here, 4 _law_known, 5 _law_kind, 6 _law_source, 7 _law_local, 8 _law_target, 9 _law_names_here, 10 _law_which, 11 _law_inputs, 12 _law_k
def Good (kn : List Str) (k : Sk) : Prop := (∀ x ∈ k.src ++ k.loc ++ k.tgt, isNm x) ∧ (∀ f, (match k with | .rd .. => none | .wr _ f _ | .rw _ _ _ f _ => some f) = some f → isNm f) ∧ (∀ x ∈ k.args, x ∈ kn ++ k.loc) ∧ k.args.length ≤ 3
theorem catT {H : Hp} {Q : VK} {a b : Addr} {xs ys : List V} (ha : SqT K H a xs) (hb : H b = some (.tup ys)) (hy : ys ≠ []) (hl : xs.length + ys.length ≤ sizeLine) (q : ∀ r H', H' r = some (.tup (xs ++ ys)) → Same H H' → Q (.ref r) H') : rAddA K (.ref a) (.ref b) H Q :=
  .inr (.inr (.inl ⟨a, b, xs, ys, rfl, rfl, ha, .inl (.inl hb), hl, fun e => q b H (by rw [e]; exact hb) (fun _ _ z => z), fun _ e => absurd e hy, fun _ _ p hp => q p _ upd_same (UL.Same.new hp)⟩))
theorem good_wr {t f : Str} {xs kn : List Str} (ht : isNm t) (hf : isNm f) (hx : ∀ x ∈ xs, x ∈ kn) (h3 : xs.length ≤ 3) : Good kn (.wr t f xs) :=
  ⟨fun x h => by have e : x = t := by simpa [Sk.src, Sk.loc, Sk.tgt] using h
                 rw [e]; exact ht, fun g e => by cases e; exact hf, fun x h => List.mem_append_left _ (hx x h), h3⟩
theorem good_rd {s l : Str} {kn : List Str} (hs : isNm s) (hl : isNm l) : Good kn (.rd s l) :=
  ⟨fun x h => by have e : x = s ∨ x = l := by simpa [Sk.src, Sk.loc, Sk.tgt] using h
                 rcases e with rfl | rfl
                 · exact hs
                 · exact hl, (fun g e => by cases e), (fun x h => by cases h), Nat.zero_le _⟩
theorem good_rw {s l t f : Str} {xs kn : List Str} (hs : isNm s) (hl : isNm l) (ht : isNm t) (hf : isNm f) (hx : ∀ x ∈ xs, x ∈ kn ++ [l]) (h3 : xs.length ≤ 3) : Good kn (.rw s l t f xs) :=
  ⟨fun x h => by have e : x = s ∨ x = l ∨ x = t := by simpa [Sk.src, Sk.loc, Sk.tgt] using h
                 rcases e with rfl | rfl | rfl
                 · exact hs
                 · exact hl
                 · exact ht, fun g e => by cases e; exact hf, hx, h3⟩
theorem Same.free {H H' : Hp} {p : Addr} (s : Same H H') (h : H' p = none) : H p = none := by
  cases e : H p with
  | none => rfl
  | some o => rw [s _ _ e] at h; cases h
def Sk.fa : Sk → Option (Str × Nat)
  | .rd .. => none
  | .wr _ f xs | .rw _ _ _ f xs => some (f, xs.length)
/-- the step's cells are of cs, its function is one of fs, with as many arguments as its place says -/
def InS (cs fs : List Str) (k : Sk) : Prop := (∀ c ∈ k.src ++ k.tgt, c ∈ cs) ∧ ∀ f n, k.fa = some (f, n) → ∃ i : Int, 0 ≤ i ∧ atI (fs.map V.str) i = some (V.str f) ∧ atI [V.int 1, .int 0, .int 2, .int 1, .int 3] i = some (V.int (n : Nat))
def sp_lstep (K : PySem.W.Frag) : Sp := fun vs H Q _ => ∃ (p a b c d : Addr) (cs ws fs kn : List Str), vs = [.ref p, .ref a, .ref b, .ref c, .ref d] ∧ Pl H p ∧ H a = some (.lst (cs.map V.str)) ∧ H b = some (.lst (ws.map V.str)) ∧ H c = some (.lst (fs.map V.str)) ∧ H d = some (.lst (kn.map V.str)) ∧ p ≠ a ∧ p ≠ b ∧ p ≠ c ∧ p ≠ d ∧
  1 ≤ cs.length ∧ cs.length ≤ 3 ∧ 1 ≤ ws.length ∧ ws.length ≤ 3 ∧ 2 ≤ fs.length ∧ fs.length ≤ 5 ∧ kn.length ≤ 4 ∧ (∀ z ∈ cs, isNm z) ∧ (∀ z ∈ ws, isNm z) ∧ (∀ z ∈ fs, isNm z) ∧ (∀ z ∈ kn, isNm z) ∧
  ∀ r k H', H r = none → RowA H' r k → Good kn k → InS cs fs k → Pl H' p → But p H H' → Q (.ref r) H'
theorem d_lstep (T : Nm mg) (D : TD K mg "_law_step" s__law_step) (d__law_draw : Dn P w K mg base CX0 1 "_law_draw" sp_draw) : Dn P w K mg base CX0 2 "_law_step" (sp_lstep K) := by
  refine D.dn sc__law_step (fun _ _ _ _ _ _ us hl => match us, hl with | [_, _, _, _, _], _ => rfl) (fun vs H Q E h => ?_) (fun f cdv A outer s H vs Q E hr h => ?_)
  · obtain ⟨p, a, b, c, d, cs, ws, fs, kn, rfl, _⟩ := h; rfl
  · obtain ⟨p, a, b, c, d, cs, ws, fs, kn, rfl, hp, ha, hb, hc, hd, na, nb, nc, nd, c1, c3, w1, w3, f2, f5, k4, ic, iw, iff, ik, q⟩ := h
    refine ⟨_, (pss_cons (ps_set (i := 5) sc__law_step.nd rfl (Or.inl rfl) (pe_d d__law_draw hr (by decide) pass0 (by rfl) (pa_cons (pv 0) (pa_cons pe_int pa_nil))))
      (pss_cons (ps_set (i := 6) sc__law_step.nd rfl (Or.inl rfl) pe_non)
      (pss_cons (ps_set (i := 7) sc__law_step.nd rfl (Or.inl rfl) pe_non)
      (pss_cons (ps_if (pt_cmpR (op_neA (hr.units)) (pv 5) pe_int (nomark _)) (pss_cons (ps_set (i := 6) sc__law_step.nd rfl (Or.inl rfl) (pe_ix ix_seq (pv 1) (pe_d d__law_draw hr (by decide) pass0 (by rfl) (pa_cons (pv 0) (pa_cons (pe_callB call_lenA (by rfl) T.n_len (by decide +kernel) (pa_cons (pv 1) pa_nil)) pa_nil))) (fun _ _ => rfl)))
      (pss_one (ps_set (i := 7) sc__law_step.nd rfl (Or.inl rfl) (pe_ix ix_seq (pv 2) (pe_d d__law_draw hr (by decide) pass0 (by rfl) (pa_cons (pv 0) (pa_cons (pe_callB call_lenA (by rfl) T.n_len (by decide +kernel) (pa_cons (pv 2) pa_nil)) pa_nil))) (fun _ _ => rfl))))) pss_nil)
      (pss_cons (ps_if (pt_cmpR (op_eqA (hr.units)) (pv 5) pe_int (nomark _)) (pss_one (ps_ret (pe_tup (pa_cons (pv 6) (pa_cons (pv 7) (pa_cons pe_non (pa_cons pe_non (pa_cons (pe_tup pa_nil) pa_nil)))))))) pss_nil)
      (pss_cons (ps_set (i := 8) sc__law_step.nd rfl (Or.inl rfl) (pv 6))
      (pss_cons (ps_if (pt_cmpR (op_neA (hr.units)) (pv 5) pe_int (nomark _)) (pss_one (ps_set (i := 8) sc__law_step.nd rfl (Or.inl rfl) (pe_ix ix_seq (pv 1) (pe_d d__law_draw hr (by decide) pass0 (by rfl) (pa_cons (pv 0) (pa_cons (pe_callB call_lenA (by rfl) T.n_len (by decide +kernel) (pa_cons (pv 1) pa_nil)) pa_nil))) (fun _ _ => rfl)))) pss_nil)
      (pss_cons (ps_set (i := 9) sc__law_step.nd rfl (Or.inl rfl) (pe_callTy call_listA (by rfl) T.n_list (by decide +kernel) (pa_cons (pv 4) pa_nil)))
      (pss_cons (ps_if (pt_cmpR op_notNone (pv 7) pe_non (nomark _)) (pss_one (ps_expr (pe_bm PySem.F.plainAttrs_list PySem.F.slot_list_append PySem.F.type_list_append mt_append (pv 9) (pa_cons (pv 7) pa_nil)))) pss_nil)
      (pss_cons (ps_set (i := 10) sc__law_step.nd rfl (Or.inl rfl) (pe_d d__law_draw hr (by decide) pass0 (by rfl) (pa_cons (pv 0) (pa_cons (pe_callB call_lenA (by rfl) T.n_len (by decide +kernel) (pa_cons (pv 3) pa_nil)) pa_nil))))
      (pss_cons (ps_if (pt_cmpR (op_eqA (hr.units)) (pv 9) (pe_lst pa_nil) (nomark _)) (pss_one (ps_set (i := 10) sc__law_step.nd rfl (Or.inl rfl) pe_int)) pss_nil)
      (pss_cons (ps_set (i := 11) sc__law_step.nd rfl (Or.inl rfl) (pe_tup pa_nil))
      (pss_cons (ps_for PassesOwn.never rfl (pi_range1 (by rfl) T.n_range (pa_cons (pe_ix ix_seq (pe_lst (pa_cons pe_int (pa_cons pe_int (pa_cons pe_int (pa_cons pe_int (pa_cons pe_int pa_nil)))))) (pv 10) (fun _ _ => rfl)) pa_nil)) (pg_name (i := 12) sc__law_step.nd rfl (Or.inl rfl)) (pss_one (ps_set (i := 11) sc__law_step.nd rfl (Or.inl rfl) (pe_op op_addA (pv 11) (pe_tup (pa_cons (pe_ix ix_seq (pv 9) (pe_d d__law_draw hr (by decide) pass0 (by rfl) (pa_cons (pv 0) (pa_cons (pe_callB call_lenA (by rfl) T.n_len (by decide +kernel) (pa_cons (pv 9) pa_nil)) pa_nil))) (fun _ _ => rfl)) pa_nil))))))
      (pss_one (ps_ret (pe_tup (pa_cons (pv 6) (pa_cons (pv 7) (pa_cons (pv 8) (pa_cons (pe_ix ix_seq (pv 3) (pv 10) (fun _ _ => rfl)) (pa_cons (pv 11) pa_nil))))))))))))))))))))), ?_⟩
    walk_at "rd"
    have atc : ∀ {xs : List Str} {r : Int}, 0 ≤ r → r < (xs.length : Int) → ∃ z, atI (xs.map V.str) r = some (V.str z) ∧ z ∈ xs := fun {xs r} h0 h1 => by
      obtain ⟨n, rfl⟩ := Int.eq_ofNat_of_zero_le h0
      have hn : n < xs.length := by omega
      exact ⟨xs[n], atN (by rw [List.getElem?_map]; simp [hn]), List.getElem_mem hn⟩
    have inp : ∀ wv : Int, 0 ≤ wv → wv < 5 → ∃ m : Int, atI [V.int 1, .int 0, .int 2, .int 1, .int 3] wv = some (.int m) ∧ 0 ≤ m ∧ m ≤ 3 ∧ (wv = 1 → m = 0) := fun wv h0 h5 => by
      have hc5 : wv = 0 ∨ wv = 1 ∨ wv = 2 ∨ wv = 3 ∨ wv = 4 := by omega
      rcases hc5 with rfl | rfl | rfl | rfl | rfl
      · exact ⟨1, rfl, by decide, by decide, by decide⟩
      · exact ⟨0, rfl, by decide, by decide, by decide⟩
      · exact ⟨2, rfl, by decide, by decide, by decide⟩
      · exact ⟨1, rfl, by decide, by decide, by decide⟩
      · exact ⟨3, rfl, by decide, by decide, by decide⟩
    refine drawI (by decide) hp fun kd H1 k0 k4' hp1 b1 => neII.mpr ⟨_, rfl, ?_⟩
    by_cases e2 : kd = 2
    · rw [if_neg (by simp [e2])]
      have kd2 : kd = 2 := e2
      refine eqII.mpr ⟨_, rfl, ?_⟩
      rw [if_neg (by simp [e2])]
      refine neII.mpr ⟨_, rfl, ?_⟩
      rw [if_pos (by simp [e2])]
      refine lenL (.inl (.inl (b1 _ _ ha (Ne.symm na)))) (drawI (by simp; omega) hp1 fun r1 H3 r10 r1l hp3 b3 => ?_)
      have b13 := But.tr b1 b3
      obtain ⟨tg, htg, htm⟩ := atc (xs := cs) r10 (by simpa using r1l)
      refine ixL (.inl (.inl (b13 _ _ ha (Ne.symm na)))) htg ⟨d, _, rfl, .inl (.inl (.inl (b13 _ _ hd (Ne.symm nd)))), fun l hl0 => ⟨rfl, _, rfl, ?_⟩⟩
      rw [if_neg (by simp)]
      have hl : upd H3 l (.lst (kn.map V.str)) l = some (.lst (kn.map V.str)) := upd_same
      have npl : p ≠ l := hp3.ne hl0
      have hpc : Pl (upd H3 l (.lst (kn.map V.str))) p := hp3.put npl
      have bc : But p H (upd H3 l (.lst (kn.map V.str))) := But.tr b13 (UL.Same.but (UL.Same.new hl0))
      generalize upd H3 l (.lst (kn.map V.str)) = Hc at hl hpc bc ⊢
      have hfl : (kn.map V.str).all fl3 = true := by
        rw [List.all_map, List.all_eq_true]
        exact fun x hx => nm_ok (ik x hx)
      obtain ⟨ns, ens⟩ : ∃ ns, ns = kn := ⟨_, rfl⟩
      rw [← ens] at hl hfl
      refine lenL (.inl (.inl (bc _ _ hc (Ne.symm nc)))) (drawI (by simp; omega) hpc fun wh H2 w0 wlt hp2 b2 => fun p1 hp1' => ?_)
      have hl2 : H2 l = some (.lst (ns.map V.str)) := b2 _ _ hl (Ne.symm npl)
      have wl5 : wh < (fs.length : Int) := by simpa using wlt
      refine eqL3 (xs := ns.map V.str) (ys := []) hfl rfl (.inl (.inl (UL.Same.new hp1' _ _ hl2))) (.inl (.inl upd_same)) ⟨_, rfl, ?_⟩
      by_cases hnn : ns = []
      · rw [if_pos (by simp [hnn])]
        refine fun p2 hp2' => ⟨by rw [sizeLine_eq]; decide, fun p3 hp3 => ?_⟩
        obtain ⟨m, hm, m0, m3, mz⟩ := inp (1) (by omega) (by omega)
        have s3 : Same H2 (upd (upd (upd H2 p1 (.lst [])) p2 (.tup [])) p3 (.lst [V.int 1, .int 0, .int 2, .int 1, .int 3])) := Same.tr (Same.tr (UL.Same.new hp1') (UL.Same.new hp2')) (UL.Same.new hp3)
        refine ixL (.inl (.inl upd_same)) hm ⟨m, rfl, by omega, by omega, FJ.rangeI (fun i σ' H' => ∃ (t : Addr) (xs : List Str) (z : Option V), σ' = [some (.ref p), some (.ref a), some (.ref b), some (.ref c), some (.ref d), some (.int kd), some V.non, some V.non, some (V.str tg), some (.ref l), some (.int (1)), some (.ref t), z] ∧ H' t = some (.tup (xs.map V.str)) ∧ xs.length = i ∧ (∀ x ∈ xs, x ∈ ns) ∧ Pl H' p ∧ But p H H' ∧ H' l = some (.lst (ns.map V.str))) m0 ⟨p2, [], _, rfl, ?_, rfl, (fun _ h => by cases h), hp2.same s3, But.tr bc (But.tr b2 (UL.Same.but s3)), s3 _ _ hl2⟩ (fun i σ' H' hi inv => ?_) fun σ' H' inv => ?_⟩
        · exact UL.Same.new hp3 _ _ upd_same
        · obtain ⟨t, xs, z, rfl, ht, hxl, hxm, hp5, b5, hl5⟩ := inv
          walk_at "rd"
          have hns : ns ≠ [] := fun _ => by have := mz rfl; omega
          have hnl : 0 < ns.length := List.length_pos_iff.mpr hns
          refine lenL (.inl (.inl hl5)) (drawI (by simp; omega) hp5 fun r H6 r0 rl hp6 b6 => ?_)
          obtain ⟨y, hy, hyn⟩ := atc (xs := ns) r0 (by simpa using rl)
          refine ixL (.inl (.inl (b6 _ _ hl5 (Ne.symm npl)))) hy ⟨by rw [sizeLine_eq]; decide, fun p7 hp7 => ?_⟩
          have ntp : t ≠ p := fun e => by obtain ⟨ms, e2⟩ := hp5; rw [e, e2] at ht; cases ht
          refine catT (xs := xs.map V.str) (.inl (.inl (UL.Same.new hp7 _ _ (b6 _ _ ht ntp)))) upd_same (by simp) (by simp [sizeLine_eq]; omega) fun rr H8 hr8 s8 => ?_
          have s68 : Same H6 H8 := Same.tr (UL.Same.new hp7) s8
          exact ⟨rr, ⟨rfl, _, rfl⟩, xs ++ [y], by rw [hr8, List.map_append]; rfl, by simp; omega, fun x hx => (List.mem_append.mp hx).elim (hxm x) fun h => by rw [List.mem_singleton.mp h]; exact hyn, hp6.same s68, But.tr b5 (But.tr b6 (UL.Same.but s68)), s68 _ _ (b6 _ _ hl5 (Ne.symm npl))⟩
        · obtain ⟨t, xs, z, rfl, ht, hxl, hxm, hp5, b5, hl5⟩ := inv
          walk_at "rd"
          obtain ⟨y, hy, hyn⟩ := atc (xs := fs) (r := (1)) (by omega) (by omega)
          refine ixL (.inl (.inl (b5 _ _ hc (Ne.symm nc)))) hy ⟨by rw [sizeLine_eq]; decide, fun p9 hp9 => ?_⟩
          have hx3 : xs.length ≤ 3 := by omega
          have inCells : ∀ c ∈ Sk.src (.wr tg y xs) ++ Sk.tgt (.wr tg y xs), c ∈ cs := by
            intro c h
            simp only [Sk.src, Sk.tgt, List.nil_append, List.append_nil, List.mem_append, List.mem_singleton, or_self, List.cons_append, List.mem_cons, List.not_mem_nil, or_false] at h
            first
              | (rw [h]; assumption)
              | (rcases h with h | h <;> (rw [h]; assumption))
          exact q p9 (.wr tg y xs) _ (But.free' b5 hp5 hp9) ⟨t, upd_same, UL.Same.new hp9 _ _ ht⟩ (good_wr (ic _ htm) (iff _ hyn) (fun x hx => by rw [← ens]; exact hxm x hx) hx3) ⟨inCells, fun f n h => by cases h; exact ⟨(1), by omega, hy, by rw [hm]; exact congrArg (fun z => some (V.int z)) (by omega)⟩⟩ (hp5.same (UL.Same.new hp9)) (But.tr b5 (UL.Same.but (UL.Same.new hp9)))
      · rw [if_neg (by simp [hnn])]
        refine fun p2 hp2' => ⟨by rw [sizeLine_eq]; decide, fun p3 hp3 => ?_⟩
        obtain ⟨m, hm, m0, m3, mz⟩ := inp (wh) (by omega) (by omega)
        have s3 : Same H2 (upd (upd (upd H2 p1 (.lst [])) p2 (.tup [])) p3 (.lst [V.int 1, .int 0, .int 2, .int 1, .int 3])) := Same.tr (Same.tr (UL.Same.new hp1') (UL.Same.new hp2')) (UL.Same.new hp3)
        refine ixL (.inl (.inl upd_same)) hm ⟨m, rfl, by omega, by omega, FJ.rangeI (fun i σ' H' => ∃ (t : Addr) (xs : List Str) (z : Option V), σ' = [some (.ref p), some (.ref a), some (.ref b), some (.ref c), some (.ref d), some (.int kd), some V.non, some V.non, some (V.str tg), some (.ref l), some (.int (wh)), some (.ref t), z] ∧ H' t = some (.tup (xs.map V.str)) ∧ xs.length = i ∧ (∀ x ∈ xs, x ∈ ns) ∧ Pl H' p ∧ But p H H' ∧ H' l = some (.lst (ns.map V.str))) m0 ⟨p2, [], _, rfl, ?_, rfl, (fun _ h => by cases h), hp2.same s3, But.tr bc (But.tr b2 (UL.Same.but s3)), s3 _ _ hl2⟩ (fun i σ' H' hi inv => ?_) fun σ' H' inv => ?_⟩
        · exact UL.Same.new hp3 _ _ upd_same
        · obtain ⟨t, xs, z, rfl, ht, hxl, hxm, hp5, b5, hl5⟩ := inv
          walk_at "rd"
          have hns : ns ≠ [] := hnn
          have hnl : 0 < ns.length := List.length_pos_iff.mpr hns
          refine lenL (.inl (.inl hl5)) (drawI (by simp; omega) hp5 fun r H6 r0 rl hp6 b6 => ?_)
          obtain ⟨y, hy, hyn⟩ := atc (xs := ns) r0 (by simpa using rl)
          refine ixL (.inl (.inl (b6 _ _ hl5 (Ne.symm npl)))) hy ⟨by rw [sizeLine_eq]; decide, fun p7 hp7 => ?_⟩
          have ntp : t ≠ p := fun e => by obtain ⟨ms, e2⟩ := hp5; rw [e, e2] at ht; cases ht
          refine catT (xs := xs.map V.str) (.inl (.inl (UL.Same.new hp7 _ _ (b6 _ _ ht ntp)))) upd_same (by simp) (by simp [sizeLine_eq]; omega) fun rr H8 hr8 s8 => ?_
          have s68 : Same H6 H8 := Same.tr (UL.Same.new hp7) s8
          exact ⟨rr, ⟨rfl, _, rfl⟩, xs ++ [y], by rw [hr8, List.map_append]; rfl, by simp; omega, fun x hx => (List.mem_append.mp hx).elim (hxm x) fun h => by rw [List.mem_singleton.mp h]; exact hyn, hp6.same s68, But.tr b5 (But.tr b6 (UL.Same.but s68)), s68 _ _ (b6 _ _ hl5 (Ne.symm npl))⟩
        · obtain ⟨t, xs, z, rfl, ht, hxl, hxm, hp5, b5, hl5⟩ := inv
          walk_at "rd"
          obtain ⟨y, hy, hyn⟩ := atc (xs := fs) (r := (wh)) (by omega) (by omega)
          refine ixL (.inl (.inl (b5 _ _ hc (Ne.symm nc)))) hy ⟨by rw [sizeLine_eq]; decide, fun p9 hp9 => ?_⟩
          have hx3 : xs.length ≤ 3 := by omega
          have inCells : ∀ c ∈ Sk.src (.wr tg y xs) ++ Sk.tgt (.wr tg y xs), c ∈ cs := by
            intro c h
            simp only [Sk.src, Sk.tgt, List.nil_append, List.append_nil, List.mem_append, List.mem_singleton, or_self, List.cons_append, List.mem_cons, List.not_mem_nil, or_false] at h
            first
              | (rw [h]; assumption)
              | (rcases h with h | h <;> (rw [h]; assumption))
          exact q p9 (.wr tg y xs) _ (But.free' b5 hp5 hp9) ⟨t, upd_same, UL.Same.new hp9 _ _ ht⟩ (good_wr (ic _ htm) (iff _ hyn) (fun x hx => by rw [← ens]; exact hxm x hx) hx3) ⟨inCells, fun f n h => by cases h; exact ⟨(wh), by omega, hy, by rw [hm]; exact congrArg (fun z => some (V.int z)) (by omega)⟩⟩ (hp5.same (UL.Same.new hp9)) (But.tr b5 (UL.Same.but (UL.Same.new hp9)))
    · rw [if_pos (by simp [e2])]
      refine lenL (.inl (.inl (b1 _ _ ha (Ne.symm na)))) (drawI (by simp; omega) hp1 fun r1 H3 r10 r1l hp3 b3 => ?_)
      have b13 := But.tr b1 b3
      obtain ⟨sr, hsr, srm⟩ := atc (xs := cs) r10 (by simpa using r1l)
      refine ixL (.inl (.inl (b13 _ _ ha (Ne.symm na)))) hsr (lenL (.inl (.inl (b13 _ _ hb (Ne.symm nb)))) (drawI (by simp; omega) hp3 fun r2 H4 r20 r2l hp4 b4 => ?_))
      have b14 := But.tr b13 b4
      obtain ⟨lc, hlc, lcm⟩ := atc (xs := ws) r20 (by simpa using r2l)
      refine ixL (.inl (.inl (b14 _ _ hb (Ne.symm nb)))) hlc (eqII.mpr ⟨_, rfl, ?_⟩)
      by_cases e1 : kd = 1
      · rw [if_pos (by simp [e1])]
        refine fun p2 hp2 => ⟨by rw [sizeLine_eq]; decide, fun p3 hp3 => ?_⟩
        have s3 : Same H4 (upd (upd H4 p2 (.tup [])) p3 (.tup [.str sr, .str lc, .non, .non, .ref p2])) := Same.tr (UL.Same.new hp2) (UL.Same.new hp3)
        exact q p3 (.rd sr lc) _ (But.free' b14 hp4 (Same.free (UL.Same.new hp2) hp3)) ⟨p2, upd_same, UL.Same.new hp3 _ _ upd_same⟩ (good_rd (ic _ srm) (iw _ lcm)) ⟨fun c h => (have e : c = sr := (by simpa [Sk.src, Sk.tgt] using h); (by rw [e]; exact srm)), fun f n h => by cases h⟩ (hp4.same s3) (But.tr b14 (UL.Same.but s3))
      · rw [if_neg (by simp [e1])]
        refine neII.mpr ⟨_, rfl, ?_⟩
        by_cases e0 : kd = 0
        · rw [if_neg (by simp [e0])]
          refine ⟨d, _, rfl, .inl (.inl (.inl (b14 _ _ hd (Ne.symm nd)))), fun l hl0 => ⟨rfl, _, rfl, ?_⟩⟩
          rw [if_pos (by simp)]
          refine ⟨.inl ⟨rfl, _, .inl (.inl upd_same)⟩, l, _, _, rfl, rfl, upd_same, by rw [List.length_map, sizeLine_eq]; omega, ?_⟩
          rw [upd_upd]
          have en : kn.map V.str ++ [V.str lc] = (kn ++ [lc]).map V.str := by simp
          rw [en]
          have hl : upd H4 l (.lst ((kn ++ [lc]).map V.str)) l = some (.lst ((kn ++ [lc]).map V.str)) := upd_same
          have npl : p ≠ l := hp4.ne hl0
          have hpc : Pl (upd H4 l (.lst ((kn ++ [lc]).map V.str))) p := hp4.put npl
          have bc : But p H (upd H4 l (.lst ((kn ++ [lc]).map V.str))) := But.tr b14 (UL.Same.but (UL.Same.new hl0))
          generalize upd H4 l (.lst ((kn ++ [lc]).map V.str)) = Hc at hl hpc bc ⊢
          have hfl : ((kn ++ [lc]).map V.str).all fl3 = true := by
            rw [List.all_map, List.all_eq_true]
            exact fun x hx => nm_ok ((List.mem_append.mp hx).elim (ik x) fun h => by rw [List.mem_singleton.mp h]; exact iw _ lcm)
          obtain ⟨ns, ens⟩ : ∃ ns, ns = kn ++ [lc] := ⟨_, rfl⟩
          rw [← ens] at hl hfl
          refine lenL (.inl (.inl (bc _ _ hc (Ne.symm nc)))) (drawI (by simp; omega) hpc fun wh H2 w0 wlt hp2 b2 => fun p1 hp1' => ?_)
          have hl2 : H2 l = some (.lst (ns.map V.str)) := b2 _ _ hl (Ne.symm npl)
          have wl5 : wh < (fs.length : Int) := by simpa using wlt
          refine eqL3 (xs := ns.map V.str) (ys := []) hfl rfl (.inl (.inl (UL.Same.new hp1' _ _ hl2))) (.inl (.inl upd_same)) ⟨_, rfl, ?_⟩
          by_cases hnn : ns = []
          · rw [if_pos (by simp [hnn])]
            refine fun p2 hp2' => ⟨by rw [sizeLine_eq]; decide, fun p3 hp3 => ?_⟩
            obtain ⟨m, hm, m0, m3, mz⟩ := inp (1) (by omega) (by omega)
            have s3 : Same H2 (upd (upd (upd H2 p1 (.lst [])) p2 (.tup [])) p3 (.lst [V.int 1, .int 0, .int 2, .int 1, .int 3])) := Same.tr (Same.tr (UL.Same.new hp1') (UL.Same.new hp2')) (UL.Same.new hp3)
            refine ixL (.inl (.inl upd_same)) hm ⟨m, rfl, by omega, by omega, FJ.rangeI (fun i σ' H' => ∃ (t : Addr) (xs : List Str) (z : Option V), σ' = [some (.ref p), some (.ref a), some (.ref b), some (.ref c), some (.ref d), some (.int kd), some (V.str sr), some (V.str lc), some (V.str sr), some (.ref l), some (.int (1)), some (.ref t), z] ∧ H' t = some (.tup (xs.map V.str)) ∧ xs.length = i ∧ (∀ x ∈ xs, x ∈ ns) ∧ Pl H' p ∧ But p H H' ∧ H' l = some (.lst (ns.map V.str))) m0 ⟨p2, [], _, rfl, ?_, rfl, (fun _ h => by cases h), hp2.same s3, But.tr bc (But.tr b2 (UL.Same.but s3)), s3 _ _ hl2⟩ (fun i σ' H' hi inv => ?_) fun σ' H' inv => ?_⟩
            · exact UL.Same.new hp3 _ _ upd_same
            · obtain ⟨t, xs, z, rfl, ht, hxl, hxm, hp5, b5, hl5⟩ := inv
              walk_at "rd"
              have hns : ns ≠ [] := fun _ => by have := mz rfl; omega
              have hnl : 0 < ns.length := List.length_pos_iff.mpr hns
              refine lenL (.inl (.inl hl5)) (drawI (by simp; omega) hp5 fun r H6 r0 rl hp6 b6 => ?_)
              obtain ⟨y, hy, hyn⟩ := atc (xs := ns) r0 (by simpa using rl)
              refine ixL (.inl (.inl (b6 _ _ hl5 (Ne.symm npl)))) hy ⟨by rw [sizeLine_eq]; decide, fun p7 hp7 => ?_⟩
              have ntp : t ≠ p := fun e => by obtain ⟨ms, e2⟩ := hp5; rw [e, e2] at ht; cases ht
              refine catT (xs := xs.map V.str) (.inl (.inl (UL.Same.new hp7 _ _ (b6 _ _ ht ntp)))) upd_same (by simp) (by simp [sizeLine_eq]; omega) fun rr H8 hr8 s8 => ?_
              have s68 : Same H6 H8 := Same.tr (UL.Same.new hp7) s8
              exact ⟨rr, ⟨rfl, _, rfl⟩, xs ++ [y], by rw [hr8, List.map_append]; rfl, by simp; omega, fun x hx => (List.mem_append.mp hx).elim (hxm x) fun h => by rw [List.mem_singleton.mp h]; exact hyn, hp6.same s68, But.tr b5 (But.tr b6 (UL.Same.but s68)), s68 _ _ (b6 _ _ hl5 (Ne.symm npl))⟩
            · obtain ⟨t, xs, z, rfl, ht, hxl, hxm, hp5, b5, hl5⟩ := inv
              walk_at "rd"
              obtain ⟨y, hy, hyn⟩ := atc (xs := fs) (r := (1)) (by omega) (by omega)
              refine ixL (.inl (.inl (b5 _ _ hc (Ne.symm nc)))) hy ⟨by rw [sizeLine_eq]; decide, fun p9 hp9 => ?_⟩
              have hx3 : xs.length ≤ 3 := by omega
              have inCells : ∀ c ∈ Sk.src (.rw sr lc sr y xs) ++ Sk.tgt (.rw sr lc sr y xs), c ∈ cs := by
                intro c h
                simp only [Sk.src, Sk.tgt, List.nil_append, List.append_nil, List.mem_append, List.mem_singleton, or_self, List.cons_append, List.mem_cons, List.not_mem_nil, or_false] at h
                first
                  | (rw [h]; assumption)
                  | (rcases h with h | h <;> (rw [h]; assumption))
              exact q p9 (.rw sr lc sr y xs) _ (But.free' b5 hp5 hp9) ⟨t, upd_same, UL.Same.new hp9 _ _ ht⟩ (good_rw (ic _ srm) (iw _ lcm) (ic _ srm) (iff _ hyn) (fun x hx => by rw [← ens]; exact hxm x hx) hx3) ⟨inCells, fun f n h => by cases h; exact ⟨(1), by omega, hy, by rw [hm]; exact congrArg (fun z => some (V.int z)) (by omega)⟩⟩ (hp5.same (UL.Same.new hp9)) (But.tr b5 (UL.Same.but (UL.Same.new hp9)))
          · rw [if_neg (by simp [hnn])]
            refine fun p2 hp2' => ⟨by rw [sizeLine_eq]; decide, fun p3 hp3 => ?_⟩
            obtain ⟨m, hm, m0, m3, mz⟩ := inp (wh) (by omega) (by omega)
            have s3 : Same H2 (upd (upd (upd H2 p1 (.lst [])) p2 (.tup [])) p3 (.lst [V.int 1, .int 0, .int 2, .int 1, .int 3])) := Same.tr (Same.tr (UL.Same.new hp1') (UL.Same.new hp2')) (UL.Same.new hp3)
            refine ixL (.inl (.inl upd_same)) hm ⟨m, rfl, by omega, by omega, FJ.rangeI (fun i σ' H' => ∃ (t : Addr) (xs : List Str) (z : Option V), σ' = [some (.ref p), some (.ref a), some (.ref b), some (.ref c), some (.ref d), some (.int kd), some (V.str sr), some (V.str lc), some (V.str sr), some (.ref l), some (.int (wh)), some (.ref t), z] ∧ H' t = some (.tup (xs.map V.str)) ∧ xs.length = i ∧ (∀ x ∈ xs, x ∈ ns) ∧ Pl H' p ∧ But p H H' ∧ H' l = some (.lst (ns.map V.str))) m0 ⟨p2, [], _, rfl, ?_, rfl, (fun _ h => by cases h), hp2.same s3, But.tr bc (But.tr b2 (UL.Same.but s3)), s3 _ _ hl2⟩ (fun i σ' H' hi inv => ?_) fun σ' H' inv => ?_⟩
            · exact UL.Same.new hp3 _ _ upd_same
            · obtain ⟨t, xs, z, rfl, ht, hxl, hxm, hp5, b5, hl5⟩ := inv
              walk_at "rd"
              have hns : ns ≠ [] := hnn
              have hnl : 0 < ns.length := List.length_pos_iff.mpr hns
              refine lenL (.inl (.inl hl5)) (drawI (by simp; omega) hp5 fun r H6 r0 rl hp6 b6 => ?_)
              obtain ⟨y, hy, hyn⟩ := atc (xs := ns) r0 (by simpa using rl)
              refine ixL (.inl (.inl (b6 _ _ hl5 (Ne.symm npl)))) hy ⟨by rw [sizeLine_eq]; decide, fun p7 hp7 => ?_⟩
              have ntp : t ≠ p := fun e => by obtain ⟨ms, e2⟩ := hp5; rw [e, e2] at ht; cases ht
              refine catT (xs := xs.map V.str) (.inl (.inl (UL.Same.new hp7 _ _ (b6 _ _ ht ntp)))) upd_same (by simp) (by simp [sizeLine_eq]; omega) fun rr H8 hr8 s8 => ?_
              have s68 : Same H6 H8 := Same.tr (UL.Same.new hp7) s8
              exact ⟨rr, ⟨rfl, _, rfl⟩, xs ++ [y], by rw [hr8, List.map_append]; rfl, by simp; omega, fun x hx => (List.mem_append.mp hx).elim (hxm x) fun h => by rw [List.mem_singleton.mp h]; exact hyn, hp6.same s68, But.tr b5 (But.tr b6 (UL.Same.but s68)), s68 _ _ (b6 _ _ hl5 (Ne.symm npl))⟩
            · obtain ⟨t, xs, z, rfl, ht, hxl, hxm, hp5, b5, hl5⟩ := inv
              walk_at "rd"
              obtain ⟨y, hy, hyn⟩ := atc (xs := fs) (r := (wh)) (by omega) (by omega)
              refine ixL (.inl (.inl (b5 _ _ hc (Ne.symm nc)))) hy ⟨by rw [sizeLine_eq]; decide, fun p9 hp9 => ?_⟩
              have hx3 : xs.length ≤ 3 := by omega
              have inCells : ∀ c ∈ Sk.src (.rw sr lc sr y xs) ++ Sk.tgt (.rw sr lc sr y xs), c ∈ cs := by
                intro c h
                simp only [Sk.src, Sk.tgt, List.nil_append, List.append_nil, List.mem_append, List.mem_singleton, or_self, List.cons_append, List.mem_cons, List.not_mem_nil, or_false] at h
                first
                  | (rw [h]; assumption)
                  | (rcases h with h | h <;> (rw [h]; assumption))
              exact q p9 (.rw sr lc sr y xs) _ (But.free' b5 hp5 hp9) ⟨t, upd_same, UL.Same.new hp9 _ _ ht⟩ (good_rw (ic _ srm) (iw _ lcm) (ic _ srm) (iff _ hyn) (fun x hx => by rw [← ens]; exact hxm x hx) hx3) ⟨inCells, fun f n h => by cases h; exact ⟨(wh), by omega, hy, by rw [hm]; exact congrArg (fun z => some (V.int z)) (by omega)⟩⟩ (hp5.same (UL.Same.new hp9)) (But.tr b5 (UL.Same.but (UL.Same.new hp9)))
        · rw [if_pos (by simp [e0])]
          refine lenL (.inl (.inl (b14 _ _ ha (Ne.symm na)))) (drawI (by simp; omega) hp4 fun r3 H5 r30 r3l hp5' b5' => ?_)
          have b15 := But.tr b14 b5'
          obtain ⟨tg, htg, htm⟩ := atc (xs := cs) r30 (by simpa using r3l)
          refine ixL (.inl (.inl (b15 _ _ ha (Ne.symm na)))) htg ?_
          refine ⟨d, _, rfl, .inl (.inl (.inl (b15 _ _ hd (Ne.symm nd)))), fun l hl0 => ⟨rfl, _, rfl, ?_⟩⟩
          rw [if_pos (by simp)]
          refine ⟨.inl ⟨rfl, _, .inl (.inl upd_same)⟩, l, _, _, rfl, rfl, upd_same, by rw [List.length_map, sizeLine_eq]; omega, ?_⟩
          rw [upd_upd]
          have en : kn.map V.str ++ [V.str lc] = (kn ++ [lc]).map V.str := by simp
          rw [en]
          have hl : upd H5 l (.lst ((kn ++ [lc]).map V.str)) l = some (.lst ((kn ++ [lc]).map V.str)) := upd_same
          have npl : p ≠ l := hp5'.ne hl0
          have hpc : Pl (upd H5 l (.lst ((kn ++ [lc]).map V.str))) p := hp5'.put npl
          have bc : But p H (upd H5 l (.lst ((kn ++ [lc]).map V.str))) := But.tr b15 (UL.Same.but (UL.Same.new hl0))
          generalize upd H5 l (.lst ((kn ++ [lc]).map V.str)) = Hc at hl hpc bc ⊢
          have hfl : ((kn ++ [lc]).map V.str).all fl3 = true := by
            rw [List.all_map, List.all_eq_true]
            exact fun x hx => nm_ok ((List.mem_append.mp hx).elim (ik x) fun h => by rw [List.mem_singleton.mp h]; exact iw _ lcm)
          obtain ⟨ns, ens⟩ : ∃ ns, ns = kn ++ [lc] := ⟨_, rfl⟩
          rw [← ens] at hl hfl
          refine lenL (.inl (.inl (bc _ _ hc (Ne.symm nc)))) (drawI (by simp; omega) hpc fun wh H2 w0 wlt hp2 b2 => fun p1 hp1' => ?_)
          have hl2 : H2 l = some (.lst (ns.map V.str)) := b2 _ _ hl (Ne.symm npl)
          have wl5 : wh < (fs.length : Int) := by simpa using wlt
          refine eqL3 (xs := ns.map V.str) (ys := []) hfl rfl (.inl (.inl (UL.Same.new hp1' _ _ hl2))) (.inl (.inl upd_same)) ⟨_, rfl, ?_⟩
          by_cases hnn : ns = []
          · rw [if_pos (by simp [hnn])]
            refine fun p2 hp2' => ⟨by rw [sizeLine_eq]; decide, fun p3 hp3 => ?_⟩
            obtain ⟨m, hm, m0, m3, mz⟩ := inp (1) (by omega) (by omega)
            have s3 : Same H2 (upd (upd (upd H2 p1 (.lst [])) p2 (.tup [])) p3 (.lst [V.int 1, .int 0, .int 2, .int 1, .int 3])) := Same.tr (Same.tr (UL.Same.new hp1') (UL.Same.new hp2')) (UL.Same.new hp3)
            refine ixL (.inl (.inl upd_same)) hm ⟨m, rfl, by omega, by omega, FJ.rangeI (fun i σ' H' => ∃ (t : Addr) (xs : List Str) (z : Option V), σ' = [some (.ref p), some (.ref a), some (.ref b), some (.ref c), some (.ref d), some (.int kd), some (V.str sr), some (V.str lc), some (V.str tg), some (.ref l), some (.int (1)), some (.ref t), z] ∧ H' t = some (.tup (xs.map V.str)) ∧ xs.length = i ∧ (∀ x ∈ xs, x ∈ ns) ∧ Pl H' p ∧ But p H H' ∧ H' l = some (.lst (ns.map V.str))) m0 ⟨p2, [], _, rfl, ?_, rfl, (fun _ h => by cases h), hp2.same s3, But.tr bc (But.tr b2 (UL.Same.but s3)), s3 _ _ hl2⟩ (fun i σ' H' hi inv => ?_) fun σ' H' inv => ?_⟩
            · exact UL.Same.new hp3 _ _ upd_same
            · obtain ⟨t, xs, z, rfl, ht, hxl, hxm, hp5, b5, hl5⟩ := inv
              walk_at "rd"
              have hns : ns ≠ [] := fun _ => by have := mz rfl; omega
              have hnl : 0 < ns.length := List.length_pos_iff.mpr hns
              refine lenL (.inl (.inl hl5)) (drawI (by simp; omega) hp5 fun r H6 r0 rl hp6 b6 => ?_)
              obtain ⟨y, hy, hyn⟩ := atc (xs := ns) r0 (by simpa using rl)
              refine ixL (.inl (.inl (b6 _ _ hl5 (Ne.symm npl)))) hy ⟨by rw [sizeLine_eq]; decide, fun p7 hp7 => ?_⟩
              have ntp : t ≠ p := fun e => by obtain ⟨ms, e2⟩ := hp5; rw [e, e2] at ht; cases ht
              refine catT (xs := xs.map V.str) (.inl (.inl (UL.Same.new hp7 _ _ (b6 _ _ ht ntp)))) upd_same (by simp) (by simp [sizeLine_eq]; omega) fun rr H8 hr8 s8 => ?_
              have s68 : Same H6 H8 := Same.tr (UL.Same.new hp7) s8
              exact ⟨rr, ⟨rfl, _, rfl⟩, xs ++ [y], by rw [hr8, List.map_append]; rfl, by simp; omega, fun x hx => (List.mem_append.mp hx).elim (hxm x) fun h => by rw [List.mem_singleton.mp h]; exact hyn, hp6.same s68, But.tr b5 (But.tr b6 (UL.Same.but s68)), s68 _ _ (b6 _ _ hl5 (Ne.symm npl))⟩
            · obtain ⟨t, xs, z, rfl, ht, hxl, hxm, hp5, b5, hl5⟩ := inv
              walk_at "rd"
              obtain ⟨y, hy, hyn⟩ := atc (xs := fs) (r := (1)) (by omega) (by omega)
              refine ixL (.inl (.inl (b5 _ _ hc (Ne.symm nc)))) hy ⟨by rw [sizeLine_eq]; decide, fun p9 hp9 => ?_⟩
              have hx3 : xs.length ≤ 3 := by omega
              have inCells : ∀ c ∈ Sk.src (.rw sr lc tg y xs) ++ Sk.tgt (.rw sr lc tg y xs), c ∈ cs := by
                intro c h
                simp only [Sk.src, Sk.tgt, List.nil_append, List.append_nil, List.mem_append, List.mem_singleton, or_self, List.cons_append, List.mem_cons, List.not_mem_nil, or_false] at h
                first
                  | (rw [h]; assumption)
                  | (rcases h with h | h <;> (rw [h]; assumption))
              exact q p9 (.rw sr lc tg y xs) _ (But.free' b5 hp5 hp9) ⟨t, upd_same, UL.Same.new hp9 _ _ ht⟩ (good_rw (ic _ srm) (iw _ lcm) (ic _ htm) (iff _ hyn) (fun x hx => by rw [← ens]; exact hxm x hx) hx3) ⟨inCells, fun f n h => by cases h; exact ⟨(1), by omega, hy, by rw [hm]; exact congrArg (fun z => some (V.int z)) (by omega)⟩⟩ (hp5.same (UL.Same.new hp9)) (But.tr b5 (UL.Same.but (UL.Same.new hp9)))
          · rw [if_neg (by simp [hnn])]
            refine fun p2 hp2' => ⟨by rw [sizeLine_eq]; decide, fun p3 hp3 => ?_⟩
            obtain ⟨m, hm, m0, m3, mz⟩ := inp (wh) (by omega) (by omega)
            have s3 : Same H2 (upd (upd (upd H2 p1 (.lst [])) p2 (.tup [])) p3 (.lst [V.int 1, .int 0, .int 2, .int 1, .int 3])) := Same.tr (Same.tr (UL.Same.new hp1') (UL.Same.new hp2')) (UL.Same.new hp3)
            refine ixL (.inl (.inl upd_same)) hm ⟨m, rfl, by omega, by omega, FJ.rangeI (fun i σ' H' => ∃ (t : Addr) (xs : List Str) (z : Option V), σ' = [some (.ref p), some (.ref a), some (.ref b), some (.ref c), some (.ref d), some (.int kd), some (V.str sr), some (V.str lc), some (V.str tg), some (.ref l), some (.int (wh)), some (.ref t), z] ∧ H' t = some (.tup (xs.map V.str)) ∧ xs.length = i ∧ (∀ x ∈ xs, x ∈ ns) ∧ Pl H' p ∧ But p H H' ∧ H' l = some (.lst (ns.map V.str))) m0 ⟨p2, [], _, rfl, ?_, rfl, (fun _ h => by cases h), hp2.same s3, But.tr bc (But.tr b2 (UL.Same.but s3)), s3 _ _ hl2⟩ (fun i σ' H' hi inv => ?_) fun σ' H' inv => ?_⟩
            · exact UL.Same.new hp3 _ _ upd_same
            · obtain ⟨t, xs, z, rfl, ht, hxl, hxm, hp5, b5, hl5⟩ := inv
              walk_at "rd"
              have hns : ns ≠ [] := hnn
              have hnl : 0 < ns.length := List.length_pos_iff.mpr hns
              refine lenL (.inl (.inl hl5)) (drawI (by simp; omega) hp5 fun r H6 r0 rl hp6 b6 => ?_)
              obtain ⟨y, hy, hyn⟩ := atc (xs := ns) r0 (by simpa using rl)
              refine ixL (.inl (.inl (b6 _ _ hl5 (Ne.symm npl)))) hy ⟨by rw [sizeLine_eq]; decide, fun p7 hp7 => ?_⟩
              have ntp : t ≠ p := fun e => by obtain ⟨ms, e2⟩ := hp5; rw [e, e2] at ht; cases ht
              refine catT (xs := xs.map V.str) (.inl (.inl (UL.Same.new hp7 _ _ (b6 _ _ ht ntp)))) upd_same (by simp) (by simp [sizeLine_eq]; omega) fun rr H8 hr8 s8 => ?_
              have s68 : Same H6 H8 := Same.tr (UL.Same.new hp7) s8
              exact ⟨rr, ⟨rfl, _, rfl⟩, xs ++ [y], by rw [hr8, List.map_append]; rfl, by simp; omega, fun x hx => (List.mem_append.mp hx).elim (hxm x) fun h => by rw [List.mem_singleton.mp h]; exact hyn, hp6.same s68, But.tr b5 (But.tr b6 (UL.Same.but s68)), s68 _ _ (b6 _ _ hl5 (Ne.symm npl))⟩
            · obtain ⟨t, xs, z, rfl, ht, hxl, hxm, hp5, b5, hl5⟩ := inv
              walk_at "rd"
              obtain ⟨y, hy, hyn⟩ := atc (xs := fs) (r := (wh)) (by omega) (by omega)
              refine ixL (.inl (.inl (b5 _ _ hc (Ne.symm nc)))) hy ⟨by rw [sizeLine_eq]; decide, fun p9 hp9 => ?_⟩
              have hx3 : xs.length ≤ 3 := by omega
              have inCells : ∀ c ∈ Sk.src (.rw sr lc tg y xs) ++ Sk.tgt (.rw sr lc tg y xs), c ∈ cs := by
                intro c h
                simp only [Sk.src, Sk.tgt, List.nil_append, List.append_nil, List.mem_append, List.mem_singleton, or_self, List.cons_append, List.mem_cons, List.not_mem_nil, or_false] at h
                first
                  | (rw [h]; assumption)
                  | (rcases h with h | h <;> (rw [h]; assumption))
              exact q p9 (.rw sr lc tg y xs) _ (But.free' b5 hp5 hp9) ⟨t, upd_same, UL.Same.new hp9 _ _ ht⟩ (good_rw (ic _ srm) (iw _ lcm) (ic _ htm) (iff _ hyn) (fun x hx => by rw [← ens]; exact hxm x hx) hx3) ⟨inCells, fun f n h => by cases h; exact ⟨(wh), by omega, hy, by rw [hm]; exact congrArg (fun z => some (V.int z)) (by omega)⟩⟩ (hp5.same (UL.Same.new hp9)) (But.tr b5 (UL.Same.but (UL.Same.new hp9)))
end
end U
set_option Elab.async false
set_option linter.all false
set_option maxRecDepth 100000
set_option maxHeartbeats 4000000
set_option pp.deepTerms true
set_option pp.maxSteps 400000
namespace U
open PySem PySem.Spec PyProof.Rows L2 UL UX
local macro_rules | `(tactic| walk_at "rd") => `(tactic| simp only [sMatch, tJs, tFmt, tBC, tMethA, tMakeL, iEnumS, tSeq, tAsg, tOp, tCB, tCons, tNil, tVar, tC, tB, tTest, tNot, tIfS, tNext, tYes, tUn, rU, tM0, tGFrom, tGThen, tG0, tYfLst, gcxK, tSubO, tProp, tListG, tMethG, tBMF, tFld, sFld, tMeth, tMake, tSl, tNoPart, tPart, tM1, gTup, gCons, gNil, tDrop, tFor_eq, tLc_eq, tLc2_eq, iRng1_eq, StX.tStar, iList, iTup, iStr, iAny_var, iZipB, tLenSetS, wipe, tVar, tAndV, tOrV, tNotV, tOr, tAnd, tLst, tTup, tBM, tBM0, tChain, tCall, cxK, noxK, addII, addSS, mulII, eqII, neII, neSS, cIntI, cAbsI, rI, rI0, rLt, rLe, rGt_, rGe_, rSub_, rMod, rPow, rDivW, rNeg, gName, tRet, L2.start, List.length_cons, List.length_nil, List.map_cons, List.map_nil, List.replicate, List.cons_append, List.nil_append, List.getElem?_cons_zero, List.getElem?_cons_succ, List.set_cons_zero, List.set_cons_succ, Option.some.injEq, exists_eq_left', exists_eq_left, V.int.injEq, V.bl.injEq, V.str.injEq, V.ref.injEq, V.ty.injEq, List.cons.injEq, and_true, true_and, reduceCtorEq, false_and, exists_false, or_false, false_or, exists_and_left, exists_and_right, List.append_nil, forall_eq, decide_eq_true_eq, Bool.not_eq_true, Nat.reduceAdd, Nat.reduceSub, List.replicate_zero, List.replicate_succ, Nat.zero_le, ite_true, ite_false, if_true, if_false])
section
variable {P : Program} {w : World} {K : PySem.W.Frag} {mg : Str → Option Value} {base : Heap}
open UW
variable {R Wr B Pg : Addr}
def GoodS : List Str → List Sk → Prop
  | _, [] => True
  | kn, k :: r => Good kn k ∧ GoodS (kn ++ k.loc) r
def locs (ks : List Sk) : List Str := ks.flatMap Sk.loc
theorem GoodS.snoc : ∀ {ks : List Sk} {kn : List Str} {k : Sk}, GoodS kn ks → Good (kn ++ locs ks) k → GoodS kn (ks ++ [k])
  | [], kn, k, _, h => ⟨by simpa [locs] using h, trivial⟩
  | k0 :: r, kn, k, ⟨h0, hr⟩, h => ⟨h0, GoodS.snoc hr (by simpa [locs] using h)⟩
theorem RowA.same {H H' : Hp} {a : Addr} {k : Sk} (s : Same H H') (h : RowA H a k) : RowA H' a k := let ⟨e, x, y⟩ := h; ⟨e, s _ _ x, s _ _ y⟩
theorem RowA.but {H H' : Hp} {a p : Addr} {k : Sk} (hp : Pl H p) (s : But p H H') (h : RowA H a k) : RowA H' a k := by
  obtain ⟨e, x, y⟩ := h
  obtain ⟨ms, hm⟩ := hp
  exact ⟨e, s _ _ x (fun q => by rw [q, hm] at x; cases x), s _ _ y (fun q => by rw [q, hm] at y; cases y)⟩
theorem RowA.put {H : Hp} {a p : Addr} {zs : List V} {o : HO} {k : Sk} (hp : H p = some (.lst zs)) (h : RowA H a k) : RowA (upd H p o) a k := by
  obtain ⟨e, x, y⟩ := h
  exact ⟨e, by rw [upd_ne (fun q => by rw [q, hp] at x; cases x)]; exact x, by rw [upd_ne (fun q => by rw [q, hp] at y; cases y)]; exact y⟩
theorem locs_len : ∀ ks : List Sk, (locs ks).length ≤ ks.length
  | [] => Nat.le_refl _
  | k :: r => by
    have h := locs_len r
    have e : k.loc.length ≤ 1 := by cases k <;> simp [Sk.loc]
    show (k.loc ++ locs r).length ≤ _
    rw [List.length_append, List.length_cons]
    omega
theorem GoodS.nm : ∀ {ks : List Sk} {kn : List Str}, GoodS kn ks → ∀ z ∈ locs ks, isNm z
  | [], _, _, _, h => by cases h
  | k :: r, kn, ⟨h0, hr⟩, z, h => by
    have h : z ∈ k.loc ++ locs r := h
    rcases List.mem_append.mp h with h | h
    · exact h0.1 z (by simp [h])
    · exact GoodS.nm hr z h
abbrev s__law_steps : Stmt := top 55
abbrev sc__law_steps_N : List Str := ["_law_pool_here", "_law_cells_here", "_law_words", "_law_functions_here", "_law_count", "_law_steps_here", "_law_known", "_law_k", "_law_step_here"]
theorem sc__law_steps : FnScope sc__law_steps_N ["_law_pool_here", "_law_cells_here", "_law_words", "_law_functions_here", "_law_count"] (defScope s__law_steps) := ⟨rfl, rfl, rfl, by decide +kernel, rfl, by decide +kernel, by decide +kernel⟩
-- 0 _law_pool_here, 1 _law_cells_here, 2 _law_words, 3 _law_functions_here, 4 _law_count, 5 _law_steps_here, 6 _law_known, 7 _law_k, 8 _law_step_here
def sp_lsteps (K : PySem.W.Frag) : Sp := fun vs H Q _ => ∃ (p a b c : Addr) (n : Nat) (cs ws fs : List Str), vs = [.ref p, .ref a, .ref b, .ref c, .int n] ∧ n ≤ 4 ∧ Pl H p ∧ H a = some (.lst (cs.map V.str)) ∧ H b = some (.lst (ws.map V.str)) ∧ H c = some (.lst (fs.map V.str)) ∧ p ≠ a ∧ p ≠ b ∧ p ≠ c ∧
  1 ≤ cs.length ∧ cs.length ≤ 3 ∧ 1 ≤ ws.length ∧ ws.length ≤ 3 ∧ 2 ≤ fs.length ∧ fs.length ≤ 5 ∧ (∀ z ∈ cs, isNm z) ∧ (∀ z ∈ ws, isNm z) ∧ (∀ z ∈ fs, isNm z) ∧
  ∀ r ks rs H', H r = none → H' r = some (.lst (rs.map V.ref)) → Paired (fun t k => RowA H' t k) rs ks → GoodS [] ks → (∀ k ∈ ks, InS cs fs k) → ks.length = n → Pl H' p → But p H H' → Q (.ref r) H'
theorem d_lsteps (T : Nm mg) (D : TD K mg "_law_steps" s__law_steps) (d__law_step : Dn P w K mg base CX0 2 "_law_step" (sp_lstep K)) : Dn P w K mg base CX0 3 "_law_steps" (sp_lsteps K) := by
  refine D.dn sc__law_steps (fun _ _ _ _ _ _ us hl => match us, hl with | [_, _, _, _, _], _ => rfl) (fun vs H Q E h => ?_) (fun f cdv A outer s H vs Q E hr h => ?_)
  · obtain ⟨p, a, b, c, n, cs, ws, fs, rfl, _⟩ := h; rfl
  · obtain ⟨p, a, b, c, n, cs, ws, fs, rfl, hn, hp, ha, hb, hc, na, nb, nc, c1, c3, w1, w3, f2, f5, ic, iw, iff, q⟩ := h
    refine ⟨_, (pss_cons (ps_set (i := 5) sc__law_steps.nd rfl (Or.inl rfl) (pe_lst pa_nil))
      (pss_cons (ps_set (i := 6) sc__law_steps.nd rfl (Or.inl rfl) (pe_lst pa_nil))
      (pss_cons (ps_for PassesOwn.never rfl (pi_range1 (by rfl) T.n_range (pa_cons (pv 4) pa_nil)) (pg_name (i := 7) sc__law_steps.nd rfl (Or.inl rfl)) (pss_cons (ps_set (i := 8) sc__law_steps.nd rfl (Or.inl rfl) (pe_d d__law_step hr (by decide) pass0 (by rfl) (pa_cons (pv 0) (pa_cons (pv 1) (pa_cons (pv 2) (pa_cons (pv 3) (pa_cons (pv 6) pa_nil)))))))
      (pss_cons (ps_if (pt_cmpR op_notNone (pe_ix ix_seq (pv 8) pe_int (fun _ _ => rfl)) pe_non (nomark _)) (pss_one (ps_expr (pe_bm PySem.F.plainAttrs_list PySem.F.slot_list_append PySem.F.type_list_append mt_append (pv 6) (pa_cons (pe_ix ix_seq (pv 8) pe_int (fun _ _ => rfl)) pa_nil)))) pss_nil)
      (pss_one (ps_expr (pe_bm PySem.F.plainAttrs_list PySem.F.slot_list_append PySem.F.type_list_append mt_append (pv 5) (pa_cons (pv 8) pa_nil)))))))
      (pss_one (ps_ret (pv 5)))))), ?_⟩
    walk_at "rd"
    refine fun l1 hl1 l2 hl2 => ⟨by omega, by omega, ?_⟩
    have n12 : l1 ≠ l2 := ne_of_none upd_same hl2
    have hl2H : H l2 = none := by rw [upd_ne (Ne.symm n12)] at hl2; exact hl2
    have np1 := hp.ne hl1
    have np2 := hp.ne hl2H
    have s0 : Same H (upd (upd H l1 (.lst [])) l2 (.lst [])) := Same.tr (UL.Same.new hl1) (UL.Same.new hl2)
    refine FJ.rangeI (fun i σ' H' => ∃ (rs : List Addr) (ks : List Sk) (z1 z2 : Option V), σ' = [some (.ref p), some (.ref a), some (.ref b), some (.ref c), some (.int n), some (.ref l1), some (.ref l2), z1, z2] ∧ H' l1 = some (.lst (rs.map V.ref)) ∧ H' l2 = some (.lst ((locs ks).map V.str)) ∧ Paired (fun t k => RowA H' t k) rs ks ∧ (GoodS [] ks ∧ ∀ k ∈ ks, InS cs fs k) ∧ ks.length = i ∧ Pl H' p ∧ But p H H') (by omega) ⟨[], [], _, _, rfl, by rw [upd_ne n12]; exact upd_same, upd_same, .nil, ⟨trivial, fun k hk => by cases hk⟩, rfl, hp.same s0, UL.Same.but s0⟩ (fun i σ' H' hi inv => ?_) fun σ' H' inv => ?_
    · obtain ⟨rs, ks, z1, z2, rfl, h1, h2, hk, hg, hki, hp', bt⟩ := inv
      walk_at "rd"
      have ll := locs_len ks
      refine ⟨p, a, b, c, l2, cs, ws, fs, locs ks, rfl, hp', bt _ _ ha (Ne.symm na), bt _ _ hb (Ne.symm nb), bt _ _ hc (Ne.symm nc), h2, na, nb, nc, np2, c1, c3, w1, w3, f2, f5, by omega, ic, iw, iff, fun z hz => hg.1.nm z hz, fun r k H1 hr0 hrow hgood hins hp1 b1 => ?_⟩
      have h1' := b1 _ _ h1 (Ne.symm np1)
      have h2' := b1 _ _ h2 (Ne.symm np2)
      have hk1 : Paired (fun t k => RowA H1 t k) (rs ++ [r]) (ks ++ [k]) := (L2.Paired.mapP hk fun _ _ g => RowA.but hp' b1 g).snoc hrow
      have hg1 : GoodS [] (ks ++ [k]) ∧ ∀ k' ∈ ks ++ [k], InS cs fs k' := ⟨hg.1.snoc (by simpa using hgood), fun k' h => (List.mem_append.mp h).elim (hg.2 k') fun h => by rw [List.mem_singleton.mp h]; exact hins⟩
      have bt1 := But.tr bt b1
      have rl : rs.length = ks.length := hk.length
      have fin : ∀ (kn2 : List Str) (H5 : Hp), H5 l1 = some (.lst (rs.map V.ref)) → H5 l2 = some (.lst (kn2.map V.str)) → kn2 = locs (ks ++ [k]) → Paired (fun t k => RowA H5 t k) (rs ++ [r]) (ks ++ [k]) → Pl H5 p → But p H H5 →
          upd H5 l1 (.lst (rs.map V.ref ++ [V.ref r])) l1 = some (.lst ((rs ++ [r]).map V.ref)) ∧ upd H5 l1 (.lst (rs.map V.ref ++ [V.ref r])) l2 = some (.lst ((locs (ks ++ [k])).map V.str)) ∧ Paired (fun t k => RowA (upd H5 l1 (.lst (rs.map V.ref ++ [V.ref r]))) t k) (rs ++ [r]) (ks ++ [k]) ∧ Pl (upd H5 l1 (.lst (rs.map V.ref ++ [V.ref r]))) p ∧ But p H (upd H5 l1 (.lst (rs.map V.ref ++ [V.ref r]))) := fun kn2 H5 e1 e2 ek pr pl b5 =>
        ⟨by rw [upd_same, List.map_append]; rfl, by rw [upd_ne (Ne.symm n12), e2, ek], L2.Paired.mapP pr fun _ _ g => RowA.put e1 g, pl.put np1, UL.But.put b5 hl1⟩
      obtain ⟨e, hr1, he⟩ := hrow
      have ix : ∀ {v : V} {Q : VK}, (rowV k e)[1]? = some v → Q v H1 → rIx K (.ref r) (.int 1) H1 Q := fun {v Q} h hq => ixT (.inl (.inl hr1)) (show atI _ ((1 : Nat) : Int) = some v from atN h) hq
      cases k with
      | wr t fn xs =>
        refine ix rfl ⟨rfl, _, rfl, ?_⟩
        rw [if_neg (by simp)]
        obtain ⟨g1, g2, g3, g4, g5⟩ := fin (locs ks) H1 h1' h2' (by simp [locs, Sk.loc]) hk1 hp1 bt1
        exact ⟨.inl ⟨rfl, _, .inl (.inl h1')⟩, l1, _, _, rfl, rfl, h1', by rw [List.length_map, sizeLine_eq]; omega, ⟨_, rfl⟩, rs ++ [r], g1, ks ++ [.wr t fn xs], g2, g3, hg1, by simp; omega, g4, g5⟩
      | rd sr l =>
        refine ix rfl ⟨rfl, _, rfl, ?_⟩
        rw [if_pos (by simp)]
        have pr5 : Paired (fun t k => RowA (upd H1 l2 (.lst ((locs ks).map V.str ++ [V.str l]))) t k) (rs ++ [r]) (ks ++ [.rd sr l]) := L2.Paired.mapP hk1 fun _ _ g => RowA.put h2' g
        have e5 : upd H1 l2 (.lst ((locs ks).map V.str ++ [V.str l])) l1 = some (.lst (rs.map V.ref)) := by rw [upd_ne n12]; exact h1'
        obtain ⟨g1, g2, g3, g4, g5⟩ := fin (locs ks ++ [l]) (upd H1 l2 (.lst ((locs ks).map V.str ++ [V.str l]))) e5 (by rw [upd_same, List.map_append]; rfl) (by simp [locs, Sk.loc]) pr5 (hp1.put np2) (UL.But.put bt1 hl2H)
        refine ⟨.inl ⟨rfl, _, .inl (.inl h2')⟩, ix rfl ⟨l2, _, _, rfl, rfl, h2', by rw [List.length_map, sizeLine_eq]; omega, ?_⟩⟩
        exact ⟨.inl ⟨rfl, _, .inl (.inl e5)⟩, l1, _, _, rfl, rfl, e5, by rw [List.length_map, sizeLine_eq]; omega, ⟨_, rfl⟩, rs ++ [r], g1, ks ++ [.rd sr l], g2, g3, hg1, by simp; omega, g4, g5⟩
      | rw sr l t fn xs =>
        refine ix rfl ⟨rfl, _, rfl, ?_⟩
        rw [if_pos (by simp)]
        have pr5 : Paired (fun t k => RowA (upd H1 l2 (.lst ((locs ks).map V.str ++ [V.str l]))) t k) (rs ++ [r]) (ks ++ [.rw sr l t fn xs]) := L2.Paired.mapP hk1 fun _ _ g => RowA.put h2' g
        have e5 : upd H1 l2 (.lst ((locs ks).map V.str ++ [V.str l])) l1 = some (.lst (rs.map V.ref)) := by rw [upd_ne n12]; exact h1'
        obtain ⟨g1, g2, g3, g4, g5⟩ := fin (locs ks ++ [l]) (upd H1 l2 (.lst ((locs ks).map V.str ++ [V.str l]))) e5 (by rw [upd_same, List.map_append]; rfl) (by simp [locs, Sk.loc]) pr5 (hp1.put np2) (UL.But.put bt1 hl2H)
        refine ⟨.inl ⟨rfl, _, .inl (.inl h2')⟩, ix rfl ⟨l2, _, _, rfl, rfl, h2', by rw [List.length_map, sizeLine_eq]; omega, ?_⟩⟩
        exact ⟨.inl ⟨rfl, _, .inl (.inl e5)⟩, l1, _, _, rfl, rfl, e5, by rw [List.length_map, sizeLine_eq]; omega, ⟨_, rfl⟩, rs ++ [r], g1, ks ++ [.rw sr l t fn xs], g2, g3, hg1, by simp; omega, g4, g5⟩
    · obtain ⟨rs, ks, z1, z2, rfl, h1, h2, hk, hg, hki, hp', bt⟩ := inv
      walk_at "rd"
      exact q l1 ks rs _ hl1 h1 hk hg.1 hg.2 (by omega) hp' bt
abbrev s__law_text : Stmt := top 61
abbrev sc__law_text_N : List Str := ["_law_name", "_law_steps_here", ".0", "_law_step_here"]
theorem sc__law_text : FnScope sc__law_text_N ["_law_name", "_law_steps_here"] (defScope s__law_text) := ⟨rfl, rfl, rfl, by decide +kernel, rfl, by decide +kernel, by decide +kernel⟩
-- 0 _law_name, 1 _law_steps_here, 2 .0, 3 _law_step_here
def sp_ltext : Sp := fun vs H Q _ => ∃ (n : Str) (r : Addr) (rs : List Addr) (ks : List Sk), vs = [.str n, .ref r] ∧ n.length ≤ 8 ∧ H r = some (.lst (rs.map V.ref)) ∧ Paired (fun t k => RowA H t k) rs ks ∧ ks.length ≤ 4 ∧ (∀ k ∈ ks, k.small ∧ k.args.length ≤ 3 ∧ ∀ x ∈ k.args, PyData.strOk x = true) ∧
  ∀ H', Same H H' → Q (.str (Txt.join "\n" (("program " ++ n) :: ks.map fun k => Txt.join " " k.words))) H'
theorem d_ltext (T : Nm mg) (D : TD K mg "_law_text" s__law_text) (d__law_line : Dn P w K mg base CX0 1 "_law_line" sp_line) : Dn P w K mg base CX0 2 "_law_text" sp_ltext := by
  refine D.dn sc__law_text (fun _ _ _ _ _ _ us hl => match us, hl with | [_, _], _ => rfl) (fun vs H Q E h => ?_) (fun f cdv A outer s H vs Q E hr h => ?_)
  · obtain ⟨n, r, rs, ks, rfl, _⟩ := h; rfl
  · obtain ⟨n, r, rs, ks, rfl, hn, hrr, hk, hl, hs, q⟩ := h
    refine ⟨_, (pss_one (ps_ret (pe_join pe_str (pe_op op_addA (pe_lst (pa_cons (pe_op op_addA pe_str (pv 0)) pa_nil)) (pe_lc (own := [(".0", 2), ("_law_step_here", 3)]) (g := (gName 3)) (tt := tYes) rfl sc__law_text.nd (pi_list (pv 1)) (blkOk_by (N := sc__law_text_N) (sc := defScope s__law_text) (by decide +kernel)) (fun _ _ _ _ _ => pg_name (i := 3) sc__law_text.nd rfl (Or.inl rfl)) (fun _ _ _ _ _ => pts_nil) (fun _ _ _ _ _ => (pe_d d__law_line hr (by decide) pass0 (by rfl) (pa_cons (pv 3) pa_nil)))))))), ?_⟩
    walk_at "rd"
    have l8 : ("program " : Str).length = 8 := by decide +kernel
    have l1 : ("\n" : Str).length = 1 := by decide +kernel
    have rl : rs.length = ks.length := hk.length
    refine ⟨⟨_, rfl⟩, by rw [l8, sizeLine_eq]; omega, by rw [sizeLine_eq]; decide, fun p hp => ⟨⟨_, .inl (.inl (UL.Same.new hp _ _ hrr))⟩, fun D hD => ?_⟩⟩
    have npD := ne_of_none upd_same hD
    have hDH : H D = none := Same.free (UL.Same.new hp) hD
    refine LJ.it (walk_list (xs := rs.map V.ref)) (fun i H' => H' p = some (.lst [V.str ("program " ++ n)]) ∧ H' D = some (.lst (((ks.take i).map fun k => Txt.join " " k.words).map V.str)) ∧ Same H H') ⟨by rw [upd_ne npD]; exact upd_same, upd_same, Same.tr (UL.Same.new hp) (UL.Same.new hD)⟩ (fun i H' _ inv => .inl (.inl (inv.2.2 _ _ hrr))) (fun i x H1 H2 hi inv yy => ?_) fun H2 inv => ?_
    · obtain ⟨e1, e2, sm⟩ := inv
      obtain ⟨rfl, hx⟩ := yy
      obtain ⟨t, hti, rfl⟩ : ∃ t, rs[i]? = some t ∧ x = V.ref t := by
        rw [List.getElem?_map] at hx
        cases e : rs[i]? with
        | none => rw [e] at hx; cases hx
        | some t => rw [e] at hx; cases hx; exact ⟨t, rfl, rfl⟩
      obtain ⟨k, hki, gk⟩ := pr_at hk hti
      refine ⟨rfl, ?_⟩
      walk_at "rd"
      obtain ⟨k1, k2, k3⟩ := hs k (List.mem_of_getElem? hki)
      refine ⟨t, k, rfl, RowA.same sm gk, k1, k2, k3, fun H5 s5 => ⟨_, s5 _ _ e2, by simp [sizeLine_eq]; omega, ?_, ?_, UL.Same.put (Same.tr sm s5) hDH⟩⟩
      · rw [upd_ne npD]; exact s5 _ _ e1
      · rw [upd_same, List.take_add_one, hki]; simp
    · obtain ⟨e1, e2, sm⟩ := inv
      rw [List.length_map, rl, List.take_length] at e2
      refine .inr (.inr (.inr ⟨p, D, _, _, rfl, rfl, e1, e2, by simp [sizeLine_eq]; omega, fun r2 hr2 => ⟨r2, rfl, (("program " ++ n) :: ks.map fun k => Txt.join " " k.words), .inl (.inl (.inl (by rw [upd_same]; simp))), ?_, q _ (UL.Same.put sm (Same.free sm hr2))⟩⟩))
      have hb : ∀ y ∈ (("program " ++ n) :: ks.map fun k => Txt.join " " k.words), y.length ≤ 100000 := fun y hy => by
        rcases List.mem_cons.mp hy with rfl | hy
        · rw [len_app, l8]; omega
        · obtain ⟨k, hk', rfl⟩ := List.mem_map.mp hy
          obtain ⟨k1, k2, k3⟩ := hs k hk'
          have h0 := join_len " " k.words
          have h1 := words_many k1 k2
          have h2 := sum_le h1.1
          have h3 : k.words.length * 1000 ≤ 12 * 1000 := Nat.mul_le_mul_right _ h1.2
          have h4 := h1.2
          show (Txt.join " " k.words).length ≤ _
          rw [show Txt.join " " k.words = Str.join " " k.words from _root_.TL.join_eq _ _]
          rw [l_sp] at h0
          omega
      have h1 := sum_le hb
      have h2 : (("program " ++ n) :: ks.map fun k => Txt.join " " k.words).length ≤ 5 := by rw [List.length_cons, List.length_map]; omega
      have h3 : (("program " ++ n) :: ks.map fun k => Txt.join " " k.words).length * 100000 ≤ 5 * 100000 := Nat.mul_le_mul_right _ h2
      rw [l1]
      omega
end
end U
set_option Elab.async false
set_option linter.all false
set_option maxRecDepth 100000
set_option maxHeartbeats 4000000
set_option pp.deepTerms true
set_option pp.maxSteps 400000
namespace U
open PySem PySem.Spec PyProof.Rows L2 UL UX
local macro_rules | `(tactic| walk_at "rd") => `(tactic| simp only [sMatch, tJs, tFmt, tBC, tMethA, tMakeL, iEnumS, tSeq, tAsg, tOp, tCB, tCons, tNil, tVar, tC, tB, tTest, tNot, tIfS, tNext, tYes, tUn, rU, tM0, tGFrom, tGThen, tG0, tYfLst, gcxK, tSubO, tProp, tListG, tMethG, tBMF, tFld, sFld, tMeth, tMake, tSl, tNoPart, tPart, tM1, gTup, gCons, gNil, tDrop, tFor_eq, tLc_eq, tLc2_eq, iRng1_eq, StX.tStar, iList, iTup, iStr, iAny_var, iZipB, tLenSetS, wipe, tVar, tAndV, tOrV, tNotV, tOr, tAnd, tLst, tTup, tBM, tBM0, tChain, tCall, cxK, noxK, addII, addSS, mulII, eqII, neII, neSS, cIntI, cAbsI, rI, rI0, rLt, rLe, rGt_, rGe_, rSub_, rMod, rPow, rDivW, rNeg, gName, tRet, L2.start, List.length_cons, List.length_nil, List.map_cons, List.map_nil, List.replicate, List.cons_append, List.nil_append, List.getElem?_cons_zero, List.getElem?_cons_succ, List.set_cons_zero, List.set_cons_succ, Option.some.injEq, exists_eq_left', exists_eq_left, V.int.injEq, V.bl.injEq, V.str.injEq, V.ref.injEq, V.ty.injEq, List.cons.injEq, and_true, true_and, reduceCtorEq, false_and, exists_false, or_false, false_or, exists_and_left, exists_and_right, List.append_nil, forall_eq, decide_eq_true_eq, Bool.not_eq_true, Nat.reduceAdd, Nat.reduceSub, List.replicate_zero, List.replicate_succ, Nat.zero_le, ite_true, ite_false, if_true, if_false])
section
variable {P : Program} {w : World} {K : PySem.W.Frag} {mg : Str → Option Value} {base : Heap}
open UW
variable {R Wr B Pg : Addr}
theorem sp_free {z : Str} (h : isNm z) : 32 ∉ z.cps.toList ∧ 10 ∉ z.cps.toList := by
  have h : nmB z = true := h
  simp only [nmB, Bool.and_eq_true, List.all_eq_true, decide_eq_true_eq] at h
  have e : ∀ c ∈ abc.cps.toList, 97 ≤ c := by rw [abc_eq]; intro c hc; obtain ⟨n, hn, rfl⟩ := List.mem_map.mp hc; omega
  exact ⟨fun q => by have := e 32 (h.2 32 q); omega, fun q => by have := e 10 (h.2 10 q); omega⟩
/-- the words of a right step: names all of them -/
theorem words_nm {k : Sk} {kn : List Str} (g : Good kn k) (hk : ∀ z ∈ kn, isNm z) : ∀ x ∈ k.words, isNm x := by
  obtain ⟨g1, g2, g3, g4⟩ := g
  have ga : ∀ x ∈ k.args, isNm x := fun x hx => (List.mem_append.mp (g3 x hx)).elim (hk x) fun h => g1 x (by simp [h])
  have wr : ∀ {t f : Str} {xs : List Str}, isNm t → isNm f → (∀ x ∈ xs, isNm x) → ∀ x ∈ wrT t f xs, isNm x := fun {t f xs} ht hf hx x h => by
    unfold wrT at h
    rcases List.mem_cons.mp h with rfl | h
    · exact nm_write
    rcases List.mem_cons.mp h with rfl | h
    · exact ht
    rcases List.mem_cons.mp h with rfl | h
    · exact nm_by
    rcases List.mem_cons.mp h with rfl | h
    · exact hf
    by_cases e : xs = []
    · rw [if_pos e] at h; cases h
    · rw [if_neg e] at h
      rcases List.mem_cons.mp h with rfl | h
      · exact nm_of
      · exact hx x h
  have rd : ∀ {s l : Str}, isNm s → isNm l → ∀ x ∈ [("read" : Str), s, "as", l], isNm x := fun hs hl x hx => by
    simp only [List.mem_cons, List.not_mem_nil, or_false] at hx
    rcases hx with rfl | rfl | rfl | rfl
    · exact nm_read
    · exact hs
    · exact nm_as
    · exact hl
  cases k with
  | rd s l => exact rd (g1 s (by simp [Sk.src])) (g1 l (by simp [Sk.loc]))
  | wr t f xs => exact wr (g1 t (by simp [Sk.tgt])) (g2 f rfl) ga
  | rw s l t f xs => exact fun x hx => (List.mem_append.mp hx).elim (rd (g1 s (by simp [Sk.src])) (g1 l (by simp [Sk.loc])) x) (wr (g1 t (by simp [Sk.tgt])) (g2 f rfl) ga x)
theorem split_words {ws : List Str} (h : ∀ x ∈ ws, isNm x) (hne : ws ≠ []) : Txt.split (Txt.join " " ws) " " = ws :=
  _root_.TL.split_join (y := " ") (s := 32) (S := []) (by decide +kernel) (by decide +kernel) hne fun p hp => (sp_free (h p hp)).1
theorem arg_ok {xs kn : List Str} (hx : ∀ x ∈ xs, x ∈ kn) (h3 : xs.length ≤ 3) : argB (if xs = [] then [] else ("of" : Str) :: xs) kn = true ∧ (if xs = [] then [] else ("of" : Str) :: xs).drop 1 = xs := by
  by_cases e : xs = []
  · subst e; exact ⟨rfl, rfl⟩
  · rw [if_neg e]
    have h1 : 1 ≤ xs.length := List.length_pos_iff.mpr e
    refine ⟨?_, rfl⟩
    simp only [argB, decide_true, decide_eq_true h1, decide_eq_true h3, Bool.true_and, List.all_eq_true, decide_eq_true_eq]
    exact hx
theorem step_words {k : Sk} {kn : List Str} (g : Good kn k) : stepO k.words kn = some k := by
  obtain ⟨g1, g2, g3, g4⟩ := g
  have nb : ∀ {z : Str}, isNm z → nmB z = true := fun h => h
  have ne1 : ("write" : Str) ≠ "read" := by decide +kernel
  cases k with
  | rd s l =>
    have c1 : hR (Sk.words (.rd s l)) := ⟨rfl, rfl, rfl⟩
    rw [stepO, if_pos c1]
    show mkR s l = _
    rw [mkR, if_pos (by rw [nb (g1 s (by simp [Sk.src])), nb (g1 l (by simp [Sk.loc]))]; rfl)]
  | wr t f xs =>
    have c1 : ¬ hR (Sk.words (.wr t f xs)) := fun h => ne1 h.2.1
    have c2 : hW (Sk.words (.wr t f xs)) := ⟨by show 4 ≤ (wrT t f xs).length; unfold wrT; simp, rfl, rfl⟩
    rw [stepO, if_neg c1, if_pos c2]
    obtain ⟨a1, a2⟩ := arg_ok (xs := xs) (kn := kn) (fun x hx => by simpa [Sk.loc] using g3 x hx) g4
    show mkW t f (if xs = [] then [] else ("of" : Str) :: xs) kn = _
    rw [mkW, if_pos (by rw [nb (g1 t (by simp [Sk.tgt])), nb (g2 f rfl), a1]; rfl), a2]
  | rw s l t f xs =>
    have c1 : ¬ hR (Sk.words (.rw s l t f xs)) := fun h => by
      have h1 : ([("read" : Str), s, "as", l] ++ wrT t f xs).length = 4 := h.1
      rw [List.length_append] at h1
      have h2 : 4 ≤ (wrT t f xs).length := by unfold wrT; simp
      simp only [List.length_cons, List.length_nil] at h1
      omega
    have c2 : ¬ hW (Sk.words (.rw s l t f xs)) := fun h => ne1 h.2.1.symm
    have c3 : hB (Sk.words (.rw s l t f xs)) := ⟨by show 8 ≤ ([("read" : Str), s, "as", l] ++ wrT t f xs).length; unfold wrT; simp, rfl, rfl, rfl, rfl⟩
    rw [stepO, if_neg c1, if_neg c2, if_pos c3]
    obtain ⟨a1, a2⟩ := arg_ok (xs := xs) (kn := kn ++ [l]) (fun x hx => by simpa [Sk.loc] using g3 x hx) g4
    show mkB (mkR s l) (mkW t f (if xs = [] then [] else ("of" : Str) :: xs) (kn ++ [l])) = _
    rw [mkR, if_pos (by rw [nb (g1 s (by simp [Sk.src])), nb (g1 l (by simp [Sk.loc]))]; rfl), mkW, if_pos (by rw [nb (g1 t (by simp [Sk.tgt])), nb (g2 f rfl), a1]; rfl), a2]
    rfl
theorem words_ne (k : Sk) : k.words ≠ [] := by
  cases k <;> simp [Sk.words, wrT]
theorem steps_words : ∀ {ks : List Sk} {kn : List Str}, GoodS kn ks → (∀ z ∈ kn, isNm z) → stepsO (ks.map fun k => Txt.join " " k.words) kn = some ks
  | [], _, _, _ => rfl
  | k :: r, kn, ⟨h0, hr⟩, hk => by
    have e1 : stepO (Txt.split (Txt.join " " k.words) " ") kn = some k := by rw [split_words (words_nm h0 hk) (words_ne k)]; exact step_words h0
    have e2 := steps_words hr fun z hz => (List.mem_append.mp hz).elim (hk z) fun h => h0.1 z (by simp [h])
    simp only [List.map_cons, stepsO, e1, e2]
end
end U
set_option Elab.async false
set_option linter.all false
set_option maxRecDepth 100000
set_option maxHeartbeats 4000000
set_option pp.deepTerms true
set_option pp.maxSteps 400000
namespace U
open PySem PySem.Spec PyProof.Rows L2 UL UX
local macro_rules | `(tactic| walk_at "rd") => `(tactic| simp only [sMatch, tJs, tFmt, tBC, tMethA, tMakeL, iEnumS, tSeq, tAsg, tOp, tCB, tCons, tNil, tVar, tC, tB, tTest, tNot, tIfS, tNext, tYes, tUn, rU, tM0, tGFrom, tGThen, tG0, tYfLst, gcxK, tSubO, tProp, tListG, tMethG, tBMF, tFld, sFld, tMeth, tMake, tSl, tNoPart, tPart, tM1, gTup, gCons, gNil, tDrop, tFor_eq, tLc_eq, tLc2_eq, iRng1_eq, StX.tStar, iList, iTup, iStr, iAny_var, iZipB, tLenSetS, wipe, tVar, tAndV, tOrV, tNotV, tOr, tAnd, tLst, tTup, tBM, tBM0, tChain, tCall, cxK, noxK, addII, addSS, mulII, eqII, neII, neSS, cIntI, cAbsI, rI, rI0, rLt, rLe, rGt_, rGe_, rSub_, rMod, rPow, rDivW, rNeg, gName, tRet, L2.start, List.length_cons, List.length_nil, List.map_cons, List.map_nil, List.replicate, List.cons_append, List.nil_append, List.getElem?_cons_zero, List.getElem?_cons_succ, List.set_cons_zero, List.set_cons_succ, Option.some.injEq, exists_eq_left', exists_eq_left, V.int.injEq, V.bl.injEq, V.str.injEq, V.ref.injEq, V.ty.injEq, List.cons.injEq, and_true, true_and, reduceCtorEq, false_and, exists_false, or_false, false_or, exists_and_left, exists_and_right, List.append_nil, forall_eq, decide_eq_true_eq, Bool.not_eq_true, Nat.reduceAdd, Nat.reduceSub, List.replicate_zero, List.replicate_succ, Nat.zero_le, ite_true, ite_false, if_true, if_false])
section
variable {P : Program} {w : World} {K : PySem.W.Frag} {mg : Str → Option Value} {base : Heap}
open UV UW NdefX ClX
variable {R Wr B Pg Sy IC UC IS UP : Addr}
/-- a number of a written list, drawn -/
theorem pickL {p : Addr} {H : Hp} {R : VK} {E : XK} {ls : List Nat} {m : Int} (hp : Pl H p) (hn : ls ≠ []) (hs : ls.length ≤ 16) (hm : m = ls.length) (q : ∀ (c : Nat) H', c ∈ ls → Pl H' p → But p H H' → R (.int c) H') :
    ls.length ≤ sizeLine ∧ ∀ l, H l = none → sp_draw [.ref p, .int m] (upd H l (.lst (ls.map fun n => V.int (n : Nat)))) (fun y H2 => rIx K (.ref l) y H2 R) E := by
  have h1 : 1 ≤ ls.length := List.length_pos_iff.mpr hn
  refine ⟨by rw [sizeLine_eq]; omega, fun l hl => drawI (by omega) (hp.put (hp.ne hl)) fun r H1 r0 r3 hp1 b1 => ?_⟩
  have hl1 := b1 _ _ upd_same (Ne.symm (hp.ne hl))
  obtain ⟨n, rfl⟩ := Int.eq_ofNat_of_zero_le r0
  have hlt : n < ls.length := by omega
  exact ixL (.inl (.inl hl1)) (show atI _ ((n : Nat) : Int) = some (.int (ls[n] : Nat)) from atN (by rw [List.getElem?_map]; simp [hlt])) (q _ _ (List.getElem_mem hlt) hp1 (But.tr (UL.Same.but (UL.Same.new hl)) b1))
/-- xs[draw(len(xs))] -/
theorem drawAt {K : PySem.W.Frag} {p a : Addr} {H : Hp} {R : VK} {E : XK} {xs : List V} (hp : Pl H p) (ha : H a = some (.lst xs)) (nap : a ≠ p) (hn : xs ≠ []) (q : ∀ x H', x ∈ xs → Pl H' p → But p H H' → R x H') : cLen K [.ref a] H fun n H1 => sp_draw [.ref p, n] H1 (fun y H2 => rIx K (.ref a) y H2 R) E := by
  have h1 : 1 ≤ xs.length := List.length_pos_iff.mpr hn
  refine lenL (.inl (.inl ha)) (drawI (by omega) hp fun r H1 r0 r3 hp1 b1 => ?_)
  obtain ⟨n, rfl⟩ := Int.eq_ofNat_of_zero_le r0
  have hlt : n < xs.length := by omega
  exact ixL (.inl (.inl (b1 _ _ ha nap))) (atN (List.getElem?_eq_getElem hlt)) (q _ _ (List.getElem_mem hlt) hp1 b1)
/-- a row of the law: the program's name and its steps -/
structure Rw where
  r : Addr
  sl : Addr
  n : Str
  rs : List Addr
  ks : List Sk
def RwH (H : Hp) (q : Rw) : Prop := H q.r = some (.tup [.str q.n, .ref q.sl]) ∧ H q.sl = some (.lst (q.rs.map V.ref)) ∧ Paired (fun t k => RowA H t k) q.rs q.ks
def RwG (cs fs : List Str) (q : Rw) : Prop := isNm q.n ∧ GoodS [] q.ks ∧ (∀ k ∈ q.ks, InS cs fs k) ∧ q.ks.length ≤ 4
theorem RwH.same {H H' : Hp} {q : Rw} (h : RwH H q) (s : Same H H') : RwH H' q := ⟨s _ _ h.1, s _ _ h.2.1, L2.Paired.mapP h.2.2 fun _ _ g => RowA.same s g⟩
theorem RwH.but {H H' : Hp} {p : Addr} {q : Rw} (h : RwH H q) (hp : Pl H p) (n : q.sl ≠ p) (s : But p H H') : RwH H' q := by
  obtain ⟨a, b, c⟩ := h
  refine ⟨s _ _ a fun e => ?_, s _ _ b n, L2.Paired.mapP c fun _ _ g => RowA.but hp s g⟩
  obtain ⟨ms, hm⟩ := hp
  rw [e, hm] at a; cases a
theorem RwH.put {H : Hp} {l : Addr} {zs : List V} {o : HO} {q : Rw} (h : RwH H q) (hl : H l = some (.lst zs)) (n : q.sl ≠ l) : RwH (upd H l o) q := by
  obtain ⟨a, b, c⟩ := h
  exact ⟨by rw [upd_ne fun e => by rw [e, hl] at a; cases a]; exact a, by rw [upd_ne n]; exact b, L2.Paired.mapP c fun _ _ g => RowA.put hl g⟩
abbrev s__law_programs : Stmt := top 56
abbrev sc__law_programs_N : List Str := ["_law_pool_here", "_law_cells_here", "_law_functions_here", "_law_menu", "_law_words", "_law_names_here", "_law_programs_here", "_law_name", "_law_count"]
theorem sc__law_programs : FnScope sc__law_programs_N ["_law_pool_here", "_law_cells_here", "_law_functions_here", "_law_menu"] (defScope s__law_programs) := ⟨rfl, rfl, rfl, by decide +kernel, rfl, by decide +kernel, by decide +kernel⟩
-- 0 _law_pool_here, 1 _law_cells_here, 2 _law_functions_here, 3 _law_menu, 4 _law_words, 5 _law_names_here, 6 _law_programs_here, 7 _law_name, 8 _law_count
def sp_lprogs : Sp := fun vs H Q _ => ∃ (p a c m : Addr) (cs fs : List Str) (mn : List Nat), vs = [.ref p, .ref a, .ref c, .ref m] ∧ Pl H p ∧ H a = some (.lst (cs.map V.str)) ∧ H c = some (.lst (fs.map V.str)) ∧ H m = some (.lst (mn.map fun (n : Nat) => V.int n)) ∧ p ≠ a ∧ p ≠ c ∧ p ≠ m ∧ mn ≠ [] ∧ (∀ n ∈ mn, n ≤ 4) ∧
  1 ≤ cs.length ∧ cs.length ≤ 3 ∧ 2 ≤ fs.length ∧ fs.length ≤ 5 ∧ (∀ z ∈ cs, isNm z) ∧ (∀ z ∈ fs, isNm z) ∧
  ∀ (r : Addr) (qs : List Rw) H', H r = none → H' r = some (.lst (qs.map fun q => V.ref q.r)) → (∀ q ∈ qs, RwH H' q ∧ RwG cs fs q ∧ q.sl ∉ [p, r]) → qs.length ≤ 4 → (qs.map (·.n)).Nodup → Pl H' p → But p H H' → Q (.ref r) H'
theorem d_lprogs (T : Nm mg) (D : TD K mg "_law_programs" s__law_programs) (d__law_draw : Dn P w K mg base CX0 1 "_law_draw" sp_draw) (d__law_names : Dn P w K mg base CX0 2 "_law_names" sp_names0) (d__law_steps : Dn P w K mg base CX0 3 "_law_steps" (sp_lsteps K)) : Dn P w K mg base CX0 4 "_law_programs" sp_lprogs := by
  refine D.dn sc__law_programs (fun _ _ _ _ _ _ us hl => match us, hl with | [_, _, _, _], _ => rfl) (fun vs H Q E h => ?_) (fun f cdv A outer s H vs Q E hr h => ?_)
  · obtain ⟨p, a, c, m, cs, fs, mn, rfl, _⟩ := h; rfl
  · obtain ⟨p, a, c, m, cs, fs, mn, rfl, hp, ha, hc, hm, na, nc, nm, mn0, mn4, c1, c3, f2, f5, ic, iff, q⟩ := h
    refine ⟨_, (pss_cons (ps_set (i := 4) sc__law_programs.nd rfl (Or.inl rfl) (pe_d d__law_names hr (by decide) pass0 (by rfl) (pa_cons (pv 0) (pa_cons (pe_ix ix_seq (pe_lst (pa_cons pe_int (pa_cons pe_int (pa_cons pe_int pa_nil)))) (pe_d d__law_draw hr (by decide) pass0 (by rfl) (pa_cons (pv 0) (pa_cons pe_int pa_nil))) (fun _ _ => rfl)) pa_nil))))
      (pss_cons (ps_set (i := 5) sc__law_programs.nd rfl (Or.inl rfl) (pe_d d__law_names hr (by decide) pass0 (by rfl) (pa_cons (pv 0) (pa_cons (pe_ix ix_seq (pe_lst (pa_cons pe_int (pa_cons pe_int (pa_cons pe_int (pa_cons pe_int (pa_cons pe_int pa_nil)))))) (pe_d d__law_draw hr (by decide) pass0 (by rfl) (pa_cons (pv 0) (pa_cons pe_int pa_nil))) (fun _ _ => rfl)) pa_nil))))
      (pss_cons (ps_set (i := 6) sc__law_programs.nd rfl (Or.inl rfl) (pe_lst pa_nil))
      (pss_cons (ps_for PassesOwn.never rfl (pi_list (pv 5)) (pg_name (i := 7) sc__law_programs.nd rfl (Or.inl rfl)) (pss_cons (ps_set (i := 8) sc__law_programs.nd rfl (Or.inl rfl) (pe_ix ix_seq (pv 3) (pe_d d__law_draw hr (by decide) pass0 (by rfl) (pa_cons (pv 0) (pa_cons (pe_callB call_lenA (by rfl) T.n_len (by decide +kernel) (pa_cons (pv 3) pa_nil)) pa_nil))) (fun _ _ => rfl)))
      (pss_one (ps_expr (pe_bm PySem.F.plainAttrs_list PySem.F.slot_list_append PySem.F.type_list_append mt_append (pv 6) (pa_cons (pe_tup (pa_cons (pv 7) (pa_cons (pe_d d__law_steps hr (by decide) pass0 (by rfl) (pa_cons (pv 0) (pa_cons (pv 1) (pa_cons (pv 4) (pa_cons (pv 2) (pa_cons (pv 8) pa_nil)))))) pa_nil))) pa_nil))))))
      (pss_one (ps_ret (pv 6))))))), ?_⟩
    walk_at "rd"
    refine pickL (ls := [1, 2, 3]) hp (by decide) (by decide) rfl fun w0 H1 hw0 hp1 b1 => ?_
    have w13 : 1 ≤ w0 ∧ w0 ≤ 3 := by
      simp only [List.mem_cons, List.not_mem_nil, or_false] at hw0
      omega
    refine ⟨p, w0, rfl, hp1, by omega, fun wl H2 ws wsl wsn wsd hwl0 hwl hp2 b2 => ?_⟩
    have b02 := But.tr b1 b2
    refine pickL (ls := [2, 3, 1, 4, 0]) hp2 (by decide) (by decide) rfl fun n0 H3 hn0 hp3 b3 => ?_
    have n04 : n0 ≤ 4 := by
      simp only [List.mem_cons, List.not_mem_nil, or_false] at hn0
      omega
    have b03 := But.tr b02 b3
    refine ⟨p, n0, rfl, hp3, by omega, fun nl H4 xs xsl xsn xsd hnl0 hnl hp4 b4 => fun l hl => ?_⟩
    have b04 := But.tr b03 b4
    have wlp : wl ≠ p := fun e => by obtain ⟨ms, e2⟩ := hp1; rw [e, e2] at hwl0; cases hwl0
    have nlp : nl ≠ p := fun e => by obtain ⟨ms, e2⟩ := hp3; rw [e, e2] at hnl0; cases hnl0
    have lp : l ≠ p := Ne.symm (hp4.ne hl)
    have hw4 : H4 wl = some (.lst (ws.map V.str)) := b4 _ _ (b3 _ _ hwl wlp) wlp
    have s45 : Same H4 (upd H4 l (.lst [])) := UL.Same.new hl
    have nll : nl ≠ l := ne_of_none hnl hl
    have wll : wl ≠ l := ne_of_none hw4 hl
    have lH : H l = none := But.free' b04 hp4 hl
    refine ⟨nl, rfl, ⟨_, .inl (.inl (s45 _ _ hnl))⟩, FJ.list (xs := xs.map V.str) (fun i σ' H' => ∃ (qs : List Rw) (z7 z8 : Option V), σ' = [some (.ref p), some (.ref a), some (.ref c), some (.ref m), some (.ref wl), some (.ref nl), some (.ref l), z7, z8] ∧ H' l = some (.lst (qs.map fun q => V.ref q.r)) ∧ (∀ q ∈ qs, RwH H' q ∧ RwG cs fs q ∧ q.sl ∉ [p, l]) ∧ qs.map (·.n) = xs.take i ∧ Pl H' p ∧ But p H H' ∧ H' nl = some (.lst (xs.map V.str)) ∧ H' wl = some (.lst (ws.map V.str))) ⟨[], _, _, rfl, upd_same, (fun q hq => absurd hq (by simp)), rfl, hp4.put (Ne.symm lp), But.tr b04 (UL.Same.but s45), s45 _ _ hnl, s45 _ _ hw4⟩ (fun i σ' H' _ inv => ?_) (fun i x σ' H' hx inv => ?_) fun σ' H' inv => ?_⟩
    · obtain ⟨qs, z7, z8, rfl, h1, h2, h3, h4, h5, h6, h7⟩ := inv
      exact .inl (.inl h6)
    · obtain ⟨qs, z7, z8, rfl, h1, h2, h3, h4, h5, h6, h7⟩ := inv
      walk_at "rd"
      rw [List.getElem?_map] at hx
      cases hxi : xs[i]? with
      | none => rw [hxi] at hx; cases hx
      | some nm0 =>
        rw [hxi] at hx
        cases hx
        have il : i < xs.length := (List.getElem?_eq_some_iff.mp hxi).1
        have lq : qs.length = i := by
          have := congrArg List.length h3
          rw [List.length_map, List.length_take] at this
          omega
        refine drawAt h4 (h5 _ _ hm (Ne.symm nm)) (Ne.symm nm) (fun e => mn0 (by cases mn with | nil => rfl | cons x r => cases e)) fun x H5 hx hp5 b5 => ?_
        obtain ⟨k, hk, rfl⟩ := List.mem_map.mp hx
        have b05 := But.tr h5 b5
        refine ⟨.inl ⟨rfl, _, .inl (.inl (b5 _ _ h1 lp))⟩, p, a, wl, c, k, cs, ws, fs, rfl, mn4 k hk, hp5, b05 _ _ ha (Ne.symm na), b5 _ _ h7 wlp, b05 _ _ hc (Ne.symm nc), na, Ne.symm wlp, nc, c1, c3, by omega, by omega, f2, f5, ic, wsn, iff, fun sl ks rs H6 hsl0 hsl hrs hg hin hkl hp6 b6 => ⟨by rw [sizeLine_eq]; decide, fun t ht => ?_⟩⟩
        have b06 := But.tr b05 b6
        have s67 : Same H6 (upd H6 t (.tup [.str nm0, .ref sl])) := UL.Same.new ht
        have hl6 := b6 _ _ (b5 _ _ h1 lp) lp
        have hl7 := s67 _ _ hl6
        have slp : sl ≠ p := fun e => by obtain ⟨ms, e2⟩ := hp5; rw [e, e2] at hsl0; cases hsl0
        have sll : sl ≠ l := fun e => by rw [e, b5 _ _ h1 lp] at hsl0; cases hsl0
        have tl : t ≠ l := fun e => by rw [e, hl6] at ht; cases ht
        refine ⟨l, _, _, rfl, rfl, hl7, by rw [List.length_map, sizeLine_eq]; omega, ⟨_, rfl⟩, qs ++ [⟨t, sl, nm0, rs, ks⟩], by rw [upd_same, List.map_append]; rfl, fun q1 hq1 => ?_, ?_, (hp6.same s67).put (Ne.symm lp), ?_, ?_, ?_⟩
        · rcases List.mem_append.mp hq1 with h | h
          · obtain ⟨g1, g2, g3⟩ := h2 q1 h
            have nsp : q1.sl ≠ p := fun e => g3 (by simp [e])
            have nsl : q1.sl ≠ l := fun e => g3 (by simp [e])
            exact ⟨((((g1.but h4 nsp b5).but hp5 nsp b6).same s67).put hl7 nsl), g2, g3⟩
          · rw [List.mem_singleton.mp h]
            have g1 : RwH (upd H6 t (.tup [.str nm0, .ref sl])) ⟨t, sl, nm0, rs, ks⟩ := ⟨upd_same, s67 _ _ hsl, L2.Paired.mapP hrs fun _ _ g => RowA.same s67 g⟩
            exact ⟨g1.put hl7 sll, ⟨xsn nm0 (List.mem_of_getElem? hxi), hg, hin, by have := mn4 k hk; show ks.length ≤ 4; omega⟩, by simp [slp, sll]⟩
        · rw [List.map_append, h3, List.take_add_one, hxi]; rfl
        · intro c0 o e n
          rw [upd_ne (ne_of_none e lH)]
          exact s67 _ _ (b06 _ _ e n)
        · rw [upd_ne nll]; exact s67 _ _ (b6 _ _ (b5 _ _ h6 nlp) nlp)
        · rw [upd_ne wll]; exact s67 _ _ (b6 _ _ (b5 _ _ h7 wlp) wlp)
    · obtain ⟨qs, z7, z8, rfl, h1, h2, h3, h4, h5, h6, h7⟩ := inv
      rw [List.length_map, List.take_length] at h3
      walk_at "rd"
      exact q l qs _ lH h1 h2 (by have := congrArg List.length h3; rw [List.length_map] at this; omega) (by rw [h3]; exact xsd) h4 h5
end
end U
set_option Elab.async false
set_option linter.all false
set_option maxRecDepth 100000
set_option maxHeartbeats 4000000
set_option pp.deepTerms true
set_option pp.maxSteps 400000
namespace U
open PySem PySem.Spec PyProof.Rows L2 UL UX
local macro_rules | `(tactic| walk_at "rd") => `(tactic| simp only [sMatch, tJs, tFmt, tBC, tMethA, tMakeL, iEnumS, tSeq, tAsg, tOp, tCB, tCons, tNil, tVar, tC, tB, tTest, tNot, tIfS, tNext, tYes, tUn, rU, tM0, tGFrom, tGThen, tG0, tYfLst, gcxK, tSubO, tProp, tListG, tMethG, tBMF, tFld, sFld, tMeth, tMake, tSl, tNoPart, tPart, tM1, gTup, gCons, gNil, tDrop, tFor_eq, tLc_eq, tLc2_eq, iRng1_eq, StX.tStar, iList, iTup, iStr, iAny_var, iZipB, tLenSetS, wipe, tVar, tAndV, tOrV, tNotV, tOr, tAnd, tLst, tTup, tBM, tBM0, tChain, tCall, cxK, noxK, addII, addSS, mulII, eqII, neII, neSS, cIntI, cAbsI, rI, rI0, rLt, rLe, rGt_, rGe_, rSub_, rMod, rPow, rDivW, rNeg, gName, tRet, L2.start, List.length_cons, List.length_nil, List.map_cons, List.map_nil, List.replicate, List.cons_append, List.nil_append, List.getElem?_cons_zero, List.getElem?_cons_succ, List.set_cons_zero, List.set_cons_succ, Option.some.injEq, exists_eq_left', exists_eq_left, V.int.injEq, V.bl.injEq, V.str.injEq, V.ref.injEq, V.ty.injEq, List.cons.injEq, and_true, true_and, reduceCtorEq, false_and, exists_false, or_false, false_or, exists_and_left, exists_and_right, List.append_nil, forall_eq, decide_eq_true_eq, Bool.not_eq_true, Nat.reduceAdd, Nat.reduceSub, List.replicate_zero, List.replicate_succ, Nat.zero_le, ite_true, ite_false, if_true, if_false])
section
variable {P : Program} {w : World} {K : PySem.W.Frag} {mg : Str → Option Value} {base : Heap}
open UV UW NdefX ClX
variable {R Wr B Pg Sy IC UC IS UP : Addr}
theorem e_prog : ("program " : Str) = ("program" : Str) ++ (" " : Str) := by decide +kernel
theorem prog_join (n : Str) : ("program " : Str) ++ n = Txt.join " " [("program" : Str), n] := by
  rw [_root_.TL.join_eq, e_prog]; rfl
theorem join_no {c : Nat} (hc : c ≠ 32) : ∀ {ws : List Str}, (∀ x ∈ ws, c ∉ x.cps.toList) → c ∉ (Txt.join " " ws).cps.toList := by
  have hsp : c ∉ (" " : Str).cps.toList := by
    have e : (" " : Str).cps.toList = [32] := by decide +kernel
    rw [e]; simpa using hc
  have ap : ∀ x y : Str, c ∉ x.cps.toList → c ∉ y.cps.toList → c ∉ (x ++ y).cps.toList := fun x y hx hy => by
    show c ∉ (x.cps ++ y.cps).toList
    rw [Array.toList_append, List.mem_append]
    exact fun q => q.elim hx hy
  intro ws h
  rw [_root_.TL.join_eq]
  induction ws with
  | nil => show c ∉ (Str.empty).cps.toList; simp [Str.empty]
  | cons x r ih =>
    cases r with
    | nil => exact h x List.mem_cons_self
    | cons z r => exact ap _ _ (ap _ _ (h x List.mem_cons_self) hsp) (ih fun y hy => h y (List.mem_cons_of_mem _ hy))
theorem GoodS.each : ∀ {ks : List Sk} {kn : List Str}, GoodS kn ks → (∀ z ∈ kn, isNm z) → ∀ k ∈ ks, (∀ x ∈ k.words, isNm x) ∧ k.args.length ≤ 3 ∧ ∀ x ∈ k.args, isNm x
  | k :: r, kn, ⟨h0, hr⟩, hk, k', hm => by
    rcases List.mem_cons.mp hm with rfl | hm
    · exact ⟨words_nm h0 hk, h0.2.2.2, fun x hx => (List.mem_append.mp (h0.2.2.1 x hx)).elim (hk x) fun h => h0.1 x (by simp [h])⟩
    · exact GoodS.each hr (fun z hz => (List.mem_append.mp hz).elim (hk z) fun h => h0.1 z (by simp [h])) k' hm
theorem small_of {k : Sk} (h : ∀ x ∈ k.words, isNm x) (h3 : k.args.length ≤ 3) : k.small := by
  have l8 : ∀ x ∈ k.words, x.length ≤ 1000 := fun x hx => Nat.le_trans (nm_len (h x hx)) (by decide)
  have wr : ∀ {t f : Str} {xs : List Str}, (∀ x ∈ wrT t f xs, x.length ≤ 1000) → xs.length ≤ 3 → t.length ≤ 1000 ∧ f.length ≤ 1000 ∧ (∀ x ∈ xs, x.length ≤ 1000) ∧ xs.length ≤ 100 := fun {t f xs} h h3 => by
    refine ⟨h t (by simp [wrT]), h f (by simp [wrT]), fun x hx => h x ?_, by omega⟩
    unfold wrT
    have e : xs ≠ [] := fun e => by rw [e] at hx; cases hx
    rw [if_neg e]; simp [hx]
  cases k with
  | rd s l => exact ⟨l8 s (by simp [Sk.words]), l8 l (by simp [Sk.words])⟩
  | wr t f xs => exact wr l8 h3
  | rw s l t f xs => exact ⟨⟨l8 s (by simp [Sk.words]), l8 l (by simp [Sk.words])⟩, wr (fun x hx => l8 x (by simp only [Sk.words, List.mem_append]; exact .inr hx)) h3⟩
theorem line_le2 {ws : List Str} (h : ∀ x ∈ ws, isNm x) (hn : ws.length ≤ 12) : (Txt.join " " ws).length ≤ 120 := by
  rw [_root_.TL.join_eq]
  have h0 := join_len " " ws
  have h2 := sum_le (m := 8) fun x hx => nm_len (h x hx)
  rw [l_sp] at h0
  omega
theorem text_le {n : Str} {ks : List Sk} (hn : isNm n) (h : ∀ k ∈ ks, (∀ x ∈ k.words, isNm x) ∧ k.words.length ≤ 12) (hl : ks.length ≤ 4) : (Txt.join "\n" (("program " ++ n) :: ks.map fun k => Txt.join " " k.words)).length ≤ 10000 := by
  rw [_root_.TL.join_eq]
  have l8 : ("program " : Str).length = 8 := by decide +kernel
  have l1 : ("\n" : Str).length = 1 := by decide +kernel
  have h0 := join_len "\n" (("program " ++ n) :: ks.map fun k => Txt.join " " k.words)
  have h2 := sum_le (m := 120) (l := ("program " ++ n) :: ks.map fun k => Txt.join " " k.words) fun x hx => by
    rcases List.mem_cons.mp hx with rfl | hx
    · have := nm_len hn; rw [len_app, l8]; omega
    · obtain ⟨k, hk, rfl⟩ := List.mem_map.mp hx
      exact line_le2 (h k hk).1 (h k hk).2
  rw [l1, List.length_cons, List.length_map] at h0
  rw [List.length_cons, List.length_map] at h2
  omega
theorem nm_program : isNm "program" := by show nmB _ = true; decide +kernel
/-- the comprehension over one item, None left out -/
def sp_funsN : Sp := fun vs H Q _ => ∃ p : Addr, vs = [.ref p] ∧ Pl H p ∧ ∀ q H' (xs : List Str), 2 ≤ xs.length → xs.length ≤ 5 → (∀ z ∈ xs, isNm z) → xs.Nodup → H q = none → H' q = some (.lst (xs.map V.str)) → Pl H' p → But p H H' → Q (.ref q) H'
theorem d_funsN (T : Nm mg) (D : TD K mg "_law_functions" s__law_functions) (d__law_draw : Dn P w K mg base CX0 1 "_law_draw" sp_draw) (d__law_names : Dn P w K mg base CX0 2 "_law_names" sp_namesN) : Dn P w K mg base CX0 3 "_law_functions" sp_funsN := by
  refine D.dn sc__law_functions (fun _ _ _ _ _ _ us hl => match us, hl with | [_], _ => rfl) (fun vs H Q E h => ?_) (fun f cdv A outer s H vs Q E hr h => ?_)
  · obtain ⟨p, rfl, _⟩ := h; rfl
  · obtain ⟨p, rfl, hp, q⟩ := h
    refine ⟨_, (pss_one (ps_ret (pe_d d__law_names hr (by decide) pass0 (by rfl) (pa_cons (pv 0) (pa_cons (pe_ix ix_seq (pe_lst (pa_cons pe_int (pa_cons pe_int (pa_cons pe_int (pa_cons pe_int pa_nil))))) (pe_d d__law_draw hr (by decide) pass0 (by rfl) (pa_cons (pv 0) (pa_cons pe_int pa_nil))) (fun _ _ => rfl)) pa_nil))))), ?_⟩
    walk_at "rd"
    refine ⟨by rw [sizeLine_eq]; decide, fun l hl => drawI (by decide) (hp.put (hp.ne hl)) fun r H1 r0 r3 hp1 b1 => ?_⟩
    have hl1 : H1 l = some (.lst [V.int 4, V.int 2, V.int 3, V.int 5]) := b1 _ _ upd_same (Ne.symm (hp.ne hl))
    have b01 : But p H H1 := But.tr (UL.Same.but (UL.Same.new hl)) b1
    have hr3 : r = 0 ∨ r = 1 ∨ r = 2 ∨ r = 3 := by omega
    rcases hr3 with rfl | rfl | rfl | rfl
    · exact ixL (.inl (.inl hl1)) (show atI _ ((0 : Nat) : Int) = some (.int (4 : Nat)) from atN rfl) ⟨p, 4, rfl, hp1, by omega, by omega, fun q0 H2 xs hxl hnm hnd hq h2 hp2 b2 => q q0 H2 xs (by omega) (by omega) hnm hnd (But.free' b01 hp1 hq) h2 hp2 (But.tr b01 b2)⟩
    · exact ixL (.inl (.inl hl1)) (show atI _ ((1 : Nat) : Int) = some (.int (2 : Nat)) from atN rfl) ⟨p, 2, rfl, hp1, by omega, by omega, fun q0 H2 xs hxl hnm hnd hq h2 hp2 b2 => q q0 H2 xs (by omega) (by omega) hnm hnd (But.free' b01 hp1 hq) h2 hp2 (But.tr b01 b2)⟩
    · exact ixL (.inl (.inl hl1)) (show atI _ ((2 : Nat) : Int) = some (.int (3 : Nat)) from atN rfl) ⟨p, 3, rfl, hp1, by omega, by omega, fun q0 H2 xs hxl hnm hnd hq h2 hp2 b2 => q q0 H2 xs (by omega) (by omega) hnm hnd (But.free' b01 hp1 hq) h2 hp2 (But.tr b01 b2)⟩
    · exact ixL (.inl (.inl hl1)) (show atI _ ((3 : Nat) : Int) = some (.int (5 : Nat)) from atN rfl) ⟨p, 5, rfl, hp1, by omega, by omega, fun q0 H2 xs hxl hnm hnd hq h2 hp2 b2 => q q0 H2 xs (by omega) (by omega) hnm hnd (But.free' b01 hp1 hq) h2 hp2 (But.tr b01 b2)⟩
def sp_cellsN : Sp := fun vs H Q _ => ∃ p : Addr, vs = [.ref p] ∧ Pl H p ∧ ∀ q H' (xs : List Str), 1 ≤ xs.length → xs.length ≤ 3 → (∀ z ∈ xs, isNm z) → xs.Nodup → H q = none → H' q = some (.lst (xs.map V.str)) → Pl H' p → But p H H' → Q (.ref q) H'
theorem d_cellsN (T : Nm mg) (D : TD K mg "_law_cells" s__law_cells) (d__law_draw : Dn P w K mg base CX0 1 "_law_draw" sp_draw) (d__law_names : Dn P w K mg base CX0 2 "_law_names" sp_namesN) : Dn P w K mg base CX0 3 "_law_cells" sp_cellsN := by
  refine D.dn sc__law_cells (fun _ _ _ _ _ _ us hl => match us, hl with | [_], _ => rfl) (fun vs H Q E h => ?_) (fun f cdv A outer s H vs Q E hr h => ?_)
  · obtain ⟨p, rfl, _⟩ := h; rfl
  · obtain ⟨p, rfl, hp, q⟩ := h
    refine ⟨_, (pss_one (ps_ret (pe_d d__law_names hr (by decide) pass0 (by rfl) (pa_cons (pv 0) (pa_cons (pe_ix ix_seq (pe_lst (pa_cons pe_int (pa_cons pe_int (pa_cons pe_int pa_nil)))) (pe_d d__law_draw hr (by decide) pass0 (by rfl) (pa_cons (pv 0) (pa_cons pe_int pa_nil))) (fun _ _ => rfl)) pa_nil))))), ?_⟩
    walk_at "rd"
    refine ⟨by rw [sizeLine_eq]; decide, fun l hl => drawI (by decide) (hp.put (hp.ne hl)) fun r H1 r0 r3 hp1 b1 => ?_⟩
    have hl1 : H1 l = some (.lst [V.int 2, V.int 3, V.int 1]) := b1 _ _ upd_same (Ne.symm (hp.ne hl))
    have b01 : But p H H1 := But.tr (UL.Same.but (UL.Same.new hl)) b1
    have hr3 : r = 0 ∨ r = 1 ∨ r = 2 := by omega
    rcases hr3 with rfl | rfl | rfl
    · exact ixL (.inl (.inl hl1)) (show atI _ ((0 : Nat) : Int) = some (.int (2 : Nat)) from atN rfl) ⟨p, 2, rfl, hp1, by omega, by omega, fun q0 H2 xs hxl hnm hnd hq h2 hp2 b2 => q q0 H2 xs (by omega) (by omega) hnm hnd (But.free' b01 hp1 hq) h2 hp2 (But.tr b01 b2)⟩
    · exact ixL (.inl (.inl hl1)) (show atI _ ((1 : Nat) : Int) = some (.int (3 : Nat)) from atN rfl) ⟨p, 3, rfl, hp1, by omega, by omega, fun q0 H2 xs hxl hnm hnd hq h2 hp2 b2 => q q0 H2 xs (by omega) (by omega) hnm hnd (But.free' b01 hp1 hq) h2 hp2 (But.tr b01 b2)⟩
    · exact ixL (.inl (.inl hl1)) (show atI _ ((2 : Nat) : Int) = some (.int (1 : Nat)) from atN rfl) ⟨p, 1, rfl, hp1, by omega, by omega, fun q0 H2 xs hxl hnm hnd hq h2 hp2 b2 => q q0 H2 xs (by omega) (by omega) hnm hnd (But.free' b01 hp1 hq) h2 hp2 (But.tr b01 b2)⟩
/-- a later heap where only lists (and fresh objects without fields) changed -/
theorem StA.keep3 {H H' : Hp} {a : Addr} {k : Sk} (h : StA H R Wr B a k) (off : ∀ c o, H c = some o → (∀ xs, o ≠ .lst xs) → H' c = some o) : StA H' R Wr B a k := by
  cases k with
  | rd s l => obtain ⟨dx, e⟩ := h; exact ⟨dx, off _ _ e (fun _ z => nomatch z)⟩
  | wr t f xs => obtain ⟨dx, p, e, o, e2, d⟩ := h; exact ⟨dx, p, off _ _ e (fun _ z => nomatch z), o, off _ _ e2 (fun _ z => nomatch z), d⟩
  | rw s l t f xs => obtain ⟨dx, p, e, o, e2, d⟩ := h; exact ⟨dx, p, off _ _ e (fun _ z => nomatch z), o, off _ _ e2 (fun _ z => nomatch z), d⟩
theorem PgA.keep3 {H H' : Hp} {a : Addr} {n : Str} {ks : List Sk} (h : PgA H R Wr B Pg a n ks) (off : ∀ c o, H c = some o → (∀ xs, o ≠ .lst xs) → H' c = some o) : PgA H' R Wr B Pg a n ks := by
  obtain ⟨dx, p, ts, e, ⟨o, e2, d⟩, pr⟩ := h
  exact ⟨dx, p, ts, off _ _ e (fun _ z => nomatch z), ⟨o, off _ _ e2 (fun _ z => nomatch z), d⟩, L2.Paired.mapP pr fun _ _ g => StA.keep3 g off⟩
theorem PgA.same {H H' : Hp} {a : Addr} {n : Str} {ks : List Sk} (h : PgA H R Wr B Pg a n ks) (s : Same H H') : PgA H' R Wr B Pg a n ks := h.keep3 fun c o e _ => s c o e
theorem met_nd : ∀ {xs : List Str}, 1 ≤ xs.length → xs.length ≤ 3 → xs.Nodup → (met xs).length = xs.length
  | [a], _, _, _ => by simp [met]
  | [a, b], _, _, h => by
    have h1 : a ≠ b := by simpa using h
    simp [met, Ne.symm h1]
    try (simp [h1])
  | [a, b, c], _, _, h => by
    simp only [List.nodup_cons, List.mem_cons, List.not_mem_nil, or_false, not_or, List.nodup_nil, and_true, not_false_eq_true] at h
    obtain ⟨⟨h1, h2⟩, h3⟩ := h
    simp [met, Ne.symm h1, Ne.symm h2, Ne.symm h3]
    try (simp [h1, h2, h3])
  | _ :: _ :: _ :: _ :: _, _, h, _ => absurd h (by simp only [List.length_cons]; omega)
theorem nms_right {xs : List Str} (h1 : 1 ≤ xs.length) (h3 : xs.length ≤ 3) (hn : ∀ z ∈ xs, isNm z) (nd : xs.Nodup) : nmsB xs = true := by
  unfold nmsB
  rw [decide_eq_true h1, decide_eq_true h3, decide_eq_true (met_nd h1 h3 nd)]
  simp only [Bool.true_and, Bool.and_true, List.all_eq_true]
  exact fun z hz => hn z hz
/-- the text of a row -/
def txR (q : Rw) : Str := Txt.join "\n" (("program " ++ q.n) :: q.ks.map fun k => Txt.join " " k.words)
/-- what a row's text and its reading ask -/
def RwG0 (q : Rw) : Prop := isNm q.n ∧ GoodS [] q.ks ∧ q.ks.length ≤ 4
theorem RwG.g0 {cs fs : List Str} {q : Rw} (g : RwG cs fs q) : RwG0 q := ⟨g.1, g.2.1, g.2.2.2⟩
theorem RwG0.each {q : Rw} (g : RwG0 q) : ∀ k ∈ q.ks, k.small ∧ k.args.length ≤ 3 ∧ ∀ x ∈ k.args, PyData.strOk x = true := fun k hk => by
  have e := GoodS.each g.2.1 (fun z hz => by cases hz) k hk
  exact ⟨small_of e.1 e.2.1, e.2.1, fun x hx => nm_ok (e.2.2 x hx)⟩
/-- _law_text of a row -/
theorem row_text0 {q : Rw} {H : Hp} {Q : VK} {E : XK} (g : RwG0 q) (h : RwH H q) (k : ∀ H', Same H H' → Q (.str (txR q)) H') : sp_ltext [.str q.n, .ref q.sl] H Q E :=
  ⟨q.n, q.sl, q.rs, q.ks, rfl, nm_len g.1, h.2.1, h.2.2, g.2.2, g.each, k⟩
/-- Program.read of a row's text -/
theorem row_read0 {q : Rw} {H : Hp} {Q : VK} {E : XK} (g : RwG0 q) (k : ∀ a H', PgA H' R Wr B Pg a q.n q.ks → Same H H' → Q (.ref a) H') : sp_pread K R Wr B Pg [.ref Pg, .str (txR q)] H Q E := by
  have each := GoodS.each g.2.1 (fun z hz => by cases hz)
  have kl4 := g.2.2
  have each3 : ∀ k ∈ q.ks, (∀ x ∈ k.words, isNm x) ∧ k.words.length ≤ 12 := fun k hk => ⟨(each k hk).1, (words_many (g.each k hk).1 (g.each k hk).2.1).2⟩
  have n8 := nm_len g.1
  have sp1 : Txt.split (Txt.join "\n" (("program " ++ q.n) :: q.ks.map fun k => Txt.join " " k.words)) "\n" = ("program " ++ q.n) :: q.ks.map fun k => Txt.join " " k.words := by
    refine _root_.TL.split_join (y := "\n") (s := 10) (S := []) (by decide +kernel) (by decide +kernel) (by simp) fun z hz => ?_
    rcases List.mem_cons.mp hz with rfl | hz
    · rw [prog_join]
      refine join_no (by decide) fun x hx => ?_
      simp only [List.mem_cons, List.not_mem_nil, or_false] at hx
      rcases hx with rfl | rfl
      · exact (sp_free nm_program).2
      · exact (sp_free g.1).2
    · obtain ⟨k, hk', rfl⟩ := List.mem_map.mp hz
      exact join_no (by decide) fun x hx => (sp_free ((each k hk').1 x hx)).2
  have sp2 : Txt.split ("program " ++ q.n) " " = [("program" : Str), q.n] := by
    rw [prog_join]
    refine split_words (fun x hx => ?_) (by simp)
    simp only [List.mem_cons, List.not_mem_nil, or_false] at hx
    rcases hx with rfl | rfl
    · exact nm_program
    · exact g.1
  have hln : ∀ z ∈ q.ks.map (fun k => Txt.join " " k.words), LnOk z := fun z hz => by
    obtain ⟨k, hk', rfl⟩ := List.mem_map.mp hz
    obtain ⟨e1, e2⟩ := each3 k hk'
    have e3 := line_le2 e1 e2
    refine ⟨by omega, ?_⟩
    rw [split_words e1 (words_ne k)]
    exact ⟨fun x hx => Nat.le_trans (nm_len (e1 x hx)) (by decide), by omega⟩
  have l8 : ("program " : Str).length = 8 := by decide +kernel
  exact ⟨txR q, "program " ++ q.n, q.n, _, q.ks, rfl, text_le g.1 each3 kl4, sp1, sp2, g.1, by rw [len_app, l8]; omega, by omega, by rw [List.length_map]; exact kl4, hln, steps_words g.2.1 (fun z hz => by cases hz), fun a dx p ts H' ha hp hst s => k a H' ⟨dx, p, ts, ha, hp, hst⟩ s⟩
theorem RwG.each {cs fs : List Str} {q : Rw} (g : RwG cs fs q) : ∀ k ∈ q.ks, k.small ∧ k.args.length ≤ 3 ∧ ∀ x ∈ k.args, PyData.strOk x = true := g.g0.each
theorem row_text {cs fs : List Str} {q : Rw} {H : Hp} {Q : VK} {E : XK} (g : RwG cs fs q) (h : RwH H q) (k : ∀ H', Same H H' → Q (.str (txR q)) H') : sp_ltext [.str q.n, .ref q.sl] H Q E := row_text0 g.g0 h k
theorem row_read {cs fs : List Str} {q : Rw} {H : Hp} {Q : VK} {E : XK} (g : RwG cs fs q) (k : ∀ a H', PgA H' R Wr B Pg a q.n q.ks → Same H H' → Q (.ref a) H') : sp_pread K R Wr B Pg [.ref Pg, .str (txR q)] H Q E := row_read0 g.g0 k
end
end U
set_option Elab.async false
set_option linter.all false
set_option maxRecDepth 100000
set_option maxHeartbeats 4000000
set_option pp.deepTerms true
set_option pp.maxSteps 400000
namespace U
open PySem PySem.Spec PyProof.Rows L2 UL UX
local macro_rules | `(tactic| walk_at "rd") => `(tactic| simp only [sMatch, tJs, tFmt, tBC, tMethA, tMakeL, iEnumS, tSeq, tAsg, tOp, tCB, tCons, tNil, tVar, tC, tB, tTest, tNot, tIfS, tNext, tYes, tUn, rU, tM0, tGFrom, tGThen, tG0, tYfLst, gcxK, tSubO, tProp, tListG, tMethG, tBMF, tFld, sFld, tMeth, tMake, tSl, tNoPart, tPart, tM1, gTup, gCons, gNil, tDrop, tFor_eq, tLc_eq, tLc2_eq, iRng1_eq, StX.tStar, iList, iTup, iStr, iAny_var, iZipB, tLenSetS, wipe, tVar, tAndV, tOrV, tNotV, tOr, tAnd, tLst, tTup, tBM, tBM0, tChain, tCall, cxK, noxK, addII, addSS, mulII, eqII, neII, neSS, cIntI, cAbsI, rI, rI0, rLt, rLe, rGt_, rGe_, rSub_, rMod, rPow, rDivW, rNeg, gName, tRet, L2.start, List.length_cons, List.length_nil, List.map_cons, List.map_nil, List.replicate, List.cons_append, List.nil_append, List.getElem?_cons_zero, List.getElem?_cons_succ, List.set_cons_zero, List.set_cons_succ, Option.some.injEq, exists_eq_left', exists_eq_left, V.int.injEq, V.bl.injEq, V.str.injEq, V.ref.injEq, V.ty.injEq, List.cons.injEq, and_true, true_and, reduceCtorEq, false_and, exists_false, or_false, false_or, exists_and_left, exists_and_right, List.append_nil, forall_eq, decide_eq_true_eq, Bool.not_eq_true, Nat.reduceAdd, Nat.reduceSub, List.replicate_zero, List.replicate_succ, Nat.zero_le, ite_true, ite_false, if_true, if_false])
section
variable {P : Program} {w : World} {K : PySem.W.Frag} {mg : Str → Option Value} {base : Heap}
open UV UW NdefX ClX
variable {R Wr B Pg Sy IC UC IS UP : Addr}
def cnt (acc : List (Str × Nat)) (k : Sk) : List (Str × Nat) := match k.fa with
  | none => acc
  | some (f, n) => if f ∈ acc.map (·.1) then acc else acc ++ [(f, n)]
def cntQ (acc : List (Str × Nat)) (qs : List Rw) : List (Str × Nat) := qs.foldl (fun a q => q.ks.foldl cnt a) acc
/-- the pairs of counts, as they stand -/
def CtH (H : Hp) (ts : List Addr) (acc : List (Str × Nat)) : Prop := Paired (fun (t : Addr) (q : Str × Nat) => H t = some (.tup [.str q.1, .int q.2])) ts acc
theorem CtH.same {H H' : Hp} {ts : List Addr} {acc : List (Str × Nat)} (h : CtH H ts acc) (s : Same H H') : CtH H' ts acc := L2.Paired.mapP h fun _ _ g => s _ _ g
theorem CtH.put {H : Hp} {ts : List Addr} {acc : List (Str × Nat)} {l : Addr} {zs : List V} {o : HO} (h : CtH H ts acc) (hl : H l = some (.lst zs)) : CtH (upd H l o) ts acc := L2.Paired.mapP h fun _ _ g => by rw [upd_ne fun e => by rw [e, hl] at g; cases g]; exact g
end
end U
set_option Elab.async false
set_option linter.all false
set_option maxRecDepth 100000
set_option maxHeartbeats 4000000
set_option pp.deepTerms true
set_option pp.maxSteps 400000
namespace U
open PySem PySem.Spec PyProof.Rows L2 UL UX
local macro_rules | `(tactic| walk_at "rd") => `(tactic| simp only [sMatch, tJs, tFmt, tBC, tMethA, tMakeL, iEnumS, tSeq, tAsg, tOp, tCB, tCons, tNil, tVar, tC, tB, tTest, tNot, tIfS, tNext, tYes, tUn, rU, tM0, tGFrom, tGThen, tG0, tYfLst, gcxK, tSubO, tProp, tListG, tMethG, tBMF, tFld, sFld, tMeth, tMake, tSl, tNoPart, tPart, tM1, gTup, gCons, gNil, tDrop, tFor_eq, tLc_eq, tLc2_eq, iRng1_eq, StX.tStar, iList, iTup, iStr, iAny_var, iZipB, tLenSetS, wipe, tVar, tAndV, tOrV, tNotV, tOr, tAnd, tLst, tTup, tBM, tBM0, tChain, tCall, cxK, noxK, addII, addSS, mulII, eqII, neII, neSS, cIntI, cAbsI, rI, rI0, rLt, rLe, rGt_, rGe_, rSub_, rMod, rPow, rDivW, rNeg, gName, tRet, L2.start, List.length_cons, List.length_nil, List.map_cons, List.map_nil, List.replicate, List.cons_append, List.nil_append, List.getElem?_cons_zero, List.getElem?_cons_succ, List.set_cons_zero, List.set_cons_succ, Option.some.injEq, exists_eq_left', exists_eq_left, V.int.injEq, V.bl.injEq, V.str.injEq, V.ref.injEq, V.ty.injEq, List.cons.injEq, and_true, true_and, reduceCtorEq, false_and, exists_false, or_false, false_or, exists_and_left, exists_and_right, List.append_nil, forall_eq, decide_eq_true_eq, Bool.not_eq_true, Nat.reduceAdd, Nat.reduceSub, List.replicate_zero, List.replicate_succ, Nat.zero_le, ite_true, ite_false, if_true, if_false])
section
variable {P : Program} {w : World} {K : PySem.W.Frag} {mg : Str → Option Value} {base : Heap}
open UV UW NdefX ClX
/-- a function of fs, with as many arguments as its place says -/
def ArOk (fs : List Str) (q : Str × Nat) : Prop := ∃ i : Int, 0 ≤ i ∧ atI (fs.map V.str) i = some (V.str q.1) ∧ atI [V.int 1, .int 0, .int 2, .int 1, .int 3] i = some (V.int (q.2 : Nat))
theorem atI_nat {α : Type} {xs : List α} {i : Int} {v : α} (h0 : 0 ≤ i) (h : atI xs i = some v) : xs[i.toNat]? = some v := by
  obtain ⟨n, rfl⟩ := Int.eq_ofNat_of_zero_le h0
  show xs[n]? = some v
  cases h2 : xs[n]? with
  | some w => rw [atN h2] at h; exact h
  | none =>
    have hl : xs.length ≤ n := List.getElem?_eq_none_iff.mp h2
    exfalso
    unfold atI at h
    cases hx : ixN xs.length ((n : Nat) : Int) with
    | none => rw [hx] at h; cases h
    | some j =>
      have := (ixN_seq hx).2.2.2
      omega
theorem ArOk.uni {fs : List Str} (nd : fs.Nodup) {f : Str} {n m : Nat} (h1 : ArOk fs (f, n)) (h2 : ArOk fs (f, m)) : n = m := by
  obtain ⟨i, i0, a1, a2⟩ := h1
  obtain ⟨j, j0, b1, b2⟩ := h2
  have a1 := atI_nat i0 a1
  have b1 := atI_nat j0 b1
  rw [List.getElem?_map] at a1 b1
  cases ha : fs[i.toNat]? with
  | none => rw [ha] at a1; cases a1
  | some x =>
    cases hb : fs[j.toNat]? with
    | none => rw [hb] at b1; cases b1
    | some y =>
      rw [ha] at a1
      rw [hb] at b1
      have ex : x = f := V.str.inj (Option.some.inj a1)
      have ey : y = f := V.str.inj (Option.some.inj b1)
      have li := (List.getElem?_eq_some_iff.mp ha).1
      have ij : i.toNat = j.toNat := (List.getElem?_inj li nd).mp (by rw [ha, hb, ex, ey])
      have e : i = j := by omega
      rw [e, b2] at a2
      have := V.int.inj (Option.some.inj a2)
      omega
theorem valA_none {α : Type} {as : List (Str × α)} {f : Str} (h : f ∉ as.map (·.1)) : valA as f = none := by
  unfold valA
  rw [List.find?_eq_none.mpr fun q hq => by
    simp only [decide_eq_true_eq]
    exact fun e => h (by rw [← e]; exact List.mem_map_of_mem hq)]
  rfl
theorem valA_some {α : Type} {as : List (Str × α)} {f : Str} (h : f ∈ as.map (·.1)) : ∃ m, valA as f = some m ∧ (f, m) ∈ as := by
  cases hv : as.find? fun q => decide (q.1 = f) with
  | none =>
    obtain ⟨q, hq, e⟩ := List.mem_map.mp h
    have := List.find?_eq_none.mp hv q hq
    simp [e] at this
  | some q =>
    have e : q.1 = f := by simpa using List.find?_some hv
    exact ⟨q.2, by unfold valA; rw [hv]; rfl, by rw [← e]; exact List.mem_of_find?_eq_some hv⟩
theorem fa_fn {k : Sk} {f : Str} {xs : List Str} (h : k.fn = some (f, xs)) : k.fa = some (f, xs.length) := by cases k <;> cases h <;> rfl
theorem fa_no {k : Sk} (h : k.fn = none) : k.fa = none := by cases k <;> first | rfl | cases h
theorem takeS_ok {cs fs : List Str} (nd : fs.Nodup) {as : List (Str × Nat)} {k : Sk} (hk : InS cs fs k) (ha : ∀ q ∈ as, ArOk fs q) : takeS cs as k = .ok (cnt as k) ∧ ∀ q ∈ cnt as k, ArOk fs q := by
  unfold takeS
  rw [List.find?_eq_none.mpr fun c hc => by simp [hk.1 c hc]]
  cases hf : k.fn with
  | none =>
    have e : cnt as k = as := by unfold cnt; rw [fa_no hf]
    rw [e]
    exact ⟨rfl, ha⟩
  | some q =>
    obtain ⟨f, xs⟩ := q
    have hfa := fa_fn hf
    have ar : ArOk fs (f, xs.length) := hk.2 f xs.length hfa
    have e : cnt as k = if f ∈ as.map (·.1) then as else as ++ [(f, xs.length)] := by unfold cnt; rw [hfa]
    rw [e]
    show takeF as f xs.length = _ ∧ _
    unfold takeF
    by_cases hin : f ∈ as.map (·.1)
    · obtain ⟨m, hm, hmem⟩ := valA_some hin
      rw [if_pos hin, hm]
      exact ⟨if_pos ((ha _ hmem).uni nd ar), ha⟩
    · rw [if_neg hin, valA_none hin]
      refine ⟨rfl, fun q hq => ?_⟩
      rcases List.mem_append.mp hq with h | h
      · exact ha q h
      · rw [List.mem_singleton.mp h]; exact ar
theorem takeSs_ok {cs fs : List Str} (nd : fs.Nodup) : ∀ {ks : List Sk} {as : List (Str × Nat)}, (∀ k ∈ ks, InS cs fs k) → (∀ q ∈ as, ArOk fs q) → takeSs cs as ks = .ok (ks.foldl cnt as) ∧ ∀ q ∈ ks.foldl cnt as, ArOk fs q
  | [], as, _, ha => ⟨rfl, ha⟩
  | k :: r, as, hk, ha => by
    obtain ⟨h1, h2⟩ := takeS_ok nd (hk k List.mem_cons_self) ha
    obtain ⟨h3, h4⟩ := takeSs_ok nd (ks := r) (as := cnt as k) (fun k' h => hk k' (List.mem_cons_of_mem _ h)) h2
    refine ⟨?_, h4⟩
    show (match takeS cs as k with | .error e => Except.error e | .ok as' => takeSs cs as' r) = _
    rw [h1]
    exact h3
/-- a right system is made -/
theorem takePs_ok {cs fs : List Str} (nd : fs.Nodup) : ∀ {qs : List (Addr × Rw)} {ps : List (Str × Addr)} {as : List (Str × Nat)}, (∀ q ∈ qs, ∀ k ∈ q.2.ks, InS cs fs k) → (∀ q ∈ as, ArOk fs q) → ps.length + qs.length ≤ 4 → (ps.map (·.1) ++ qs.map (·.2.n)).Nodup →
    takePs cs ps as (qs.map fun q => (q.1, q.2.n, q.2.ks)) = .ok (ps ++ qs.map (fun q => (q.2.n, q.1)), cntQ as (qs.map (·.2)))
  | [], ps, as, _, _, _, _ => by simp [takePs, cntQ]
  | q :: r, ps, as, hk, ha, hl, hn => by
    obtain ⟨h1, h2⟩ := takeSs_ok nd (hk q List.mem_cons_self) ha
    have hni : q.2.n ∉ ps.map (·.1) := fun h => by
      have := (List.nodup_append.mp hn).2.2 _ h _ (show q.2.n ∈ (q :: r).map (·.2.n) from List.mem_cons_self)
      exact this rfl
    have h3 : takeP cs ps as q.2.n q.2.ks = .ok (q.2.ks.foldl cnt as) := by
      unfold takeP
      rw [if_neg ?_]
      · exact h1
      · rw [valA_none hni]
        simp only [List.length_cons] at hl
        rintro (h | h)
        · omega
        · cases h
    have ih := takePs_ok nd (qs := r) (ps := ps ++ [(q.2.n, q.1)]) (as := q.2.ks.foldl cnt as) (fun q' h => hk q' (List.mem_cons_of_mem _ h)) h2 (by rw [List.length_append]; simp only [List.length_cons, List.length_nil] at hl ⊢; omega) (by
      rw [List.map_append]
      simpa using hn)
    show (match takeP cs ps as q.2.n q.2.ks with | .error e => Except.error e | .ok as' => takePs cs (ps ++ [(q.2.n, q.1)]) as' (r.map fun (q : Addr × Rw) => (q.1, q.2.n, q.2.ks))) = _
    rw [h3]
    show takePs cs (ps ++ [(q.2.n, q.1)]) (q.2.ks.foldl cnt as) (r.map fun (q : Addr × Rw) => (q.1, q.2.n, q.2.ks)) = _
    rw [ih, List.append_assoc]
    rfl
end
end U
set_option Elab.async false
set_option linter.all false
set_option maxRecDepth 100000
set_option maxHeartbeats 4000000
set_option pp.deepTerms true
set_option pp.maxSteps 400000
namespace U
open PySem PySem.Spec PyProof.Rows L2 UL UX
local macro_rules | `(tactic| walk_at "rd") => `(tactic| simp only [sMatch, tJs, tFmt, tBC, tMethA, tMakeL, iEnumS, tSeq, tAsg, tOp, tCB, tCons, tNil, tVar, tC, tB, tTest, tNot, tIfS, tNext, tYes, tUn, rU, tM0, tGFrom, tGThen, tG0, tYfLst, gcxK, tSubO, tProp, tListG, tMethG, tBMF, tFld, sFld, tMeth, tMake, tSl, tNoPart, tPart, tM1, gTup, gCons, gNil, tDrop, tFor_eq, tLc_eq, tLc2_eq, iRng1_eq, StX.tStar, iList, iTup, iStr, iAny_var, iZipB, tLenSetS, wipe, tVar, tAndV, tOrV, tNotV, tOr, tAnd, tLst, tTup, tBM, tBM0, tChain, tCall, cxK, noxK, addII, addSS, mulII, eqII, neII, neSS, cIntI, cAbsI, rI, rI0, rLt, rLe, rGt_, rGe_, rSub_, rMod, rPow, rDivW, rNeg, gName, tRet, L2.start, List.length_cons, List.length_nil, List.map_cons, List.map_nil, List.replicate, List.cons_append, List.nil_append, List.getElem?_cons_zero, List.getElem?_cons_succ, List.set_cons_zero, List.set_cons_succ, Option.some.injEq, exists_eq_left', exists_eq_left, V.int.injEq, V.bl.injEq, V.str.injEq, V.ref.injEq, V.ty.injEq, List.cons.injEq, and_true, true_and, reduceCtorEq, false_and, exists_false, or_false, false_or, exists_and_left, exists_and_right, List.append_nil, forall_eq, decide_eq_true_eq, Bool.not_eq_true, Nat.reduceAdd, Nat.reduceSub, List.replicate_zero, List.replicate_succ, Nat.zero_le, ite_true, ite_false, if_true, if_false])
section
variable {P : Program} {w : World} {K : PySem.W.Frag} {mg : Str → Option Value} {base : Heap}
open UV UW NdefX ClX
variable {R Wr B Pg Sy IC UC IS UP WE IP C : Addr}
/-- the rows of programs -/
def PrL (H : Hp) (r : Addr) (qs : List Rw) : Prop := H r = some (.lst (qs.map fun q => V.ref q.r)) ∧ ∀ q ∈ qs, RwH H q
theorem PrL.same {H H' : Hp} {r : Addr} {qs : List Rw} (h : PrL H r qs) (s : Same H H') : PrL H' r qs := ⟨s _ _ h.1, fun q hq => (h.2 q hq).same s⟩
theorem PrL.at {H : Hp} {r : Addr} {qs : List Rw} (_ : PrL H r qs) {i : Nat} {y : V} (h : (qs.map fun q => V.ref q.r)[i]? = some y) : ∃ q0, qs[i]? = some q0 ∧ y = V.ref q0.r ∧ q0 ∈ qs ∧ i < qs.length := by
  rw [List.getElem?_map] at h
  cases e : qs[i]? with
  | none => rw [e] at h; cases h
  | some q0 => rw [e] at h; exact ⟨q0, rfl, (Option.some.inj h).symm, List.mem_of_getElem? e, (List.getElem?_eq_some_iff.mp e).1⟩
abbrev s__law_made : Stmt := top 62
abbrev sc__law_made_N : List Str := ["_law_cells_here", "_law_programs_here", ".0", "_law_row"]
theorem sc__law_made : FnScope sc__law_made_N ["_law_cells_here", "_law_programs_here"] (defScope s__law_made) := ⟨rfl, rfl, rfl, by decide +kernel, rfl, by decide +kernel, by decide +kernel⟩
-- 0 _law_cells_here, 1 _law_programs_here, 2 .0, 3 _law_row
/-- a system is made of rows -/
def sp_lmade (R Wr B Pg Sy : Addr) : Sp := fun vs H Q _ => ∃ (ca r : Addr) (cs fs : List Str) (qs : List Rw), vs = [.ref ca, .ref r] ∧ H ca = some (.lst (cs.map V.str)) ∧ PrL H r qs ∧ 1 ≤ cs.length ∧ cs.length ≤ 3 ∧ (∀ z ∈ cs, isNm z) ∧ cs.Nodup ∧ fs.Nodup ∧ (∀ q ∈ qs, RwG cs fs q) ∧ qs.length ≤ 4 ∧ (qs.map (·.n)).Nodup ∧
  ∀ y pd ad nn ccl dx (ms : List (Addr × Rw)) H', ms.map (·.2) = qs → (∀ m ∈ ms, PgA H' R Wr B Pg m.1 m.2.n m.2.ks) → H' y = some (.ins Sy dx (fsS ccl pd ad nn)) → Yo H' Sy y cs pd ad (ms.map fun q => (q.2.n, q.1)) (cntQ [] qs) → FT H' ccl (cs.map V.str) → FT H' nn (qs.map fun q => V.str q.n) → Same H H' → H y = none → Q (.ref y) H'
theorem d_lmade (T : SyX K mg R Wr B Pg Sy IS UC UP) (D : TD K mg "_law_made" s__law_made) (d__law_text : Dn P w K mg base CX0 2 "_law_text" sp_ltext) (CM_read : CMn P w K mg base 7 Pg "Program" "read" (sp_pread K R Wr B Pg)) (k_System : Kn P w K mg base (L2.CX P w) 9 Sy "System" (sp_sinit K R Wr B Pg Sy IC IS UC)) : Dn P w K mg base CX0 12 "_law_made" (sp_lmade R Wr B Pg Sy) := by
  refine D.dn sc__law_made (fun _ _ _ _ _ _ us hl => match us, hl with | [_, _], _ => rfl) (fun vs H Q E h => ?_) (fun f cdv A outer s H vs Q E hr h => ?_)
  · obtain ⟨ca, r, cs, fs, qs, rfl, _⟩ := h; rfl
  · obtain ⟨ca, r, cs, fs, qs, rfl, hca, hr0, c1, c3, icn, cnd, fnd, gq, hql, hqn, q⟩ := h
    refine ⟨_, (pss_one (ps_ret (pe_k k_System hr (by decide) passL (by rfl) (pa_cons (pe_callTy call_listA (by rfl) T.n_list (by decide +kernel) (pa_cons (pv 0) pa_nil)) (pa_cons (pe_lc (own := [(".0", 2), ("_law_row", 3)]) (g := (gName 3)) (tt := tYes) rfl sc__law_made.nd (pi_list (pv 1)) (blkOk_by (N := sc__law_made_N) (sc := defScope s__law_made) (by decide +kernel)) (fun _ _ _ _ _ => pg_name (i := 3) sc__law_made.nd rfl (Or.inl rfl)) (fun _ _ _ _ _ => pts_nil) (fun _ _ _ _ _ => (pe_cm CM_read hr (by decide) (by rfl) (pa_cons (pe_d d__law_text hr (by decide) pass0 (by rfl) (pa_cons (pe_ix (ix_seqK K rfl) (pv 3) pe_int (fun _ _ => rfl)) (pa_cons (pe_ix (ix_seqK K rfl) (pv 3) pe_int (fun _ _ => rfl)) pa_nil))) pa_nil)))) pa_nil))))), ?_⟩
    walk_at "rd"
    refine ⟨ca, _, rfl, .inl (.inl (.inl hca)), fun pl hpl => ?_⟩
    have spl : Same H (upd H pl (.lst (cs.map V.str))) := UL.Same.new hpl
    have hplA : (upd H pl (.lst (cs.map V.str))) pl = some (.lst (cs.map V.str)) := upd_same
    generalize upd H pl (.lst (cs.map V.str)) = H5 at spl hplA ⊢
    have hr5 := hr0.same spl
    refine ⟨⟨_, .inl (.inl hr5.1)⟩, fun D1 hD1 => LJ.it (walk_list (xs := qs.map fun q => V.ref q.r)) (fun i H' => ∃ ms : List (Addr × Rw), ms.map (·.2) = qs.take i ∧ H' D1 = some (.lst (ms.map fun m => V.ref m.1)) ∧ (∀ m ∈ ms, PgA H' R Wr B Pg m.1 m.2.n m.2.ks) ∧ Same H5 H') ⟨[], rfl, upd_same, (fun m h => absurd h (by simp)), UL.Same.new hD1⟩ (fun i H' _ inv => ?_) (fun i y H' H'' hi inv yy => ?_) fun H6 inv => ?_⟩
    · obtain ⟨ms, m1, m2, m3, s5⟩ := inv
      exact .inl (.inl (s5 _ _ hr5.1))
    · obtain ⟨rfl, hx⟩ := yy
      obtain ⟨ms, m1, m2, m3, s5⟩ := inv
      obtain ⟨q0, hq0, rfl, qm, il⟩ := hr5.at hx
      refine ⟨rfl, ?_⟩
      walk_at "rd"
      have g1 := (hr5.2 q0 qm).same s5
      have gg := gq q0 qm
      have lm : ms.length = i := by
        have := congrArg List.length m1
        rw [List.length_map, List.length_take] at this
        omega
      refine ixT (.inl (.inl g1.1)) (show atI _ ((0 : Nat) : Int) = some (V.str q0.n) from atN rfl) (ixT (.inl (.inl g1.1)) (show atI _ ((1 : Nat) : Int) = some (V.ref q0.sl) from atN rfl) (row_text gg g1 fun H6 s6 => row_read gg fun a0 H7 pg s7 => ?_))
      have s67 := Same.tr s6 s7
      refine ⟨_, s67 _ _ m2, by rw [List.length_map, sizeLine_eq]; omega, ms ++ [(a0, q0)], by rw [List.map_append, m1, List.take_add_one, hq0]; rfl, by rw [upd_same, List.map_append]; rfl, fun m5 hm5 => ?_, UL.Same.put (Same.tr s5 s67) hD1⟩
      have off : ∀ c o, H7 c = some o → (∀ xs, o ≠ .lst xs) → (upd H7 D1 (.lst (ms.map (fun m => V.ref m.1) ++ [V.ref a0]))) c = some o := fun c o e n => by
        rw [upd_ne fun z => by
          have h1 := s67 _ _ m2
          rw [z, h1] at e
          exact n _ (Option.some.inj e).symm]
        exact e
      rcases List.mem_append.mp hm5 with h | h
      · exact ((m3 m5 h).same s67).keep3 off
      · rw [List.mem_singleton.mp h]; exact pg.keep3 off
    obtain ⟨ms, m1, m2, m3, s56⟩ := inv
    rw [List.length_map, List.take_length] at m1
    have lms : ms.length = qs.length := by have := congrArg List.length m1; rw [List.length_map] at this; exact this
    intro x dx hx hdx ne
    have sA : Same H6 (upd (upd H6 dx (.own x)) x (.ins Sy dx [])) := UL.Same.put (UL.Same.new hdx) hx
    have inq : ∀ m ∈ ms, m.2 ∈ qs := fun m h => by
      have : m.2 ∈ ms.map (·.2) := List.mem_map_of_mem h
      rw [m1] at this; exact this
    have tk := takePs_ok (cs := cs) fnd (qs := ms) (ps := []) (as := []) (fun q0 h k hk => (gq _ (inq q0 h)).2.2.1 k hk) (fun q0 h => absurd h (by simp)) (by simp only [List.length_nil]; omega) (by
      have e : ms.map (·.2.n) = qs.map (·.n) := by rw [← m1, List.map_map]; rfl
      simp only [List.map_nil, List.nil_append]
      rw [e]; exact hqn)
    rw [List.nil_append, m1] at tk
    refine ⟨x, pl, D1, dx, cs, ms.map fun q => (q.1, q.2.n, q.2.ks), rfl, upd_same, .inl (.inl (sA _ _ (s56 _ _ hplA))), ?_, by omega, fun z hz => Nat.le_trans (nm_len (icn z hz)) (by decide), by rw [List.length_map]; omega, fun q0 h => ?_, fun hb => ?_, fun _ => ⟨fun e he => ?_, fun ps as ht HB ccl pd ad nn h1 h2 h2f h3 h4 h5 h6 h7 => ⟨rfl, ?_⟩⟩⟩
    · have := sA _ _ m2
      rw [List.map_map]; exact .inl (.inl this)
    · obtain ⟨m0, hm0, rfl⟩ := List.mem_map.mp h
      have g := gq _ (inq m0 hm0)
      exact ⟨(m3 m0 hm0).same sA, fun k hk => (g.each k hk).1, by have := g.2.2.2; show m0.2.ks.length ≤ 8; omega, Nat.le_trans (nm_len g.1) (by decide)⟩
    · rw [nms_right c1 c3 icn cnd] at hb; cases hb
    · rw [tk] at he; cases he
    rw [tk] at ht
    have ht := Except.ok.inj ht
    obtain ⟨rfl, rfl⟩ := Prod.mk.inj ht
    have sAB : Same H6 HB := fun c o e => h7 c o (sA _ _ e) (ne_of_none e hx)
    have hx0 : H x = none := by
      cases e : H x with
      | none => rfl
      | some o => rw [s56 _ _ (spl _ _ e)] at hx; cases hx
    refine q x pd ad nn ccl dx ms HB m1 (fun m hm => (m3 m hm).same sAB) h1 ⟨⟨dx, ccl, _, h1, rfl, h2, rfl, rfl, fun m hm => ?_⟩, h3, h4, h6⟩ ?_ ?_ (Same.tr spl (Same.tr s56 sAB)) hx0
    · simp only [sysM, List.mem_cons, List.not_mem_nil, or_false] at hm
      rcases hm with rfl | rfl | rfl | rfl | rfl | rfl | rfl <;> rfl
    · exact h2f (.inl (sA _ _ (s56 _ _ hplA)))
    · rw [List.map_map] at h5
      have e : (ms.map ((fun q => V.str q.1) ∘ fun q => (q.2.n, q.1))) = qs.map fun q => V.str q.n := by rw [← m1, List.map_map]; rfl
      rw [e] at h5
      exact h5
end
end U
set_option Elab.async false
set_option linter.all false
set_option maxRecDepth 100000
set_option maxHeartbeats 4000000
set_option pp.deepTerms true
set_option pp.maxSteps 400000
namespace U
open PySem PySem.Spec PyProof.Rows L2 UL UX
local macro_rules | `(tactic| walk_at "rd") => `(tactic| simp only [sMatch, tJs, tFmt, tBC, tMethA, tMakeL, iEnumS, tSeq, tAsg, tOp, tCB, tCons, tNil, tVar, tC, tB, tTest, tNot, tIfS, tNext, tYes, tUn, rU, tM0, tGFrom, tGThen, tG0, tYfLst, gcxK, tSubO, tProp, tListG, tMethG, tBMF, tFld, sFld, tMeth, tMake, tSl, tNoPart, tPart, tM1, gTup, gCons, gNil, tDrop, tFor_eq, tLc_eq, tLc2_eq, iRng1_eq, StX.tStar, iList, iTup, iStr, iAny_var, iZipB, tLenSetS, wipe, tVar, tAndV, tOrV, tNotV, tOr, tAnd, tLst, tTup, tBM, tBM0, tChain, tCall, cxK, noxK, addII, addSS, mulII, eqII, neII, neSS, cIntI, cAbsI, rI, rI0, rLt, rLe, rGt_, rGe_, rSub_, rMod, rPow, rDivW, rNeg, gName, tRet, L2.start, List.length_cons, List.length_nil, List.map_cons, List.map_nil, List.replicate, List.cons_append, List.nil_append, List.getElem?_cons_zero, List.getElem?_cons_succ, List.set_cons_zero, List.set_cons_succ, Option.some.injEq, exists_eq_left', exists_eq_left, V.int.injEq, V.bl.injEq, V.str.injEq, V.ref.injEq, V.ty.injEq, List.cons.injEq, and_true, true_and, reduceCtorEq, false_and, exists_false, or_false, false_or, exists_and_left, exists_and_right, List.append_nil, forall_eq, decide_eq_true_eq, Bool.not_eq_true, Nat.reduceAdd, Nat.reduceSub, List.replicate_zero, List.replicate_succ, Nat.zero_le, ite_true, ite_false, if_true, if_false])
section
variable {P : Program} {w : World} {K : PySem.W.Frag} {mg : Str → Option Value} {base : Heap}
open UV UW NdefX ClX
variable {IP C : Addr}
local macro_rules | `(tactic| walk_at "rdx") => `(tactic| simp only [tCons, tNil, tJs, tC, tFmt, tFmtN, tVar, tOst, tSeq, NdefX.startF, L2.start, List.length_cons, List.length_nil, List.map_cons, List.map_nil, List.replicate, List.cons_append, List.nil_append, List.getElem?_cons_zero, List.getElem?_cons_succ, Option.some.injEq, exists_eq_left', exists_eq_left, V.str.injEq, V.int.injEq, V.ref.injEq, reduceCtorEq, false_and, exists_false, or_false, false_or, and_true, true_and, exists_and_left, exists_and_right, Nat.reduceAdd, Nat.reduceSub, Nat.reduceLeDiff, ncK])
abbrev s_IP : Stmt := inClass (top 8) 0
theorem sc_IP : NScope ["self", "__class__"] ["self"] ["__class__"] (defScope s_IP) := nscope_by (by decide +kernel)
def sp_I0 : Addr → Sp := fun C vs H Q _ => ∃ a : Addr, vs = [.ref a] ∧ H a = some (exo a C none) ∧ Q .non H
theorem x_IP {C : Addr} (D : XD P K mg C "InvalidPlan" "InvalidPlan.__init__" s_IP) : Xn P w K mg base 1 C "InvalidPlan" (sp_I0 C) := by
  obtain ⟨f, c, cc, oc, kV, doc, pm, ct, od, an, osl, lk, hcd, F, h1, h2⟩ := D.ex
  refine ⟨⟨f, _, ["self"], fn_sup (N := ["self", "__class__"]) (ps := []) (pl := _) lk hcd sc_IP D.ox F (by decide +kernel) (fun vs H Q E h => ?_) (fun A outer s H vs Q E hr h => ?_), h1, h2, Binds.all fun us hl => match us, hl with | [_], _ => rfl⟩, D.ox, D.gc⟩
  · obtain ⟨a, rfl, _⟩ := h; rfl
  · obtain ⟨a, rfl, ha, q⟩ := h
    refine ⟨a, _, _, rfl, ha, pa_cons pe_str pa_nil, pss_nil, ?_⟩
    walk_at "rdx"
    exact ⟨ha, q⟩
theorem raise0P {IC : Addr} {H : Hp} {E : XK} {σ : L2.St} (h : X0 IC H E) : tMk0 IC (sp_I0 IC) σ H (fun cls d H' => E cls d H') := fun a ha => ⟨a, rfl, upd_same, rfl, upd_same, h _ fun b o e => by
  have n : b ≠ a := ne_of_none e ha
  rw [del_ne n, upd_ne n]; exact e⟩
/-! ### plans -/
structure PnT (K : PySem.W.Frag) (mg : Str → Option Value) (C : Addr) : Prop extends Nm mg where
  n_any : mg "any" = none
  c_Plan : ∃ u, mg "Plan" = some u ∧ RelV (.ref C) u
  cls : Cls K C
  a_lanes : NoAttr K C "lanes"
  cv_MOST_LANES : CVn K mg "Plan" "MOST_LANES" (.int 3)
  cv_MOST_NAMES : CVn K mg "Plan" "MOST_NAMES" (.int 4)
/-- lanes: where each one stands, and its names -/
abbrev Ln := List (Addr × List Str)
def refs (ls : Ln) : List V := ls.map fun l => V.ref l.1
def LnH (H : Hp) (ls : Ln) : Prop := ∀ l ∈ ls, Rd H l.1 (.tup (l.2.map V.str))
def okP (ls : Ln) : Bool := decide (ls.length ≤ 3) && ls.all fun l => decide (l.2.length ≤ 4)
theorem LnH.same {H H' : Hp} {ls : Ln} (h : LnH H ls) (s : Same H H') : LnH H' ls := fun l hl => rd_same (h l hl) s
abbrev s_Plan___init__ : Stmt := inClass (top 12) 2
abbrev sc_Plan___init___N : List Str := ["self", "lanes", ".0", "names"]
theorem sc_Plan___init__ : FnScope sc_Plan___init___N ["self", "lanes"] (defScope s_Plan___init__) := ⟨rfl, rfl, rfl, by decide +kernel, rfl, by decide +kernel, by decide +kernel⟩
-- 0 self, 1 lanes, 2 .0, 3 names
def fsL (t : Addr) : List (Str × V) := [("lanes", .ref t)]
def sp_pinit (K : PySem.W.Frag) (C IP : Addr) : Sp := fun vs H Q E => ∃ (x l dx : Addr) (ls : Ln), vs = [.ref x, .ref l] ∧ H x = some (.ins C dx []) ∧ SqW H l (refs ls) ∧ LnH H ls ∧ ls.length ≤ 1000 ∧ (∀ l ∈ ls, l.2.length ≤ 1000) ∧
  (okP ls = true → ∀ H' t, H' x = some (.ins C dx (fsL t)) → Rd H' t (.tup (refs ls)) → But x H H' → Q .non H') ∧ (okP ls = false → X0 IP H E)
theorem m_pinit (T : PnT K mg C) (D : MD K C "__init__" "Plan.__init__" s_Plan___init__) (x_InvalidPlan : Xn P w K mg base 1 IP "InvalidPlan" (sp_I0 IP)) : Mn P w K mg base (L2.CX P w) 4 C "__init__" (sp_pinit K C IP) := by
  refine D.mx sc_Plan___init__ (fun _ _ _ _ _ _ us hl => match us, hl with | [_, _], _ => rfl) (fun vs H Q E h => ?_) (fun f cdv A outer s H vs Q E hr h => ?_)
  · obtain ⟨x, l, dx, ls, rfl, _⟩ := h; rfl
  · obtain ⟨x, l, dx, ls, rfl, hx, hl, hls, hn, hz, q, qx⟩ := h
    refine ⟨_, (pss_cons (ps_if (pw_or (pt_cmpR op_gtA (pe_callB call_lenA (by rfl) T.n_len (by decide +kernel) (pa_cons (pv 1) pa_nil)) (pe_cv T.cv_MOST_LANES (by rfl)) (nomark _)) (pw_or1 (pt_val (pe_callB (cr_any rfl) (by rfl) T.n_any (by decide +kernel) (pa_cons (pe_lc (own := [(".0", 2), ("names", 3)]) (g := (gName 3)) (tt := tYes) rfl sc_Plan___init__.nd (pi_any (pv 1)) (blkOk_by (N := sc_Plan___init___N) (sc := defScope s_Plan___init__) (by decide +kernel)) (fun _ _ _ _ _ => pg_name (i := 3) sc_Plan___init__.nd rfl (Or.inl rfl)) (fun _ _ _ _ _ => pts_nil) (fun _ _ _ _ _ => (pe_cmpR op_gtA (pe_callB (call_lenK K rfl) (by rfl) T.n_len (by decide +kernel) (pa_cons (pv 3) pa_nil)) (pe_cv T.cv_MOST_NAMES (by rfl)) (nomark _)))) pa_nil))))).pt (pss_one (ps_raise rfl (takes_of rfl rfl rfl rfl) (pmk_0 x_InvalidPlan hr (by decide) (by rfl)))) pss_nil)
      (pss_one (ps_fld (pv 0) (pe_callTy call_tupG (by rfl) T.n_tuple (by decide +kernel) (pa_cons (pv 1) pa_nil)) rfl))), ?_⟩
    walk_at "rd"
    have lr : (refs ls).length = ls.length := by unfold refs; rw [List.length_map]
    obtain ⟨k, hk⟩ := SqW.sqA (K := K) hl
    refine Kd.len hk ⟨_, rfl, ?_⟩
    rw [lr]
    by_cases c1 : 3 < ls.length
    · rw [if_pos (by omega)]
      exact raise0P (qx (by unfold okP; rw [decide_eq_false (by omega)]; rfl))
    rw [if_neg (by omega)]
    refine ⟨k, ⟨_, hk⟩, fun D hD => LJ.it (walk_any (xs := refs ls) k) (fun i H2 => H2 D = some (.lst (((ls.take i).map fun l => decide (4 < l.2.length)).map V.bl)) ∧ Same H H2) ⟨upd_same, UL.Same.new hD⟩ (fun i H2 _ inv => Kd.same inv.2 hk) (fun i y H2 H3 hi inv yy => ?_) fun H2 inv => ?_⟩
    · obtain ⟨hD2, s2⟩ := inv
      obtain ⟨rfl, hx⟩ := yy
      refine ⟨rfl, ?_⟩
      walk_at "rd"
      rw [lr] at hi
      have ex : y = V.ref ls[i].1 := by
        unfold refs at hx
        rw [List.getElem?_map, List.getElem?_eq_getElem hi] at hx; exact (Option.some.inj hx).symm
      subst ex
      have et : ls.take (i + 1) = ls.take i ++ [ls[i]] := by rw [List.take_add_one, List.getElem?_eq_getElem hi]; rfl
      refine lenT (.inl (rd_same (hls _ (List.getElem_mem hi)) s2)) ⟨_, rfl, _, hD2, by simp [sizeLine_eq]; omega, ?_, UL.Same.put s2 hD⟩
      rw [upd_same, et, List.map_append, List.map_append, List.length_map]
      congr 3
      simp only [List.map_cons, List.map_nil]
      congr 2
      exact decide_eq_decide.mpr (by omega)
    · obtain ⟨hD2, s2⟩ := inv
      rw [lr, List.take_length] at hD2
      refine ⟨D, _, rfl, .inl (.inl hD2), _, rfl, ?_⟩
      have e3 : (ls.map fun l => decide (4 < l.2.length)).any id = !(ls.all fun l => decide (l.2.length ≤ 4)) := by
        rw [List.any_map, List.not_all_eq_any_not]
        congr 1
        funext l
        show decide (4 < l.2.length) = !decide (l.2.length ≤ 4)
        rw [← decide_not]
        exact decide_eq_decide.mpr (by omega)
      rw [e3]
      cases c3 : ls.all fun l => decide (l.2.length ≤ 4) with
      | false =>
        rw [if_pos (by decide)]
        exact raise0P ((qx (by unfold okP; rw [c3, Bool.and_false])).same s2)
      | true =>
        rw [if_neg (by decide)]
        have q := q (by unfold okP; rw [c3, decide_eq_true (by omega)]; rfl)
        refine cTupG_any (hl.same s2) fun t H4 ht s4 => ⟨C, dx, [], s4 _ _ (s2 _ _ hx), T.cls, T.a_lanes, by decide, ?_⟩
        have hx4 := s4 _ _ (s2 _ _ hx)
        refine q _ t upd_same ?_ fun b o e n => ?_
        · rcases ht with e | ⟨ob, e⟩
          · exact .inl (by rw [upd_ne (fun z => by rw [z, hx4] at e; cases e)]; exact e)
          · exact .inr ⟨ob, by rw [upd_ne (fun z => by rw [z, hx4] at e; cases e)]; exact e⟩
        · rw [upd_ne n]; exact s4 _ _ (s2 _ _ e)
/-- a plan, as it stands -/
def PlO (C : Addr) (H : Hp) (a : Addr) (ls : Ln) : Prop := ∃ dx t, H a = some (.ins C dx (fsL t)) ∧ Rd H t (.tup (refs ls)) ∧ LnH H ls
theorem PlO.same {H H' : Hp} {a : Addr} {ls : Ln} (h : PlO C H a ls) (s : Same H H') : PlO C H' a ls := let ⟨dx, t, e, r, l⟩ := h; ⟨dx, t, s _ _ e, rd_same r s, l.same s⟩
theorem PlO.ne {H : Hp} {a p : Addr} {ls : Ln} (h : PlO C H a ls) (hp : H p = none) : a ≠ p := let ⟨_, _, e, _⟩ := h; ne_of_none e hp
/-- Plan(..) of lanes that stand -/
theorem made {H : Hp} {l : Addr} {ls : Ln} {Q : VK} {E : XK} (hl : SqW H l (refs ls)) (hls : LnH H ls) (hn : ls.length ≤ 1000) (hz : ∀ l ∈ ls, l.2.length ≤ 1000) (q : okP ls = true → ∀ x H', PlO C H' x ls → Same H H' → Q (.ref x) H') (qx : okP ls = false → X0 IP H E) {x dx : Addr} (hx : H x = none) (hdx : H dx = none) (ne : dx ≠ x) :
    sp_pinit K C IP [.ref x, .ref l] (upd (upd H dx (.own x)) x (.ins C dx [])) (fun v H2 => v = .non ∧ Q (.ref x) H2) E := by
  have sm : Same H (upd (upd H dx (.own x)) x (.ins C dx [])) := UL.Same.put (UL.Same.new hdx) hx
  refine ⟨x, l, dx, ls, rfl, upd_same, hl.same sm, hls.same sm, hn, hz, fun o H' t h1 h2 h3 => ⟨rfl, ?_⟩, fun o => (qx o).same sm⟩
  have s2 : Same H H' := fun b u e => h3 _ _ (sm _ _ e) (ne_of_none e hx)
  exact q o x H' ⟨dx, t, h1, h2, hls.same s2⟩ s2
abbrev s_Plan_of : Stmt := inClass (top 12) 3
abbrev sc_Plan_of_N : List Str := ["cls", "names"]
theorem sc_Plan_of : FnScope sc_Plan_of_N ["cls", "names"] (defScope s_Plan_of) := ⟨rfl, rfl, rfl, by decide +kernel, rfl, by decide +kernel, by decide +kernel⟩
-- 0 cls, 1 names
def sp_of (C IP : Addr) : Sp := fun vs H Q E => ∃ ns : List Str, vs = V.ref C :: ns.map V.str ∧ ns.length ≤ 1000 ∧ (ns.length ≤ 4 → ∀ x r H', PlO C H' x [(r, ns)] → Same H H' → Q (.ref x) H') ∧ (4 < ns.length → X0 IP H E)
theorem f_of (T : PnT K mg C) {f0 : Addr} {fd : FuncData} (F : Fun K "of" "Plan.of" s_Plan_of f0 fd) (K_Plan : Kn P w K mg base (L2.CX P w) 4 C "Plan" (sp_pinit K C IP)) : FnR P w K mg base (L2.CX P w) 6 f0 (sp_of C IP) := by
  refine (fun_starX (sp := fun vs H Q E => ∃ (p : Addr) (ns : List Str), vs = [.ref C, .ref p] ∧ Rd H p (.tup (ns.map V.str)) ∧ ns.length ≤ 1000 ∧ (ns.length ≤ 4 → ∀ x H', PlO C H' x [(p, ns)] → Same H H' → Q (.ref x) H') ∧ (4 < ns.length → X0 IP H E)) (p1 := "cls") (pv := "names") F sc_Plan_of (fun _ _ _ _ _ _ => ⟨fun _ => rfl, fun _ _ _ => rfl⟩) fun cdv A outer s H vs Q E hr h => ?_).imp fun vs H Q E h => ?_
  · obtain ⟨p, ns, rfl, hp, hn, q, qx⟩ := h
    refine ⟨_, (pss_one (ps_ret (pe_makeLX K_Plan hr (by decide) (i := 0) rfl (Or.inl rfl) (passes_call (takes_of rfl rfl rfl rfl) (fun _ _ _ _ h => h)) (pa_cons (pe_lst (pa_cons (pv 1) pa_nil)) pa_nil)))), ?_⟩
    walk_at "rd"
    unfold tMakeLX
    walk_at "rd"
    refine ⟨by rw [sizeLine_eq]; decide, fun l hl x dx hx hdx ne => made (ls := [(p, ns)]) (.inl (.inl upd_same)) (fun l h => by rw [List.mem_singleton.mp h]; exact rd_same hp (UL.Same.new hl)) (by simp) (fun l h => by rw [List.mem_singleton.mp h]; exact hn) (fun o x H' pl s => q ?_ x H' pl (Same.tr (UL.Same.new hl) s)) (fun o => (qx ?_).same (UL.Same.new hl)) hx hdx ne⟩
    · simp only [okP, List.all_cons, List.all_nil, Bool.and_true, Bool.and_eq_true, decide_eq_true_eq] at o
      exact o.2
    · simp only [okP, List.all_cons, List.all_nil, Bool.and_true, Bool.and_eq_false_iff, decide_eq_false_iff_not, List.length_cons, List.length_nil] at o
      omega
  · obtain ⟨ns, rfl, hn, q, qx⟩ := h
    refine ⟨[.ref C], ns.map V.str, rfl, rfl, by rw [List.length_map, sizeLine_eq]; omega, fun p hp => ⟨p, ns, rfl, .inl upd_same, hn, fun h x H' o s => q h x p H' o (Same.tr (UL.Same.new hp) s), fun h => (qx h).same (UL.Same.new hp)⟩⟩
abbrev s_Plan_empty : Stmt := inClass (top 12) 4
abbrev sc_Plan_empty_N : List Str := ["cls"]
theorem sc_Plan_empty : FnScope sc_Plan_empty_N ["cls"] (defScope s_Plan_empty) := ⟨rfl, rfl, rfl, by decide +kernel, rfl, by decide +kernel, by decide +kernel⟩
-- 0 cls
def sp_empty (C : Addr) : Sp := fun vs H Q E => vs = [.ref C] ∧ ∀ x H', PlO C H' x [] → Same H H' → Q (.ref x) H'
theorem f_empty (T : PnT K mg C) {f0 : Addr} {fd : FuncData} (F : Fun K "empty" "Plan.empty" s_Plan_empty f0 fd) (K_Plan : Kn P w K mg base (L2.CX P w) 4 C "Plan" (sp_pinit K C IP)) : FnOk P w K mg base (L2.CX P w) 6 f0 fd ["cls"] (sp_empty C) := by
  refine F.okX sc_Plan_empty (fun vs H Q E h => ?_) (fun cdv A outer s H vs Q E hr h => ?_)
  · obtain ⟨rfl, _⟩ := h; rfl
  · obtain ⟨rfl, q⟩ := h
    refine ⟨_, (pss_one (ps_ret (pe_makeLX K_Plan hr (by decide) (i := 0) rfl (Or.inl rfl) (passes_call (takes_of rfl rfl rfl rfl) (fun _ _ _ _ h => h)) (pa_cons (pe_lst pa_nil) pa_nil)))), ?_⟩
    walk_at "rd"
    unfold tMakeLX
    walk_at "rd"
    exact (fun l hl x dx hx hdx ne => made (ls := []) (IP := IP) (.inl (.inl upd_same)) (fun l h => nomatch h) (by decide) (fun l h => nomatch h) (fun o x H' pl s => q x H' pl (Same.tr (UL.Same.new hl) s)) (fun o => by cases o) hx hdx ne)
abbrev s_Plan___add__ : Stmt := inClass (top 12) 5
abbrev sc_Plan___add___N : List Str := ["self", "other"]
theorem sc_Plan___add__ : FnScope sc_Plan___add___N ["self", "other"] (defScope s_Plan___add__) := ⟨rfl, rfl, rfl, by decide +kernel, rfl, by decide +kernel, by decide +kernel⟩
-- 0 self, 1 other
def sp_add (C IP : Addr) : Sp := fun vs H Q E => ∃ (a b : Addr) (xs ys : Ln), vs = [.ref a, .ref b] ∧ PlO C H a xs ∧ PlO C H b ys ∧ xs.length ≤ 3 ∧ ys.length ≤ 3 ∧ (∀ l ∈ xs, l.2.length ≤ 4) ∧ (∀ l ∈ ys, l.2.length ≤ 4) ∧
  (∀ x y, xs = [x] → ys = [y] → x.2.length + y.2.length ≤ 4 → ∀ c r H', PlO C H' c [(r, x.2 ++ y.2)] → Same H H' → Q (.ref c) H') ∧
  ((∀ x y, xs = [x] → ys = [y] → 4 < x.2.length + y.2.length) → X0 IP H E)
theorem m_add (T : PnT K mg C) (D : MD K C "__add__" "Plan.__add__" s_Plan___add__) (x_InvalidPlan : Xn P w K mg base 1 IP "InvalidPlan" (sp_I0 IP)) (k_Plan : Kn P w K mg base (L2.CX P w) 4 C "Plan" (sp_pinit K C IP)) : Mn P w K mg base (L2.CX P w) 6 C "__add__" (sp_add C IP) := by
  refine D.mx sc_Plan___add__ (fun _ _ _ _ _ _ us hl => match us, hl with | [_, _], _ => rfl) (fun vs H Q E h => ?_) (fun f cdv A outer s H vs Q E hr h => ?_)
  · obtain ⟨a, b, xs, ys, rfl, _⟩ := h; rfl
  · obtain ⟨a, b, xs, ys, rfl, ha, hb, hx, hy, hx4, hy4, q, qx⟩ := h
    refine ⟨_, (pss_cons (ps_if (pw_or (pt_cmpR (op_neA (hr.units)) (pe_callB call_lenA (by rfl) T.n_len (by decide +kernel) (pa_cons (pe_fld (pv 0) (by rfl)) pa_nil)) pe_int (nomark _)) (pw_or1 (pt_cmpR (op_neA (hr.units)) (pe_callB call_lenA (by rfl) T.n_len (by decide +kernel) (pa_cons (pe_fld (pv 1) (by rfl)) pa_nil)) pe_int (nomark _)))).pt (pss_one (ps_raise rfl (takes_of rfl rfl rfl rfl) (pmk_0 x_InvalidPlan hr (by decide) (by rfl)))) pss_nil)
      (pss_one (ps_ret (pe_k k_Plan hr (by decide) (passes_call (takes_of rfl rfl rfl rfl) (fun _ _ _ _ h => h)) (by rfl) (pa_cons (pe_lst (pa_cons (pe_op op_addA (pe_ix ix_seq (pe_fld (pv 0) (by rfl)) pe_int (fun _ _ => rfl)) (pe_ix ix_seq (pe_fld (pv 1) (by rfl)) pe_int (fun _ _ => rfl))) pa_nil)) pa_nil))))), ?_⟩
    walk_at "rd"
    obtain ⟨da, ta, ha1, ha2, ha3⟩ := ha
    obtain ⟨db, tb, hb1, hb2, hb3⟩ := hb
    have lr : ∀ ls : Ln, (refs ls).length = ls.length := fun ls => by unfold refs; rw [List.length_map]
    refine ⟨C, da, _, ha1, T.cls, T.a_lanes, .ref ta, rfl, lenT (.inl ha2) (neII.mpr ⟨_, rfl, ?_⟩)⟩
    rw [lr]
    by_cases c1 : xs.length = 1
    · rw [if_neg (by simp [c1])]
      obtain ⟨x, rfl⟩ := List.length_eq_one_iff.mp c1
      refine ⟨C, db, _, hb1, T.cls, T.a_lanes, .ref tb, rfl, lenT (.inl hb2) (neII.mpr ⟨_, rfl, ?_⟩)⟩
      rw [lr]
      by_cases c2 : ys.length = 1
      · rw [if_neg (by simp [c2])]
        obtain ⟨y, rfl⟩ := List.length_eq_one_iff.mp c2
        refine ⟨C, da, _, ha1, T.cls, T.a_lanes, .ref ta, rfl, ixT (v := .ref x.1) (.inl ha2) (atN (n := 0) rfl) ⟨C, db, _, hb1, T.cls, T.a_lanes, .ref tb, rfl, ixT (v := .ref y.1) (.inl hb2) (atN (n := 0) rfl) ?_⟩⟩
        have hx1 := ha3 x List.mem_cons_self
        have hy1 := hb3 y List.mem_cons_self
        have lx := hx4 x List.mem_cons_self
        have ly := hy4 y List.mem_cons_self
        have key : ∀ (r : Addr) (H1 : Hp), Rd H1 r (.tup ((x.2 ++ y.2).map V.str)) → Same H H1 → 1 ≤ sizeLine ∧ ∀ (p : Addr), H1 p = none → ∀ (x_11 dx : Addr), upd H1 p (HO.lst [V.ref r]) x_11 = none → upd H1 p (HO.lst [V.ref r]) dx = none → dx ≠ x_11 →
            sp_pinit K C IP [V.ref x_11, V.ref p] (upd (upd (upd H1 p (HO.lst [V.ref r])) dx (HO.own x_11)) x_11 (HO.ins C dx [])) (fun v H2 => v = V.non ∧ Q (V.ref x_11) H2) E := fun r H1 hr1 s1 =>
          ⟨by rw [sizeLine_eq]; decide, fun l hl x' dx hx hdx ne => made (ls := [(r, x.2 ++ y.2)]) (.inl (.inl upd_same)) (fun l h => by rw [List.mem_singleton.mp h]; exact rd_same hr1 (UL.Same.new hl)) (by simp) (fun l h => by rw [List.mem_singleton.mp h, List.length_append]; omega)
            (fun o c H' pl s => q x y rfl rfl (by
              simp only [okP, List.all_cons, List.all_nil, Bool.and_true, Bool.and_eq_true, decide_eq_true_eq, List.length_append] at o
              exact o.2) c r H' pl (Same.tr s1 (Same.tr (UL.Same.new hl) s)))
            (fun o => (qx (fun x' y' ex ey => by
              cases ex
              cases ey
              simp only [okP, List.all_cons, List.all_nil, Bool.and_true, Bool.and_eq_false_iff, decide_eq_false_iff_not, List.length_cons, List.length_nil, List.length_append] at o
              omega)).same (Same.tr s1 (UL.Same.new hl))) hx hdx ne⟩
        refine .inr (.inr (.inl ⟨x.1, y.1, x.2.map V.str, y.2.map V.str, rfl, rfl, .inl hx1, .inl hy1, by rw [List.length_map, List.length_map, sizeLine_eq]; omega, fun e => ?_, fun e e2 => ?_, fun e e2 p hp => ?_⟩))
        · exact key y.1 H (by rw [List.map_append, e]; exact hy1) fun _ _ z => z
        · exact key x.1 H (by rw [List.map_append, e2, List.append_nil]; exact hx1) fun _ _ z => z
        · exact key p _ (.inl (by rw [List.map_append]; exact upd_same)) (UL.Same.new hp)
      · rw [if_pos (by simp; omega)]
        exact raise0P (qx fun x' y' _ e => absurd (by rw [e]; rfl) c2)
    · rw [if_pos (by simp; omega)]
      exact raise0P (qx fun x' y' e _ => absurd (by rw [e]; rfl) c1)
abbrev s_Plan___or__ : Stmt := inClass (top 12) 6
abbrev sc_Plan___or___N : List Str := ["self", "other"]
theorem sc_Plan___or__ : FnScope sc_Plan___or___N ["self", "other"] (defScope s_Plan___or__) := ⟨rfl, rfl, rfl, by decide +kernel, rfl, by decide +kernel, by decide +kernel⟩
-- 0 self, 1 other
def sp_or (C IP : Addr) : Sp := fun vs H Q E => ∃ (a b : Addr) (xs ys : Ln), vs = [.ref a, .ref b] ∧ PlO C H a xs ∧ PlO C H b ys ∧ xs.length ≤ 3 ∧ ys.length ≤ 3 ∧ (∀ l ∈ xs, l.2.length ≤ 4) ∧ (∀ l ∈ ys, l.2.length ≤ 4) ∧
  (xs.length + ys.length ≤ 3 → ∀ c H', PlO C H' c (xs ++ ys) → Same H H' → Q (.ref c) H') ∧ (3 < xs.length + ys.length → X0 IP H E)
theorem m_or (T : PnT K mg C) (D : MD K C "__or__" "Plan.__or__" s_Plan___or__) (k_Plan : Kn P w K mg base (L2.CX P w) 4 C "Plan" (sp_pinit K C IP)) : Mn P w K mg base (L2.CX P w) 6 C "__or__" (sp_or C IP) := by
  refine D.mx sc_Plan___or__ (fun _ _ _ _ _ _ us hl => match us, hl with | [_, _], _ => rfl) (fun vs H Q E h => ?_) (fun f cdv A outer s H vs Q E hr h => ?_)
  · obtain ⟨a, b, xs, ys, rfl, _⟩ := h; rfl
  · obtain ⟨a, b, xs, ys, rfl, ha, hb, hx, hy, hx4, hy4, q, qx⟩ := h
    refine ⟨_, (pss_one (ps_ret (pe_k k_Plan hr (by decide) (passes_call (takes_of rfl rfl rfl rfl) (fun _ _ _ _ h => h)) (by rfl) (pa_cons (pe_op op_addA (pe_fld (pv 0) (by rfl)) (pe_fld (pv 1) (by rfl))) pa_nil)))), ?_⟩
    walk_at "rd"
    obtain ⟨da, ta, ha1, ha2, ha3⟩ := ha
    obtain ⟨db, tb, hb1, hb2, hb3⟩ := hb
    have lr : ∀ ls : Ln, (refs ls).length = ls.length := fun ls => by unfold refs; rw [List.length_map]
    have hz : ∀ l ∈ xs ++ ys, l.2.length ≤ 4 := fun l h => (List.mem_append.mp h).elim (hx4 l) (hy4 l)
    have key : ∀ (p : Addr) (H1 : Hp), Rd H1 p (.tup (refs (xs ++ ys))) → Same H H1 → ∀ (x dx : Addr), H1 x = none → H1 dx = none → dx ≠ x → sp_pinit K C IP [V.ref x, V.ref p] (upd (upd H1 dx (HO.own x)) x (HO.ins C dx [])) (fun v H2 => v = V.non ∧ Q (V.ref x) H2) E := fun p H1 hp s x dx hx' hdx ne =>
      made (ls := xs ++ ys) (.inr hp) (fun l h => (List.mem_append.mp h).elim (fun h => rd_same (ha3 l h) s) fun h => rd_same (hb3 l h) s) (by rw [List.length_append]; omega) (fun l h => by have := hz l h; omega)
        (fun o x H' pl s' => q (by unfold okP at o; rw [Bool.and_eq_true, decide_eq_true_eq, List.length_append] at o; exact o.1) x H' pl (Same.tr s s'))
        (fun o => (qx (by
          unfold okP at o
          rw [Bool.and_eq_false_iff, decide_eq_false_iff_not, List.length_append] at o
          refine o.elim (fun h => by omega) fun h => ?_
          rw [List.all_eq_false] at h
          obtain ⟨l, hl, hn⟩ := h
          exact absurd (decide_eq_true (hz l hl)) hn)).same s) hx' hdx ne
    have er : refs (xs ++ ys) = refs xs ++ refs ys := by unfold refs; rw [List.map_append]
    refine ⟨C, da, _, ha1, T.cls, T.a_lanes, .ref ta, rfl, C, db, _, hb1, T.cls, T.a_lanes, .ref tb, rfl, .inr (.inr (.inl ⟨ta, tb, refs xs, refs ys, rfl, rfl, .inl ha2, .inl hb2, by rw [lr, lr, sizeLine_eq]; omega, fun e => ?_, fun e e2 => ?_, fun e e2 p hp => ?_⟩))⟩
    · exact key tb H (by rw [er, e]; exact hb2) fun _ _ z => z
    · exact key ta H (by rw [er, e2, List.append_nil]; exact ha2) fun _ _ z => z
    · exact key p _ (.inl (by rw [er]; exact upd_same)) (UL.Same.new hp)
end
end U
set_option Elab.async false
set_option linter.all false
set_option maxRecDepth 100000
set_option maxHeartbeats 4000000
/-! own __contains__, __len__, a comparison's own method; d[tuple]; a dict comprehension whose keys are tuples -/
namespace UX
open PySem PySem.Spec PyProof.Rows L2 UL UV UW ClX
end UX
set_option Elab.async false
set_option linter.all false
set_option maxRecDepth 100000
set_option maxHeartbeats 4000000
/-! a dict comprehension whose keys are tuples -/
namespace UX
open PySem PySem.Spec PyProof.Rows L2 UL UV UW ClX
end UX
set_option Elab.async false
set_option linter.all false
set_option maxRecDepth 100000
set_option maxHeartbeats 4000000
/-! plain data at a later heap; data compared -/
namespace UX
open PySem PySem.Spec PyProof.Rows L2 UL UV UW ClX
variable {K : PySem.W.Frag} {H H' : Hp}
theorem dpa_strs : ∀ {xs : List Str}, DpAll K H (xs.map V.str) (xs.map PyData.str)
  | [] => .nil
  | x :: r => .cons (.str x) dpa_strs
/-- may stand in a comparison, at most n deep -/
def Sh (n : Nat) (d : PyData) : Prop := PyData.canLay0 d = true ∧ PyData.depth d ≤ n
theorem Sh.shaped {n : Nat} {d : PyData} (h : Sh n d) (hn : n ≤ 64) : SeqAt.shaped d = true := by
  show (_ && _) = true
  rw [h.1, decide_eq_true (Nat.le_trans h.2 hn)]; rfl
theorem Sh.int (i : Int) : Sh 0 (.int i) := ⟨by simp [PyData.canLay0], by simp [PyData.depth]⟩
theorem Sh.non : Sh 0 .none := ⟨by simp [PyData.canLay0], by simp [PyData.depth]⟩
theorem Sh.bl (b : Bool) : Sh 0 (.bool b) := ⟨by simp [PyData.canLay0], by simp [PyData.depth]⟩
theorem Sh.str {x : Str} (h : PyData.strOk x = true) : Sh 0 (.str x) := ⟨by simpa [PyData.canLay0] using h, by simp [PyData.depth]⟩
theorem Sh.all {n : Nat} : ∀ {ds : List PyData}, (∀ d ∈ ds, Sh n d) → PyData.canLayAll0 ds = true ∧ PyData.depthAll ds ≤ n
  | [], _ => by simp [PyData.canLayAll0, PyData.depthAll]
  | d :: r, h => by
    have h1 := h d List.mem_cons_self
    have h2 := Sh.all (n := n) (ds := r) fun x hx => h x (List.mem_cons_of_mem _ hx)
    simp only [PyData.canLayAll0, PyData.depthAll, h1.1, h2.1, Bool.and_self, true_and]
    have := h1.2
    have := h2.2
    omega
theorem Sh.tup {n : Nat} {ds : List PyData} (h : ∀ d ∈ ds, Sh n d) : Sh (n + 1) (.tuple ds) := by
  have h := Sh.all h
  refine ⟨by rw [PyData.canLay0]; exact h.1, by rw [PyData.depth]; have := h.2; omega⟩
theorem Sh.lst {n : Nat} {ds : List PyData} (h : ∀ d ∈ ds, Sh n d) : Sh (n + 1) (.list ds) := by
  have h := Sh.all h
  refine ⟨by rw [PyData.canLay0]; exact h.1, by rw [PyData.depth]; have := h.2; omega⟩
theorem Sh.mono {n m : Nat} {d : PyData} (h : Sh n d) (l : n ≤ m) : Sh m d := ⟨h.1, Nat.le_trans h.2 l⟩
theorem sh_strs {xs : List Str} (h : ∀ x ∈ xs, PyData.strOk x = true) : ∀ d ∈ xs.map PyData.str, Sh 0 d := fun d hd => by
  obtain ⟨x, hx, rfl⟩ := List.mem_map.mp hd
  exact Sh.str (h x hx)
/-- == and != of data -/
theorem eqDD {n m : Nat} {x y : V} {d e : PyData} {Q : VK} (h1 : Dp K H x d) (h2 : Dp K H y e) (s1 : Sh n d) (s2 : Sh m e) (hn : n ≤ 64 := by decide) (hm : m ≤ 64 := by decide) (q : Q (.bl (PyData.eqv d e)) H) : rEqA K x y H Q := .inr ⟨d, e, h1, h2, s1.shaped hn, s2.shaped hm, q⟩
theorem neDD {n m : Nat} {x y : V} {d e : PyData} {Q : VK} (h1 : Dp K H x d) (h2 : Dp K H y e) (s1 : Sh n d) (s2 : Sh m e) (hn : n ≤ 64 := by decide) (hm : m ≤ 64 := by decide) (q : Q (.bl (!PyData.eqv d e)) H) : rNeA K x y H Q := .inr ⟨d, e, h1, h2, s1.shaped hn, s2.shaped hm, q⟩
theorem eqv_same {n : Nat} {d : PyData} (h : Sh n d) : PyData.eqv d d = true := SeqAt.eqv_refl d h.1
theorem cut_from (xs : List V) (n : Nat) : cutV xs (some (n : Int)) none = xs.drop n := by
  unfold cutV
  rw [HT.sIx_nat, HT.sIx_none]
  by_cases h : n ≤ xs.length
  · rw [Nat.min_eq_left h]; exact List.take_of_length_le (by rw [List.length_drop]; omega)
  · rw [Nat.min_eq_right (by omega), List.drop_eq_nil_of_le (Nat.le_refl _), List.drop_eq_nil_of_le (by omega)]; simp
theorem cut_to (xs : List V) (n : Nat) : cutV xs none (some (n : Int)) = xs.take n := by
  unfold cutV
  rw [HT.sIx_nat, HT.sIx_none, List.drop_zero, Nat.sub_zero]
  by_cases h : n ≤ xs.length
  · rw [Nat.min_eq_left h]
  · rw [Nat.min_eq_right (by omega), List.take_of_length_le (Nat.le_refl _), List.take_of_length_le (by omega)]
/-- two lists put together -/
theorem catL {H : Hp} {Q : VK} {a b : Addr} {xs ys : List V} (ha : H a = some (.lst xs)) (hb : H b = some (.lst ys)) (hl : xs.length + ys.length ≤ sizeLine) (q : ∀ r, H r = none → Q (.ref r) (upd H r (.lst (xs ++ ys)))) : rAddA K (.ref a) (.ref b) H Q :=
  .inr (.inr (.inr ⟨a, b, xs, ys, rfl, rfl, ha, hb, hl, q⟩))
/-! a block in two parts, by what holds between them -/
section
variable {t1 t2 t3 t4 t5 tb : TS} {D : Ends} {σ : L2.St} {H : Hp}
theorem seq_cut (M : L2.St → Hp → Prop) (h1 : ∀ tl : L2.St → Hp → Prop, (∀ σ H, M σ H → tl σ H) → t1 { D with nx := tl } σ H) (h2 : ∀ σ H, M σ H → tb D σ H) : tSeq t1 tb D σ H := h1 (tb D) h2
theorem seq_cut2 (M : L2.St → Hp → Prop) (h1 : ∀ tl : L2.St → Hp → Prop, (∀ σ H, M σ H → tl σ H) → tSeq t1 t2 { D with nx := tl } σ H) (h2 : ∀ σ H, M σ H → tb D σ H) : tSeq t1 (tSeq t2 tb) D σ H := h1 (tb D) h2
theorem seq_cut3 (M : L2.St → Hp → Prop) (h1 : ∀ tl : L2.St → Hp → Prop, (∀ σ H, M σ H → tl σ H) → tSeq t1 (tSeq t2 t3) { D with nx := tl } σ H) (h2 : ∀ σ H, M σ H → tb D σ H) : tSeq t1 (tSeq t2 (tSeq t3 tb)) D σ H := h1 (tb D) h2
theorem seq_cut4 (M : L2.St → Hp → Prop) (h1 : ∀ tl : L2.St → Hp → Prop, (∀ σ H, M σ H → tl σ H) → tSeq t1 (tSeq t2 (tSeq t3 t4)) { D with nx := tl } σ H) (h2 : ∀ σ H, M σ H → tb D σ H) : tSeq t1 (tSeq t2 (tSeq t3 (tSeq t4 tb))) D σ H := h1 (tb D) h2
end
end UX
set_option Elab.async false
set_option linter.all false
set_option maxRecDepth 100000
set_option maxHeartbeats 4000000
/-! iter(a list); list(o), where o's own __iter__ hands back an iterator over a list and o has its own __len__ -/
namespace UX
open PySem PySem.Spec PyProof.Rows L2 UL UV UW ClX
end UX
set_option Elab.async false
set_option linter.all false
set_option maxRecDepth 100000
set_option maxHeartbeats 4000000
/-! rules with the constants named; own + & and its like; lists of ints in order -/
namespace UX
open PySem PySem.Spec PyProof.Rows L2 UL UV UW ClX
section
variable {X : Cx} {CX : CXT} {k j : Nat} {C : Addr} {sp spI spL : Sp} {E : XK} {fi fl : Addr}
theorem pe_fldK (K : PySem.W.Frag) (h : X.K = K) {e : Expr} {f : Str} {pos : Pos} {ta : TE} (he : PE X e ta) (hab : attributeBase e f X.env (eval e X.env) = eval e X.env) : PE X (.Attribute e f pos) (tFld K ta f) := h ▸ pe_fld he hab
/-- an own binary operator of two of the class -/
def rBinO (C : Addr) (sp : Sp) (E : XK) : R2 := fun x y H Q => ∃ a dx fs b dy gs, x = .ref a ∧ y = .ref b ∧ H a = some (.ins C dx fs) ∧ H b = some (.ins C dy gs) ∧ sp [.ref a, .ref b] H Q E
theorem op_binO {op : Operator} (d : BOn X.prog X.w X.K X.mg X.base CX k C op sp) (hr : Room j X.A) (hk : k ≤ j) (hx : Passes CX X E) : OpR X (binaryOp op) (rBinO C sp E) := by
  obtain ⟨f, fd, ps, F, c, B⟩ := d.ex
  intro pins s σ H x y v u Q I rx ry h
  obtain ⟨a, dx, fs, b, dy, gs, rfl, rfl, e1, e2, q⟩ := h
  cases rx
  cases ry
  obtain ⟨od, J⟩ := inst_of I e1
  obtain ⟨od', J'⟩ := inst_of I e2
  obtain ⟨m, hF⟩ := I.fr
  refine PySem.W.binop_K hF I.ok.mod.kin J J'.type c.sf c.at_ c.is (thn (run_fn (us := [.ref a, .ref b]) (vs := [.ref a, .ref b]) F (hr.mono hk) B .nil hx I (.cons rfl (.cons rfl .nil)) q) fun r s1 z => ?_)
  obtain ⟨z', H', I', rz, qz⟩ := z
  exact SlX.cmpback rz ⟨z', H', I', rz, qz⟩
end
/-! ### lists of ints, compared from the left -/
end UX
set_option Elab.async false
set_option linter.all false
set_option maxRecDepth 100000
set_option maxHeartbeats 4000000
set_option pp.deepTerms true
set_option pp.maxSteps 400000
namespace U
open PySem PySem.Spec PyProof.Rows L2 UL UX
local macro_rules | `(tactic| walk_at "rd") => `(tactic| simp only [sMatch, tJs, tFmt, tBC, tMethA, tMakeL, iEnumS, tSeq, tAsg, tOp, tCB, tCons, tNil, tVar, tC, tB, tTest, tNot, tIfS, tNext, tYes, tUn, rU, tM0, tGFrom, tGThen, tG0, tYfLst, gcxK, tSubO, tProp, tListG, tMethG, tBMF, tFld, sFld, tMeth, tMake, tSl, tNoPart, tPart, tM1, gTup, gCons, gNil, tDrop, tFor_eq, tLc_eq, tLc2_eq, iRng1_eq, StX.tStar, iList, iTup, iStr, iAny_var, iZipB, tLenSetS, wipe, tVar, tAndV, tOrV, tNotV, tOr, tAnd, tLst, tTup, tBM, tBM0, tChain, tCall, cxK, noxK, addII, addSS, mulII, eqII, neII, neSS, cIntI, cAbsI, rI, rI0, rLt, rLe, rGt_, rGe_, rSub_, rMod, rPow, rDivW, rNeg, gName, tRet, L2.start, List.length_cons, List.length_nil, List.map_cons, List.map_nil, List.replicate, List.cons_append, List.nil_append, List.getElem?_cons_zero, List.getElem?_cons_succ, List.set_cons_zero, List.set_cons_succ, Option.some.injEq, exists_eq_left', exists_eq_left, V.int.injEq, V.bl.injEq, V.str.injEq, V.ref.injEq, V.ty.injEq, List.cons.injEq, and_true, true_and, reduceCtorEq, false_and, exists_false, or_false, false_or, exists_and_left, exists_and_right, List.append_nil, forall_eq, decide_eq_true_eq, Bool.not_eq_true, Nat.reduceAdd, Nat.reduceSub, List.replicate_zero, List.replicate_succ, Nat.zero_le, ite_true, ite_false, if_true, if_false])
section
variable {P : Program} {w : World} {K : PySem.W.Frag} {mg : Str → Option Value} {base : Heap}
open UV UW NdefX ClX
variable {R Wr B Pg Sy IC UC IS UP WE IP C : Addr}
/-! ### lanes -/
def stepsN (qs : List Rw) (v : Nat) : Nat := ((qs[v]?).map fun q => q.ks.length).getD 0
def lenN (qs : List Rw) (L : List Nat) : Nat := (L.map (stepsN qs)).sum
def totN (qs : List Rw) (Ls : List (List Nat)) : Nat := (Ls.map (lenN qs)).sum
theorem stepsN_at {qs : List Rw} {v : Nat} {q : Rw} (h : qs[v]? = some q) : stepsN qs v = q.ks.length := by unfold stepsN; rw [h]; rfl
theorem lenN_snoc {qs : List Rw} {L : List Nat} {v : Nat} : lenN qs (L ++ [v]) = lenN qs L + stepsN qs v := by unfold lenN; simp
theorem totN_snoc {qs : List Rw} {Ls : List (List Nat)} {L : List Nat} : totN qs (Ls ++ [L]) = totN qs Ls + lenN qs L := by unfold totN; simp
def NatL (H : Hp) (t : Addr) (L : List Nat) : Prop := H t = some (.lst (L.map fun (n : Nat) => V.int n))
def LanH (H : Hp) (a : Addr) (Ls : List (List Nat)) : Prop := ∃ ts : List Addr, H a = some (.lst (ts.map V.ref)) ∧ Paired (fun t L => NatL H t L) ts Ls
theorem LanH.same {H H' : Hp} {a : Addr} {Ls : List (List Nat)} (h : LanH H a Ls) (s : Same H H') : LanH H' a Ls := let ⟨ts, h1, h2⟩ := h; ⟨ts, s _ _ h1, L2.Paired.mapP h2 fun _ _ g => s _ _ g⟩
theorem plenW {α β : Type} {F : α → β → Prop} : ∀ {l : List α} {m : List β}, Paired F l m → l.length = m.length
  | [], [], _ => rfl
  | _ :: _, _ :: _, .cons _ r => congrArg (· + 1) (plenW r)
theorem patW {α β : Type} {F : α → β → Prop} : ∀ {l : List α} {m : List β}, Paired F l m → ∀ {i : Nat} {a : α}, l[i]? = some a → ∃ b, m[i]? = some b ∧ F a b
  | _, _, .nil, i, a, e => by simp at e
  | _, _, .cons r _, 0, a, e => by simp at e; subst e; exact ⟨_, rfl, r⟩
  | _, _, .cons _ t, i + 1, a, e => by
    obtain ⟨b, h1, h2⟩ := patW t (i := i) (a := a) (by simpa using e)
    exact ⟨b, by simpa using h1, h2⟩
theorem pappW {α β : Type} {F : α → β → Prop} : ∀ {l l' : List α} {m m' : List β}, Paired F l m → Paired F l' m' → Paired F (l ++ l') (m ++ m')
  | _, _, _, _, .nil, h => h
  | _, _, _, _, .cons r t, h => .cons r (pappW t h)
theorem ratW {ts : List Addr} {i : Nat} {x : V} (h : (ts.map V.ref)[i]? = some x) : ∃ t, ts[i]? = some t ∧ x = V.ref t := by
  rw [List.getElem?_map] at h
  cases e : ts[i]? with
  | none => rw [e] at h; cases h
  | some t => rw [e] at h; exact ⟨t, rfl, (Option.some.inj h).symm⟩
/-- lanes of programs that are there -/
def LanOk (qs : List Rw) (Ls : List (List Nat)) : Prop := Ls.length ≤ 3 ∧ ∀ L ∈ Ls, L.length ≤ 4 ∧ ∀ v ∈ L, v < qs.length
abbrev s__law_plan : Stmt := top 63
abbrev sc__law_plan_N : List Str := ["_law_programs_here", "_law_lanes_here", "_law_plan_here", "_law_lane", "_law_row", "_law_which"]
theorem sc__law_plan : FnScope sc__law_plan_N ["_law_programs_here", "_law_lanes_here"] (defScope s__law_plan) := ⟨rfl, rfl, rfl, by decide +kernel, rfl, by decide +kernel, by decide +kernel⟩
-- 0 _law_programs_here, 1 _law_lanes_here, 2 _law_plan_here, 3 _law_lane, 4 _law_row, 5 _law_which
/-- the plan of lanes: its names -/
def nmsOf (qs : List Rw) (L : List Nat) : List Str := L.filterMap fun v => (qs[v]?).map (·.n)
def sp_lplan (C : Addr) : Sp := fun vs H Q _ => ∃ (r a : Addr) (qs : List Rw) (Ls : List (List Nat)), vs = [.ref r, .ref a] ∧ PrL H r qs ∧ LanH H a Ls ∧ LanOk qs Ls ∧
  ∀ x (zs : Ln) H', PlO C H' x zs → zs.map (·.2) = Ls.map (nmsOf qs) → Same H H' → Q (.ref x) H'
theorem d_lplan (T : PnT K mg C) (D : TD K mg "_law_plan" s__law_plan) (CM_empty : UX.CMnX P w K mg base (L2.CX P w) 6 C "Plan" "empty" (sp_empty C)) (CM_of : UX.CMnX P w K mg base (L2.CX P w) 6 C "Plan" "of" (sp_of C IP)) (Bo_add : UX.BOn P w K mg base (L2.CX P w) 6 C .Add (sp_add C IP)) (Bo_or : UX.BOn P w K mg base (L2.CX P w) 6 C .BitOr (sp_or C IP)) : Dn P w K mg base CX0 9 "_law_plan" (sp_lplan C) := by
  refine D.dn sc__law_plan (fun _ _ _ _ _ _ us hl => match us, hl with | [_, _], _ => rfl) (fun vs H Q E h => ?_) (fun f cdv A outer s H vs Q E hr h => ?_)
  · obtain ⟨r, a, qs, Ls, rfl, _⟩ := h; rfl
  · obtain ⟨r, a, qs, Ls, rfl, hr0, ⟨ts, ha, hts⟩, hok, q⟩ := h
    refine ⟨_, (pss_cons (ps_set (i := 2) sc__law_plan.nd rfl (Or.inl rfl) (pe_cmX0 CM_empty hr (by decide) (fun σ => passAt takes0 σ) (by rfl)))
      (pss_cons (ps_for PassesOwn.never rfl (pi_list (pv 1)) (pg_name (i := 3) sc__law_plan.nd rfl (Or.inl rfl)) (pss_cons (ps_set (i := 4) sc__law_plan.nd rfl (Or.inl rfl) (pe_cmX0 CM_of hr (by decide) (fun σ => passAt takes0 σ) (by rfl)))
      (pss_cons (ps_for PassesOwn.never rfl (pi_list (pv 3)) (pg_name (i := 5) sc__law_plan.nd rfl (Or.inl rfl)) (pss_one (ps_set (i := 4) sc__law_plan.nd rfl (Or.inl rfl) (pe_op (op_binO Bo_add hr (by decide) passL) (pv 4) (pe_cmX CM_of hr (by decide) (fun σ => passAt takes0 σ) (by rfl) (pa_cons (pe_ix ix_seq (pe_ix ix_seq (pv 0) (pv 5) (fun _ _ => rfl)) pe_int (fun _ _ => rfl)) pa_nil))))))
      (pss_one (ps_set (i := 2) sc__law_plan.nd rfl (Or.inl rfl) (pe_op (op_binO Bo_or hr (by decide) passL) (pv 2) (pv 4)))))))
      (pss_one (ps_ret (pv 2))))), ?_⟩
    simp only [tBCX]
    walk_at "rd"
    refine ⟨rfl, fun x H1 px s1 => ⟨⟨_, .inl (.inl (s1 _ _ ha))⟩, FJ.list (xs := ts.map V.ref) (fun i σ' H' => ∃ (x : Addr) (zs : Ln) (z3 z4 z5 : Option V), σ' = [some (.ref r), some (.ref a), some (.ref x), z3, z4, z5] ∧ PlO C H' x zs ∧ zs.map (·.2) = (Ls.take i).map (nmsOf qs) ∧ Same H H') ⟨x, [], _, _, _, rfl, px, rfl, s1⟩ (fun i σ' H' _ inv => ?_) (fun i y σ' H' hx inv => ?_) fun σ' H' inv => ?_⟩⟩
    · obtain ⟨x, zs, z3, z4, z5, _, _, _, sm⟩ := inv
      exact .inl (.inl (sm _ _ ha))
    · obtain ⟨x, zs, z3, z4, z5, rfl, px, ez, sm⟩ := inv
      obtain ⟨t, hti, rfl⟩ := ratW hx
      obtain ⟨L, hLi, ht⟩ := patW hts hti
      have hLm := List.mem_of_getElem? hLi
      obtain ⟨l4, lq⟩ := hok.2 L hLm
      walk_at "rd"
      simp only [tBCX]
      walk_at "rd"
      refine ⟨[], rfl, by decide, fun _ y rr H2 py s2 => ⟨⟨_, .inl (.inl (s2 _ _ (sm _ _ ht)))⟩, FJ.list (xs := L.map fun (n : Nat) => V.int n) (fun j σ' H3 => ∃ (y rr : Addr) (z5 : Option V), σ' = [some (.ref r), some (.ref a), some (.ref x), some (.ref t), some (.ref y), z5] ∧ PlO C H3 y [(rr, nmsOf qs (L.take j))] ∧ Same H' H3) ⟨y, rr, _, rfl, py, s2⟩ (fun j σ' H3 _ inv => ?_) (fun j z σ' H3 hz inv => ?_) fun σ' H3 inv => ?_⟩, fun h => by simp at h⟩
      · obtain ⟨_, _, _, _, _, s3⟩ := inv
        exact .inl (.inl (s3 _ _ (sm _ _ ht)))
      · obtain ⟨y, rr, z5, rfl, py, s3⟩ := inv
        rw [List.getElem?_map] at hz
        obtain ⟨v, hv, rfl⟩ := Option.map_eq_some_iff.mp hz
        have hvq := lq v (List.mem_of_getElem? hv)
        have hjl := (List.getElem?_eq_some_iff.mp hv).1
        have sm3 := Same.tr sm s3
        have hr3 := hr0.same sm3
        have e0 : (qs.map fun q => V.ref q.r)[v]? = some (V.ref qs[v].r) := by rw [List.getElem?_map, List.getElem?_eq_getElem hvq]; rfl
        have g1 := hr3.2 qs[v] (List.getElem_mem hvq)
        walk_at "rd"
        simp only [tBCX]
        walk_at "rd"
        refine ixL (.inl (.inl hr3.1)) (atN e0) (ixT (.inl (.inl g1.1)) (show atI _ ((0 : Nat) : Int) = some (V.str qs[v].n) from atN rfl) ⟨[qs[v].n], rfl, by show 1 ≤ 1000; decide, fun _ y2 r2 H4 py2 s4 => ?_, fun h => by simp at h⟩)
        have py4 := py.same s4
        have py4' := py4
        have py2' := py2
        obtain ⟨d1, t1, k1, _, _⟩ := py4'
        obtain ⟨d2, t2, k2, _, _⟩ := py2'
        have en : nmsOf qs (L.take (j + 1)) = nmsOf qs (L.take j) ++ [qs[v].n] := by
          unfold nmsOf
          rw [List.take_add_one, hv, List.filterMap_append]
          simp [List.getElem?_eq_getElem hvq]
        have ln : (nmsOf qs (L.take j)).length ≤ j := by
          unfold nmsOf
          refine Nat.le_trans (List.length_filterMap_le _ _) ?_
          rw [List.length_take]; omega
        refine ⟨y, d1, _, y2, d2, _, rfl, rfl, k1, k2, y, y2, _, _, rfl, py4, py2, by show 1 ≤ 3; decide, by show 1 ≤ 3; decide, fun l hl => ?_, fun l hl => ?_, fun x' y' ex ey hle c r3 H5 pc s5 => ?_, fun h => ?_⟩
        · rw [List.mem_singleton.mp hl]; show (nmsOf qs (L.take j)).length ≤ 4; omega
        · rw [List.mem_singleton.mp hl]; show 1 ≤ 4; decide
        · cases ex; cases ey
          refine ⟨c, ⟨rfl, _, rfl⟩, ⟨r3, ?_⟩, Same.tr s3 (Same.tr s4 s5)⟩
          rw [en]
          exact pc
        · have := h _ _ rfl rfl
          simp only [List.length_cons, List.length_nil] at this
          omega
      · obtain ⟨y, rr, z5, rfl, py, s3⟩ := inv
        rw [List.length_map, List.take_length] at py
        walk_at "rd"
        have px3 := px.same s3
        have px3' := px3
        have py' := py
        obtain ⟨d1, t1, k1, _, _⟩ := px3'
        obtain ⟨d2, t2, k2, _, _⟩ := py'
        have lz : zs.length ≤ i := by
          have := congrArg List.length ez
          rw [List.length_map, List.length_map, List.length_take] at this
          omega
        have il : i < Ls.length := (List.getElem?_eq_some_iff.mp hLi).1
        have l3 := hok.1
        have nle : ∀ L ∈ Ls, (nmsOf qs L).length ≤ 4 := fun L hL => by
          unfold nmsOf
          exact Nat.le_trans (List.length_filterMap_le _ _) (hok.2 L hL).1
        refine ⟨x, d1, _, y, d2, _, rfl, rfl, k1, k2, x, y, zs, _, rfl, px3, py, by omega, by show 1 ≤ 3; decide, fun l hl => ?_, fun l hl => ?_, fun _ c H5 pc s5 => ?_, fun h => ?_⟩
        · have hm : l.2 ∈ zs.map (·.2) := List.mem_map_of_mem hl
          rw [ez] at hm
          obtain ⟨L', hL', e⟩ := List.mem_map.mp hm
          rw [← e]
          exact nle L' (List.mem_of_mem_take hL')
        · rw [List.mem_singleton.mp hl]; exact nle L hLm
        · refine ⟨c, ⟨rfl, _, rfl⟩, _, pc, ?_, Same.tr sm (Same.tr s3 s5)⟩
          rw [List.map_append, ez, List.take_add_one, hLi, List.map_append]
          rfl
        · exfalso
          simp only [List.length_cons, List.length_nil] at h
          omega
    · obtain ⟨x, zs, z3, z4, z5, rfl, px, ez, sm⟩ := inv
      rw [List.length_map, plenW hts, List.take_length] at ez
      walk_at "rd"
      exact q x zs H' px ez sm
abbrev s__law_tracks : Stmt := top 58
abbrev sc__law_tracks_N : List Str := ["_law_programs_here", "_law_lanes_here", "_law_tracks_here", "_law_lane", "_law_track", "_law_which"]
theorem sc__law_tracks : FnScope sc__law_tracks_N ["_law_programs_here", "_law_lanes_here"] (defScope s__law_tracks) := ⟨rfl, rfl, rfl, by decide +kernel, rfl, by decide +kernel, by decide +kernel⟩
-- 0 _law_programs_here, 1 _law_lanes_here, 2 _law_tracks_here, 3 _law_lane, 4 _law_track, 5 _law_which
/-- the steps of a lane -/
def trkOf (qs : List Rw) (L : List Nat) : List Addr := L.flatMap fun v => ((qs[v]?).map (·.rs)).getD []
def sp_ltracks : Sp := fun vs H Q _ => ∃ (r a : Addr) (qs : List Rw) (Ls : List (List Nat)), vs = [.ref r, .ref a] ∧ PrL H r qs ∧ (∀ q ∈ qs, q.rs.length ≤ 4) ∧ LanH H a Ls ∧ LanOk qs Ls ∧
  ∀ x (ts : List Addr) H', H x = none → H' x = some (.lst (ts.map V.ref)) → Paired (fun (t : Addr) (S : List Addr) => H t = none ∧ H' t = some (.lst (S.map V.ref))) ts (Ls.map (trkOf qs)) → Same H H' → Q (.ref x) H'
theorem d_ltracks (T : Nm mg) (D : TD K mg "_law_tracks" s__law_tracks) : Dn P w K mg base CX0 2 "_law_tracks" sp_ltracks := by
  refine D.dn sc__law_tracks (fun _ _ _ _ _ _ us hl => match us, hl with | [_, _], _ => rfl) (fun vs H Q E h => ?_) (fun f cdv A outer s H vs Q E hr h => ?_)
  · obtain ⟨r, a, qs, Ls, rfl, _⟩ := h; rfl
  · obtain ⟨r, a, qs, Ls, rfl, hr0, hq4, ⟨ts, ha, hts⟩, hok, q⟩ := h
    refine ⟨_, (pss_cons (ps_set (i := 2) sc__law_tracks.nd rfl (Or.inl rfl) (pe_lst pa_nil))
      (pss_cons (ps_for PassesOwn.never rfl (pi_list (pv 1)) (pg_name (i := 3) sc__law_tracks.nd rfl (Or.inl rfl)) (pss_cons (ps_set (i := 4) sc__law_tracks.nd rfl (Or.inl rfl) (pe_lst pa_nil))
      (pss_cons (ps_for PassesOwn.never rfl (pi_list (pv 3)) (pg_name (i := 5) sc__law_tracks.nd rfl (Or.inl rfl)) (pss_one (ps_set (i := 4) sc__law_tracks.nd rfl (Or.inl rfl) (pe_op op_addA (pv 4) (pe_ix ix_seq (pe_ix ix_seq (pv 0) (pv 5) (fun _ _ => rfl)) pe_int (fun _ _ => rfl))))))
      (pss_one (ps_expr (pe_bm PySem.F.plainAttrs_list PySem.F.slot_list_append PySem.F.type_list_append mt_append (pv 2) (pa_cons (pv 4) pa_nil)))))))
      (pss_one (ps_ret (pv 2))))), ?_⟩
    walk_at "rd"
    intro x hx0
    have s0 : Same H (upd H x (.lst [])) := UL.Same.new hx0
    refine ⟨⟨_, .inl (.inl (s0 _ _ ha))⟩, FJ.list (xs := ts.map V.ref) (fun i σ' H' => ∃ (us : List Addr) (z3 z4 z5 : Option V), σ' = [some (.ref r), some (.ref a), some (.ref x), z3, z4, z5] ∧ H' x = some (.lst (us.map V.ref)) ∧ Paired (fun (t : Addr) (S : List Addr) => t ≠ x ∧ H t = none ∧ H' t = some (.lst (S.map V.ref))) us ((Ls.take i).map (trkOf qs)) ∧ Same H H') ⟨[], _, _, _, rfl, upd_same, .nil, s0⟩ (fun i σ' H' _ inv => ?_) (fun i y σ' H' hx inv => ?_) fun σ' H' inv => ?_⟩
    · obtain ⟨us, z3, z4, z5, _, _, _, sm⟩ := inv
      exact .inl (.inl (sm _ _ ha))
    · obtain ⟨us, z3, z4, z5, rfl, e1, pu, sm⟩ := inv
      obtain ⟨t, hti, rfl⟩ := ratW hx
      obtain ⟨L, hLi, ht⟩ := patW hts hti
      have hLm := List.mem_of_getElem? hLi
      obtain ⟨l4, lq⟩ := hok.2 L hLm
      have ht' := sm _ _ ht
      walk_at "rd"
      intro p hp
      have s2 : Same H' (upd H' p (.lst [])) := UL.Same.new hp
      refine ⟨⟨_, .inl (.inl (s2 _ _ ht'))⟩, FJ.list (xs := L.map fun (n : Nat) => V.int n) (fun j σ' H3 => ∃ (y : Addr) (z5 : Option V), σ' = [some (.ref r), some (.ref a), some (.ref x), some (.ref t), some (.ref y), z5] ∧ y ≠ x ∧ H y = none ∧ H3 y = some (.lst ((trkOf qs (L.take j)).map V.ref)) ∧ Same H' H3) ⟨p, _, rfl, Ne.symm (ne_of_none e1 hp), Same.free sm hp, upd_same, s2⟩ (fun j σ' H3 _ inv => ?_) (fun j z σ' H3 hz inv => ?_) fun σ' H3 inv => ?_⟩
      · obtain ⟨_, _, _, _, _, _, s3⟩ := inv
        exact .inl (.inl (s3 _ _ ht'))
      · obtain ⟨y, z5, rfl, nyx, yn, ey, s3⟩ := inv
        rw [List.getElem?_map] at hz
        obtain ⟨v, hv, rfl⟩ := Option.map_eq_some_iff.mp hz
        have hvq := lq v (List.mem_of_getElem? hv)
        have hjl := (List.getElem?_eq_some_iff.mp hv).1
        have sm3 := Same.tr sm s3
        have hr3 := hr0.same sm3
        have e0 : (qs.map fun q => V.ref q.r)[v]? = some (V.ref qs[v].r) := by rw [List.getElem?_map, List.getElem?_eq_getElem hvq]; rfl
        have g1 := hr3.2 qs[v] (List.getElem_mem hvq)
        have en : trkOf qs (L.take (j + 1)) = trkOf qs (L.take j) ++ qs[v].rs := by
          unfold trkOf
          rw [List.take_add_one, hv, List.flatMap_append]
          simp [List.getElem?_eq_getElem hvq]
        have len4 : ∀ M : List Nat, (trkOf qs M).length ≤ 4 * M.length := fun M => by
          induction M with
          | nil => exact Nat.zero_le _
          | cons u M ih =>
            have e : trkOf qs (u :: M) = (((qs[u]?).map (·.rs)).getD []) ++ trkOf qs M := rfl
            rw [e, List.length_append, List.length_cons]
            have : (((qs[u]?).map (·.rs)).getD []).length ≤ 4 := by
              cases hu : qs[u]? with
              | none => exact Nat.zero_le _
              | some q0 => exact hq4 q0 (List.mem_of_getElem? hu)
            omega
        have l1 := len4 (L.take j)
        rw [List.length_take] at l1
        have l2 := hq4 qs[v] (List.getElem_mem hvq)
        walk_at "rd"
        refine ixL (.inl (.inl hr3.1)) (atN e0) (ixT (.inl (.inl g1.1)) (show atI _ ((1 : Nat) : Int) = some (V.ref qs[v].sl) from atN rfl) (catL ey g1.2.1 (by rw [List.length_map, List.length_map, sizeLine_eq]; omega) fun p2 hp2 => ⟨p2, ⟨rfl, _, rfl⟩, Ne.symm (ne_of_none (s3 _ _ e1) hp2), Same.free (Same.tr sm s3) hp2, ?_, Same.tr s3 (UL.Same.new hp2)⟩))
        rw [upd_same, en, List.map_append]
      · obtain ⟨y, z5, rfl, nyx, yn, ey, s3⟩ := inv
        rw [List.length_map, List.take_length] at ey
        walk_at "rd"
        have e13 := s3 _ _ e1
        have il : i < Ls.length := (List.getElem?_eq_some_iff.mp hLi).1
        have l3 := hok.1
        have lu := plenW pu
        rw [List.length_map, List.length_take] at lu
        refine ⟨.inl ⟨rfl, _, .inl (.inl e13)⟩, x, _, _, rfl, rfl, e13, by rw [List.length_map, sizeLine_eq]; omega, ⟨_, rfl⟩, us ++ [y], by rw [upd_same, List.map_append]; rfl, ?_, UL.Same.put (Same.tr sm s3) hx0⟩
        rw [List.take_add_one, hLi, List.map_append]
        exact pappW (L2.Paired.mapP pu fun _ _ g => ⟨g.1, g.2.1, (upd_ne g.1).trans (s3 _ _ g.2.2)⟩) (.cons ⟨nyx, yn, (upd_ne nyx).trans ey⟩ .nil)
    · obtain ⟨us, z3, z4, z5, rfl, e1, pu, sm⟩ := inv
      rw [List.length_map, plenW hts, List.take_length] at pu
      walk_at "rd"
      exact q x us H' hx0 e1 (L2.Paired.mapP pu fun _ _ g => g.2) sm
end
end U
set_option Elab.async false
set_option linter.all false
set_option maxRecDepth 100000
set_option maxHeartbeats 4000000
set_option pp.deepTerms true
set_option pp.maxSteps 400000
namespace U
open PySem PySem.Spec PyProof.Rows L2 UL UX
local macro_rules | `(tactic| walk_at "rd") => `(tactic| simp only [sMatch, tJs, tFmt, tBC, tMethA, tMakeL, iEnumS, tSeq, tAsg, tOp, tCB, tCons, tNil, tVar, tC, tB, tTest, tNot, tIfS, tNext, tYes, tUn, rU, tM0, tGFrom, tGThen, tG0, tYfLst, gcxK, tSubO, tProp, tListG, tMethG, tBMF, tFld, sFld, tMeth, tMake, tSl, tNoPart, tPart, tM1, gTup, gCons, gNil, tDrop, tFor_eq, tLc_eq, tLc2_eq, iRng1_eq, StX.tStar, iList, iTup, iStr, iAny_var, iZipB, tLenSetS, wipe, tVar, tAndV, tOrV, tNotV, tOr, tAnd, tLst, tTup, tBM, tBM0, tChain, tCall, cxK, noxK, addII, addSS, mulII, eqII, neII, neSS, cIntI, cAbsI, rI, rI0, rLt, rLe, rGt_, rGe_, rSub_, rMod, rPow, rDivW, rNeg, gName, tRet, L2.start, List.length_cons, List.length_nil, List.map_cons, List.map_nil, List.replicate, List.cons_append, List.nil_append, List.getElem?_cons_zero, List.getElem?_cons_succ, List.set_cons_zero, List.set_cons_succ, Option.some.injEq, exists_eq_left', exists_eq_left, V.int.injEq, V.bl.injEq, V.str.injEq, V.ref.injEq, V.ty.injEq, List.cons.injEq, and_true, true_and, reduceCtorEq, false_and, exists_false, or_false, false_or, exists_and_left, exists_and_right, List.append_nil, forall_eq, decide_eq_true_eq, Bool.not_eq_true, Nat.reduceAdd, Nat.reduceSub, List.replicate_zero, List.replicate_succ, Nat.zero_le, ite_true, ite_false, if_true, if_false])
section
variable {P : Program} {w : World} {K : PySem.W.Frag} {mg : Str → Option Value} {base : Heap}
open UV UW NdefX ClX
variable {R Wr B Pg Sy IC UC IS UP WE IP C : Addr}
theorem drawW {p : Addr} {m : Int} {H : Hp} {Q : VK} {E : XK} (hm : 0 < m) (hp : Pl H p) (q : ∀ r H', 0 ≤ r → r < m → Pl H' p → But p H H' → Q (.int r) H') : sp_draw [.ref p, .int m] H Q E := ⟨p, m, rfl, hm, hp, q⟩
/-- one of ints is drawn -/
theorem pickW {p : Addr} {H : Hp} {R : VK} {E : XK} {ls : List Int} {m : Int} (hp : Pl H p) (hn : ls ≠ []) (hs : ls.length ≤ 16) (hm : m = ls.length) (q : ∀ (c : Int) H', c ∈ ls → Pl H' p → But p H H' → R (.int c) H') :
    ls.length ≤ sizeLine ∧ ∀ l, H l = none → sp_draw [.ref p, .int m] (upd H l (.lst (ls.map V.int))) (fun y H2 => rIx K (.ref l) y H2 R) E := by
  have h1 : 1 ≤ ls.length := List.length_pos_iff.mpr hn
  refine ⟨by rw [sizeLine_eq]; omega, fun l hl => drawW (by omega) (hp.put (hp.ne hl)) fun r H1 r0 r3 hp1 b1 => ?_⟩
  have hl1 := b1 _ _ upd_same (Ne.symm (hp.ne hl))
  obtain ⟨n, rfl⟩ := Int.eq_ofNat_of_zero_le r0
  have hlt : n < ls.length := by omega
  exact ixL (.inl (.inl hl1)) (show atI _ ((n : Nat) : Int) = some (.int ls[n]) from atN (by rw [List.getElem?_map]; simp [hlt])) (q _ _ (List.getElem_mem hlt) hp1 (But.tr (UL.Same.but (UL.Same.new hl)) b1))
theorem pickN {ls : List Int} {c : Int} (m : Nat) (h : c ∈ ls) (h0 : ∀ i ∈ ls, 0 ≤ i ∧ i ≤ m) : ∃ n : Nat, c = n ∧ n ≤ m := by
  have := h0 c h
  exact ⟨c.toNat, by omega, by omega⟩
theorem asc_okW {z : Str} (h : isNm z) : PyData.strOk z = true := by
  have h : nmB z = true := h
  simp only [nmB, Bool.and_eq_true, List.all_eq_true, decide_eq_true_eq] at h
  have e : ∀ c ∈ abc.cps.toList, c < 0x110000 := by rw [abc_eq]; intro c hc; obtain ⟨n, hn, rfl⟩ := List.mem_map.mp hc; have := List.mem_range.mp hn; omega
  show (z.cps.all (· < 0x110000)) = true
  rw [Array.all_eq_true_iff_forall_mem]
  intro c hc
  exact decide_eq_true (e c (h.2 c (by simpa using hc)))
/-- a step's row, as data -/
def stD : Sk → PyData
  | .rd s l => .tuple [.str s, .str l, .none, .none, .tuple []]
  | .wr t f xs => .tuple [.none, .none, .str t, .str f, .tuple (xs.map .str)]
  | .rw s l t f xs => .tuple [.str s, .str l, .str t, .str f, .tuple (xs.map .str)]
def rwD (q : Rw) : PyData := .tuple [.str q.n, .list (q.ks.map stD)]
theorem RowA.dp {H : Hp} {t : Addr} {k : Sk} (h : RowA H t k) : Dp K H (.ref t) (stD k) := by
  obtain ⟨e, h1, h2⟩ := h
  cases k with
  | rd s l => exact .tup (.inl (.inl h1)) (.cons (.str _) (.cons (.str _) (.cons .non (.cons .non (.cons (.tup (.inl (.inl h2)) (dpa_strs (xs := []))) .nil)))))
  | wr t f xs => exact .tup (.inl (.inl h1)) (.cons .non (.cons .non (.cons (.str _) (.cons (.str _) (.cons (.tup (.inl (.inl h2)) dpa_strs) .nil)))))
  | rw s l t f xs => exact .tup (.inl (.inl h1)) (.cons (.str _) (.cons (.str _) (.cons (.str _) (.cons (.str _) (.cons (.tup (.inl (.inl h2)) dpa_strs) .nil)))))
theorem rows_dp {H : Hp} : ∀ {ts : List Addr} {ks : List Sk}, Paired (fun t k => RowA H t k) ts ks → DpAll K H (ts.map V.ref) (ks.map stD)
  | _, _, .nil => .nil
  | _, _, .cons h r => .cons h.dp (rows_dp r)
theorem RwH.dp {H : Hp} {q : Rw} (h : RwH H q) : Dp K H (.ref q.r) (rwD q) := .tup (.inl (.inl h.1)) (.cons (.str _) (.cons (.lst (.inl (.inl h.2.1)) (rows_dp h.2.2)) .nil))
theorem PrL.dpa {H : Hp} : ∀ {qs : List Rw}, (∀ q ∈ qs, RwH H q) → DpAll K H (qs.map fun q => V.ref q.r) (qs.map rwD)
  | [], _ => .nil
  | q :: r, h => .cons (h q List.mem_cons_self).dp (PrL.dpa fun q' hq => h q' (List.mem_cons_of_mem _ hq))
theorem stD_sh {k : Sk} (h : ∀ x ∈ k.words, isNm x) (ha : ∀ x ∈ k.args, isNm x) : Sh 2 (stD k) := by
  have ok : ∀ {z : Str}, isNm z → Sh 1 (.str z) := fun h => (Sh.str (asc_okW h)).mono (by decide)
  have no : Sh 1 .none := Sh.non.mono (by decide)
  cases k with
  | rd s l =>
    refine Sh.tup fun d hd => ?_
    simp only [List.mem_cons, List.not_mem_nil, or_false] at hd
    rcases hd with rfl | rfl | rfl | rfl | rfl
    · exact ok (h _ (by simp [Sk.words]))
    · exact ok (h _ (by simp [Sk.words]))
    · exact no
    · exact no
    · exact Sh.tup (n := 0) fun d hd => by cases hd
  | wr t f xs =>
    refine Sh.tup fun d hd => ?_
    simp only [List.mem_cons, List.not_mem_nil, or_false] at hd
    rcases hd with rfl | rfl | rfl | rfl | rfl
    · exact no
    · exact no
    · exact ok (h _ (by simp [Sk.words, wrT]))
    · exact ok (h _ (by simp [Sk.words, wrT]))
    · exact Sh.tup (sh_strs fun x hx => asc_okW (ha x hx))
  | rw s l t f xs =>
    refine Sh.tup fun d hd => ?_
    simp only [List.mem_cons, List.not_mem_nil, or_false] at hd
    rcases hd with rfl | rfl | rfl | rfl | rfl
    · exact ok (h _ (by simp [Sk.words]))
    · exact ok (h _ (by simp [Sk.words]))
    · exact ok (h _ (by simp [Sk.words, wrT]))
    · exact ok (h _ (by simp [Sk.words, wrT]))
    · exact Sh.tup (sh_strs fun x hx => asc_okW (ha x hx))
theorem rwD_sh {q : Rw} (g : RwG0 q) : Sh 4 (rwD q) := Sh.tup (n := 3) fun d hd => by
  simp only [List.mem_cons, List.not_mem_nil, or_false] at hd
  rcases hd with rfl | rfl
  · exact (Sh.str (asc_okW g.1)).mono (by decide)
  · refine Sh.lst fun d hd => ?_
    obtain ⟨k, hk, rfl⟩ := List.mem_map.mp hd
    obtain ⟨h1, _, h3⟩ := GoodS.each g.2.1 (fun z hz => by cases hz) k hk
    exact stD_sh h1 h3
/-- the programs against nothing -/
theorem neP {H : Hp} {Q : VK} {r b : Addr} {qs : List Rw} (h : PrL H r qs) (g : ∀ q ∈ qs, RwG0 q) (hb : SqL K H b []) (q : Q (.bl (!decide (qs = []))) H) : rNeA K (.ref r) (.ref b) H Q := by
  have s1 : Sh 5 (.list (qs.map rwD)) := Sh.lst fun d hd => by
    obtain ⟨q0, hq, rfl⟩ := List.mem_map.mp hd
    exact rwD_sh (g q0 hq)
  have s2 : Sh 1 (.list []) := Sh.lst fun d hd => by cases hd
  refine neDD (.lst (.inl (.inl h.1)) (PrL.dpa h.2)) (.lst hb .nil) s1 s2 (q := ?_)
  have e : PyData.eqv (.list (qs.map rwD)) (.list []) = decide (qs = []) := by cases qs <;> simp [PyData.eqv, PyData.eqvAll]
  rw [e]; exact q
abbrev s__law_lanes : Stmt := top 57
abbrev sc__law_lanes_N : List Str := ["_law_pool_here", "_law_programs_here", "_law_most", "_law_lanes_here", "_law_total", "_law_k", "_law_lane", "_law_j", "_law_which"]
theorem sc__law_lanes : FnScope sc__law_lanes_N ["_law_pool_here", "_law_programs_here", "_law_most"] (defScope s__law_lanes) := ⟨rfl, rfl, rfl, by decide +kernel, rfl, by decide +kernel, by decide +kernel⟩
-- 0 _law_pool_here, 1 _law_programs_here, 2 _law_most, 3 _law_lanes_here, 4 _law_total, 5 _law_k, 6 _law_lane, 7 _law_j, 8 _law_which
/-- the lanes of a list do not stand at p -/
def LanNp (H : Hp) (a p : Addr) : Prop := ∀ ts : List Addr, H a = some (.lst (ts.map V.ref)) → ∀ t ∈ ts, t ≠ p
theorem refsI : ∀ {xs ys : List Addr}, xs.map V.ref = ys.map V.ref → xs = ys
  | [], [], _ => rfl
  | x :: xs, y :: ys, h => by
    rw [List.map_cons, List.map_cons] at h
    injection h with h1 h2
    injection h1 with h1
    rw [h1, refsI h2]
  | [], _ :: _, h => by cases h
  | _ :: _, [], h => by cases h
theorem pmemL {α β : Type} {F : α → β → Prop} : ∀ {xs : List α} {ys : List β}, Paired F xs ys → ∀ x ∈ xs, ∃ y, y ∈ ys ∧ F x y
  | _, _, .nil, _, h => by cases h
  | _, _, .cons a b, x, h => by
    rcases List.mem_cons.mp h with rfl | h
    · exact ⟨_, List.mem_cons_self, a⟩
    · obtain ⟨y, hy, f⟩ := pmemL b x h
      exact ⟨y, List.mem_cons_of_mem _ hy, f⟩
def sp_llanes : Sp := fun vs H Q _ => ∃ (p r : Addr) (m : Nat) (qs : List Rw), vs = [.ref p, .ref r, .int m] ∧ Pl H p ∧ PrL H r qs ∧ r ≠ p ∧ (∀ q ∈ qs, q.sl ≠ p ∧ RwG0 q) ∧ qs.length ≤ 4 ∧ m ≤ 1000 ∧
  ∀ a Ls H', (H a = none ∧ LanNp H' a p) → LanH H' a Ls → LanOk qs Ls → totN qs Ls ≤ m → Pl H' p → But p H H' → Q (.ref a) H'
theorem d_llanes (T : Nm mg) (D : TD K mg "_law_lanes" s__law_lanes) (d__law_draw : Dn P w K mg base CX0 1 "_law_draw" sp_draw) : Dn P w K mg base CX0 2 "_law_lanes" sp_llanes := by
  refine D.dn sc__law_lanes (fun _ _ _ _ _ _ us hl => match us, hl with | [_, _, _], _ => rfl) (fun vs H Q E h => ?_) (fun f cdv A outer s H vs Q E hr h => ?_)
  · obtain ⟨p, r, m, qs, rfl, _⟩ := h; rfl
  · obtain ⟨p, r, m, qs, rfl, hp, hr0, rp, hqp, hql, hm, q⟩ := h
    refine ⟨_, (pss_cons (ps_set (i := 3) sc__law_lanes.nd rfl (Or.inl rfl) (pe_lst pa_nil))
      (pss_cons (ps_set (i := 4) sc__law_lanes.nd rfl (Or.inl rfl) pe_int)
      (pss_cons (ps_for PassesOwn.never rfl (pi_range1 (by rfl) T.n_range (pa_cons (pe_ix ix_seq (pe_lst (pa_cons pe_int (pa_cons pe_int (pa_cons pe_int (pa_cons pe_int pa_nil))))) (pe_d d__law_draw hr (by decide) pass0 (by rfl) (pa_cons (pv 0) (pa_cons pe_int pa_nil))) (fun _ _ => rfl)) pa_nil)) (pg_name (i := 5) sc__law_lanes.nd rfl (Or.inl rfl)) (pss_cons (ps_set (i := 6) sc__law_lanes.nd rfl (Or.inl rfl) (pe_lst pa_nil))
      (pss_cons (ps_for PassesOwn.never rfl (pi_range1 (by rfl) T.n_range (pa_cons (pe_ix ix_seq (pe_lst (pa_cons pe_int (pa_cons pe_int (pa_cons pe_int (pa_cons pe_int (pa_cons pe_int pa_nil)))))) (pe_d d__law_draw hr (by decide) pass0 (by rfl) (pa_cons (pv 0) (pa_cons pe_int pa_nil))) (fun _ _ => rfl)) pa_nil)) (pg_name (i := 7) sc__law_lanes.nd rfl (Or.inl rfl)) (pss_one (ps_if (pt_cmpR (op_neA (hr.units)) (pv 1) (pe_lst pa_nil) (nomark _)) (pss_cons (ps_set (i := 8) sc__law_lanes.nd rfl (Or.inl rfl) (pe_op op_modA (pe_callTy call_intA (by rfl) T.n_int (by decide +kernel) (pa_cons (pe_op op_addA (pe_d d__law_draw hr (by decide) pass0 (by rfl) (pa_cons (pv 0) (pa_cons (pe_callB call_lenA (by rfl) T.n_len (by decide +kernel) (pa_cons (pv 1) pa_nil)) pa_nil))) (pv 5)) pa_nil)) (pe_callB call_lenA (by rfl) T.n_len (by decide +kernel) (pa_cons (pv 1) pa_nil))))
      (pss_one (ps_if (pt_cmpR op_leA (pe_op op_addA (pv 4) (pe_callB call_lenA (by rfl) T.n_len (by decide +kernel) (pa_cons (pe_ix ix_seq (pe_ix ix_seq (pv 1) (pv 8) (fun _ _ => rfl)) pe_int (fun _ _ => rfl)) pa_nil))) (pv 2) (nomark _)) (pss_cons (ps_set (i := 4) sc__law_lanes.nd rfl (Or.inl rfl) (pe_op op_addA (pv 4) (pe_callB call_lenA (by rfl) T.n_len (by decide +kernel) (pa_cons (pe_ix ix_seq (pe_ix ix_seq (pv 1) (pv 8) (fun _ _ => rfl)) pe_int (fun _ _ => rfl)) pa_nil))))
      (pss_one (ps_expr (pe_bm PySem.F.plainAttrs_list PySem.F.slot_list_append PySem.F.type_list_append mt_append (pv 6) (pa_cons (pv 8) pa_nil))))) pss_nil))) pss_nil)))
      (pss_one (ps_expr (pe_bm PySem.F.plainAttrs_list PySem.F.slot_list_append PySem.F.type_list_append mt_append (pv 3) (pa_cons (pv 6) pa_nil)))))))
      (pss_one (ps_ret (pv 3)))))), ?_⟩
    walk_at "rd"
    intro l hl0
    have s1 : Same H (upd H l (.lst [])) := UL.Same.new hl0
    have el : upd H l (.lst []) l = _ := upd_same
    have lp : l ≠ p := Ne.symm (hp.ne hl0)
    generalize upd H l (.lst []) = H1 at s1 el ⊢
    have hp1 := hp.same s1
    have hr1 := hr0.same s1
    have lq : ∀ q ∈ qs, q.sl ≠ l := fun q hq => ne_of_none (hr0.2 q hq).2.1 hl0
    have lr : r ≠ l := ne_of_none hr0.1 hl0
    refine pickW (ls := [2, 3, 1, 0]) hp1 (by decide) (by decide) rfl fun c H2 hc hp2 b2 => ?_
    obtain ⟨n, rfl, hn⟩ := pickN 3 hc (by decide)
    have prb : ∀ {Ha Hb : Hp}, PrL Ha r qs → Pl Ha p → But p Ha Hb → PrL Hb r qs := fun h hp b => ⟨b _ _ h.1 rp, fun q hq => (h.2 q hq).but hp (hqp q hq).1 b⟩
    refine ⟨_, rfl, by omega, by omega, FJ.rangeI (fun k σ' H' => ∃ (ts : List Addr) (Ls : List (List Nat)) (z5 z6 z7 z8 : Option V), σ' = [some (.ref p), some (.ref r), some (.int (m : Nat)), some (.ref l), some (.int (totN qs Ls : Nat)), z5, z6, z7, z8] ∧ H' l = some (.lst (ts.map V.ref)) ∧ Paired (fun t L => (t ≠ l ∧ t ≠ p) ∧ NatL H' t L) ts Ls ∧ Ls.length = k ∧ (∀ L ∈ Ls, L.length ≤ 4 ∧ ∀ v ∈ L, v < qs.length) ∧ totN qs Ls ≤ m ∧ Pl H' p ∧ But p H H') (by omega) ⟨[], [], _, _, _, _, rfl, b2 _ _ el lp, .nil, rfl, (fun L hL => by cases hL), Nat.zero_le _, hp2, But.tr (UL.Same.but s1) b2⟩ (fun k σ' H' hk inv => ?_) fun σ' H' inv => ?_⟩
    · obtain ⟨ts, Ls, z5, z6, z7, z8, rfl, e1, pL, hLk, hLok, htot, hp', b'⟩ := inv
      walk_at "rd"
      intro t ht0
      have s3 : Same H' (upd H' t (.lst [])) := UL.Same.new ht0
      have et : upd H' t (.lst []) t = _ := upd_same
      have tl : t ≠ l := Ne.symm (ne_of_none e1 ht0)
      have tp : t ≠ p := Ne.symm (hp'.ne ht0)
      have tn : ∀ {u : Addr} {L : List Nat}, NatL H' u L → u ≠ t := fun h => ne_of_none h ht0
      have tr : r ≠ t := ne_of_none (prb hr0 hp b').1 ht0
      have tq : ∀ q ∈ qs, q.sl ≠ t := fun q hq => ne_of_none ((prb hr0 hp b').2 q hq).2.1 ht0
      have hr3 := (prb hr0 hp b').same s3
      generalize upd H' t (.lst []) = H3 at s3 et hr3 ⊢
      have hp3 := hp'.same s3
      refine pickW (ls := [1, 2, 0, 3, 4]) hp3 (by decide) (by decide) rfl fun c H4 hc4 hp4 b4 => ?_
      obtain ⟨n4, rfl, hn4⟩ := pickN 4 hc4 (by decide)
      refine ⟨_, rfl, by omega, by omega, FJ.rangeI (fun j σ' H5 => ∃ (L : List Nat) (z7 z8 : Option V), σ' = [some (.ref p), some (.ref r), some (.int (m : Nat)), some (.ref l), some (.int (totN qs Ls + lenN qs L : Nat)), some (.int (k : Nat)), some (.ref t), z7, z8] ∧ NatL H5 t L ∧ L.length ≤ j ∧ (∀ v ∈ L, v < qs.length) ∧ totN qs Ls + lenN qs L ≤ m ∧ H5 l = some (.lst (ts.map V.ref)) ∧ Paired (fun u M => (u ≠ l ∧ u ≠ p) ∧ u ≠ t ∧ NatL H5 u M) ts Ls ∧ PrL H5 r qs ∧ Pl H5 p ∧ (∀ c o, H' c = some o → c ≠ p → H5 c = some o)) (by omega) ⟨[], _, _, rfl, b4 _ _ et tp, Nat.le_refl _, (fun v hv => by cases hv), htot, b4 _ _ (s3 _ _ e1) lp, L2.Paired.mapP pL fun _ _ g => ⟨g.1, tn g.2, b4 _ _ (s3 _ _ g.2) g.1.2⟩, prb hr3 hp3 b4, hp4, fun c o e n => b4 _ _ (s3 _ _ e) n⟩ (fun j σ' H5 hj inv => ?_) fun σ' H5 inv => ?_⟩
      · obtain ⟨L, z7, z8, rfl, eL, hLj, hLv, htl, e5, p5, hr5, hp5, b5⟩ := inv
        walk_at "rd"
        intro p1 hp1'
        have s6 : Same H5 (upd H5 p1 (.lst [])) := UL.Same.new hp1'
        have e1' : upd H5 p1 (.lst []) p1 = _ := upd_same
        generalize upd H5 p1 (.lst []) = H6 at s6 e1' ⊢
        have hr6 := hr5.same s6
        have hp6 := hp5.same s6
        have p6 := L2.Paired.mapP p5 fun (u : Addr) (M : List Nat) (g : (u ≠ l ∧ u ≠ p) ∧ u ≠ t ∧ NatL H5 u M) => (⟨g.1, g.2.1, s6 _ _ g.2.2⟩ : (u ≠ l ∧ u ≠ p) ∧ u ≠ t ∧ NatL H6 u M)
        have b6 : ∀ c o, H' c = some o → c ≠ p → H6 c = some o := fun c o e n => s6 _ _ (b5 c o e n)
        have e6 := s6 _ _ e5
        have eL6 : NatL H6 t L := s6 _ _ eL
        have gq : ∀ q ∈ qs, RwG0 q := fun q hq => (hqp q hq).2
        refine neP hr6 gq (.inl (.inl e1')) ⟨_, rfl, ?_⟩
        by_cases hq0 : qs = []
        · rw [if_neg (by simp [hq0])]
          exact ⟨L, ⟨rfl, _, rfl⟩, eL6, by omega, hLv, htl, e6, p6, hr6, hp6, b6⟩
        · rw [if_pos (by simp [hq0])]
          have hpos : 0 < qs.length := List.length_pos_iff.mpr hq0
          refine lenL (.inl (.inl hr6.1)) ?_
          rw [List.length_map]
          refine drawW (by omega) hp6 fun r7 H7 r70 _ hp7 b7 => addII.mpr (cIntI.mpr (lenL (.inl (.inl (prb hr6 hp6 b7).1)) ?_))
          rw [List.length_map]
          have hr7 := prb hr6 hp6 b7
          have p7 := L2.Paired.mapP p6 fun (u : Addr) (M : List Nat) (g : (u ≠ l ∧ u ≠ p) ∧ u ≠ t ∧ NatL H6 u M) => (⟨g.1, g.2.1, b7 _ _ g.2.2 g.1.2⟩ : (u ≠ l ∧ u ≠ p) ∧ u ≠ t ∧ NatL H7 u M)
          have b7' : ∀ c o, H' c = some o → c ≠ p → H7 c = some o := fun c o e n => b7 _ _ (b6 c o e n) n
          have e7 := b7 _ _ e6 lp
          have eL7 : NatL H7 t L := b7 _ _ eL6 tp
          refine ⟨_, rfl, _, rfl, by omega, ?_⟩
          obtain ⟨v, ev, hv⟩ : ∃ v : Nat, (r7 + (k : Int)) % (qs.length : Int) = (v : Nat) ∧ v < qs.length := by
            have h0 := Int.emod_nonneg (r7 + (k : Int)) (by omega : (qs.length : Int) ≠ 0)
            have h1 := Int.emod_lt_of_pos (r7 + (k : Int)) (by omega : (0 : Int) < qs.length)
            exact ⟨((r7 + (k : Int)) % (qs.length : Int)).toNat, by omega, by omega⟩
          rw [ev]
          have e0 : (qs.map fun q => V.ref q.r)[v]? = some (V.ref qs[v].r) := by rw [List.getElem?_map, List.getElem?_eq_getElem hv]; rfl
          have g1 := hr7.2 qs[v] (List.getElem_mem hv)
          have lrs : (qs[v].rs.map V.ref).length = stepsN qs v := by rw [List.length_map, plenW g1.2.2, stepsN_at (List.getElem?_eq_getElem hv)]
          have ln := lenN_snoc (qs := qs) (L := L) (v := v)
          refine ixL (.inl (.inl hr7.1)) (atN e0) (ixT (.inl (.inl g1.1)) (show atI _ ((1 : Nat) : Int) = some (V.ref qs[v].sl) from atN rfl) (lenL (.inl (.inl g1.2.1)) (addII.mpr ⟨_, rfl, ?_⟩)))
          rw [lrs]
          by_cases hle : ((totN qs Ls + lenN qs L : Nat) : Int) + (stepsN qs v : Nat) ≤ (m : Nat)
          · rw [if_pos hle]
            refine ixL (.inl (.inl hr7.1)) (atN e0) (ixT (.inl (.inl g1.1)) (show atI _ ((1 : Nat) : Int) = some (V.ref qs[v].sl) from atN rfl) (lenL (.inl (.inl g1.2.1)) (addII.mpr ?_)))
            rw [lrs]
            have off : ∀ {c : Addr} {o : HO}, H7 c = some o → c ≠ t → upd H7 t (.lst ((L.map fun (n : Nat) => V.int n) ++ [V.int (v : Nat)])) c = some o := fun e n => (upd_ne n).trans e
            refine ⟨.inl ⟨rfl, _, .inl (.inl eL7)⟩, t, _, _, rfl, rfl, eL7, by rw [List.length_map, sizeLine_eq]; omega, L ++ [v], ⟨by congr 1; rw [ln]; omega, _, rfl⟩, by show upd _ _ _ _ = _; rw [upd_same, List.map_append]; rfl, by rw [List.length_append]; show L.length + 1 ≤ j + 1; omega, fun u hu => (List.mem_append.mp hu).elim (hLv u) fun h => by rw [List.mem_singleton.mp h]; exact hv, by rw [ln]; omega, off e7 (Ne.symm tl), ?_, ?_, ?_, ?_⟩
            · exact L2.Paired.mapP p7 fun _ _ g => ⟨g.1, g.2.1, off g.2.2 g.2.1⟩
            · exact ⟨off hr7.1 tr, fun q hq => (hr7.2 q hq).put eL7 (tq q hq)⟩
            · obtain ⟨zs, ez⟩ := hp7
              exact ⟨zs, off ez (Ne.symm tp)⟩
            · exact fun c o e n => off (b7' c o e n) (ne_of_none e ht0)
          · rw [if_neg hle]
            exact ⟨L, ⟨rfl, _, rfl⟩, eL7, by omega, hLv, htl, e7, p7, hr7, hp7, b7'⟩
      · obtain ⟨L, z7, z8, rfl, eL, hLj, hLv, htl, e5, p5, hr5, hp5, b5⟩ := inv
        walk_at "rd"
        have tot := totN_snoc (qs := qs) (Ls := Ls) (L := L)
        have hk3 : k < 3 := by omega
        refine ⟨.inl ⟨rfl, _, .inl (.inl e5)⟩, l, _, _, rfl, rfl, e5, by rw [List.length_map, plenW p5, sizeLine_eq]; omega, ts ++ [t], Ls ++ [L], ⟨by rw [tot], _, rfl⟩, by rw [upd_same, List.map_append]; rfl, pappW (L2.Paired.mapP p5 fun _ _ g => ⟨g.1, (upd_ne g.1.1).trans g.2.2⟩) (.cons ⟨⟨tl, tp⟩, (upd_ne tl).trans eL⟩ .nil), by rw [List.length_append, hLk]; rfl, fun M hM => (List.mem_append.mp hM).elim (hLok M) fun h => by rw [List.mem_singleton.mp h]; exact ⟨by omega, hLv⟩, by rw [tot]; exact htl, ?_, ?_⟩
        · obtain ⟨zs, ez⟩ := hp5
          exact ⟨zs, (upd_ne (Ne.symm lp)).trans ez⟩
        · exact fun c o e n => (upd_ne (ne_of_none e hl0)).trans (b5 c o (b' c o e n) n)
    · obtain ⟨ts, Ls, z5, z6, z7, z8, rfl, e1, pL, hLk, hLok, htot, hp', b'⟩ := inv
      walk_at "rd"
      exact q l Ls H' ⟨hl0, fun ts' e t ht => by rw [e1] at e; injection (Option.some.inj e) with e3; rw [← refsI e3] at ht; obtain ⟨_, _, g⟩ := pmemL pL t ht; exact g.1.2⟩ ⟨ts, e1, L2.Paired.mapP pL fun _ _ g => g.2⟩ ⟨by omega, hLok⟩ htot hp' b'
end
end U
set_option Elab.async false
set_option linter.all false
set_option maxRecDepth 100000
set_option maxHeartbeats 4000000
/-! o(e, ..) by an own __call__; dicts whose keys are nested tuples -/
namespace UX
open PySem PySem.Spec PyProof.Rows L2 UL UV UW ClX
/-! ### dicts whose keys are nested tuples -/
mutual
inductive NK (H : Hp) : NestedKey → V → Prop
  | num (i : Int) : NK H (.num i) (.int i)
  | text (x : Str) : NK H (.text x) (.str x)
  | tup {ks : List NestedKey} {a : Addr} {xs : List V} : H a = some (.tup xs) → NKs H ks xs → NK H (.tup ks) (.ref a)
inductive NKs (H : Hp) : List NestedKey → List V → Prop
  | nil : NKs H [] []
  | cons {k : NestedKey} {v : V} {ks : List NestedKey} {vs : List V} : NK H k v → NKs H ks vs → NKs H (k :: ks) (v :: vs)
end
/-- tuples stay -/
def TupsStay (H H' : Hp) : Prop := ∀ a xs, H a = some (.tup xs) → H' a = some (.tup xs)
theorem TupsStay.same {H H' : Hp} (h : ∀ a o, H a = some o → H' a = some o) : TupsStay H H' := fun a xs r => h a _ r
theorem TupsStay.put {H : Hp} {a : Addr} {o o' : HO} (h : H a = some o) (n : ∀ xs, o ≠ .tup xs) : TupsStay H (upd H a o') := fun b xs r =>
  (upd_ne fun z => by subst z; rw [h] at r; exact n _ (Option.some.inj r)).trans r
mutual
theorem NK.stay {H H' : Hp} (s : TupsStay H H') : ∀ (k : NestedKey) (v : V), NK H k v → NK H' k v
  | .none, _, h => by cases h
  | .num _, _, h => by cases h; exact .num _
  | .text _, _, h => by cases h; exact .text _
  | .tup ks, _, h => by
    cases h with
    | tup h1 h2 => exact .tup (s _ _ h1) (NKs.stay s ks _ h2)
theorem NKs.stay {H H' : Hp} (s : TupsStay H H') : ∀ (ks : List NestedKey) (vs : List V), NKs H ks vs → NKs H' ks vs
  | [], _, h => by cases h; exact .nil
  | k :: ks, _, h => by
    cases h with
    | cons h1 h2 => exact .cons (NK.stay s k _ h1) (NKs.stay s ks _ h2)
end
section
variable {X : Cx} {pins : List (Addr × Obj)} {σ : L2.St} {H : Hp} {s : Shared} {d a : Addr}
mutual
theorem NK.is (I : Inv X pins σ H s) : ∀ (k : NestedKey) (v : V) (u : Value), NK H k v → RelV v u → NestedIs s.heap k u
  | .none, _, _, h, _ => by cases h
  | .num i, _, _, h, r => by cases h; obtain ⟨t, rfl⟩ := r; exact .int _ _
  | .text x, _, _, h, r => by cases h; obtain ⟨t, rfl⟩ := r; exact .text _ _
  | .tup ks, _, _, h, r => by
    cases h with
    | tup h1 h2 =>
      cases r
      obtain ⟨its, rv, ⟨o, ho, hc, n, hd⟩, _⟩ := I.tuple (.inl (.inl h1))
      exact .tup ho hc hd (NKs.is I ks _ _ h2 (by simpa using rv))
theorem NKs.is (I : Inv X pins σ H s) : ∀ (ks : List NestedKey) (vs : List V) (us : List Value), NKs H ks vs → Vals vs us → NestedAll s.heap ks us
  | [], _, _, h, r => by cases h; cases r; exact .nil
  | k :: ks, _, _, h, r => by
    cases h with
    | cons h1 h2 =>
      cases r with
      | cons r1 r2 => exact .cons (NK.is I k _ _ h1 r1) (NKs.is I ks _ _ h2 r2)
end
/-- the dict object -/
def NDe (P : Program) (w : World) (d : Addr) (xs : List (NestedKey × Addr × Value)) : HO :=
  .ext fun h => (d == sysModules) = false ∧ xs.length ≤ sizeLine ∧ (xs.map (·.1)).Nodup ∧ ∃ o es ep, h.get? d = some o ∧ o.ExactDict ∧ o.data = .dict es ep ∧ es.toList = xs.map (entryOfKey (nestedKind P w))
abbrev NX := List (NestedKey × Addr × V)
def ND (P : Program) (w : World) (H : Hp) (d : Addr) (kvs : NX) : Prop :=
  ∃ xs : List (NestedKey × Addr × Value), Paired (fun p q => p.1 = q.1 ∧ p.2.1 = q.2.1 ∧ RelV p.2.2 q.2.2) kvs xs ∧ H d = some (NDe P w d xs) ∧ ∀ p ∈ kvs, NK H p.1 (.ref p.2.1) ∧ p.1.depth ≤ 8
theorem NDe.ok {P : Program} {w : World} {h : Heap} {xs : List (NestedKey × Addr × Value)} (h1 : (d == sysModules) = false) (h2 : xs.length ≤ sizeLine) (h3 : h.DictOfH (nestedKind P w) d xs) : ObjOk P w H h d (NDe P w d xs) := by
  obtain ⟨o, es, ep, e1, e2, e3, e4, _, e6⟩ := h3
  exact ⟨⟨h1, h2, e6, o, es, ep, e1, e2, e3, e4⟩, ⟨o, e1⟩, fun g1 g2 ⟨q1, q2, q3, o, es, ep, z1, z2⟩ k => ⟨q1, q2, q3, o, es, ep, k _ z1, z2⟩⟩
theorem ND.stay {P : Program} {w : World} {H' : Hp} {kvs : NX} (h : ND P w H d kvs) (s : TupsStay H H') (e : H' d = H d) : ND P w H' d kvs := by
  obtain ⟨xs, r, e1, k⟩ := h
  exact ⟨xs, r, e.trans e1, fun p hp => ⟨NK.stay s _ _ (k p hp).1, (k p hp).2⟩⟩
theorem ND.same {P : Program} {w : World} {H' : Hp} {kvs : NX} (h : ND P w H d kvs) (s : ∀ a o, H a = some o → H' a = some o) : ND P w H' d kvs := by
  have h' := h
  obtain ⟨xs, _, e1, _⟩ := h'
  exact h.stay (TupsStay.same s) ((s _ _ e1).trans e1.symm)
theorem ND.at {P : Program} {w : World} {kvs : NX} (h : ND P w H d kvs) : ∃ xs, H d = some (NDe P w d xs) := let ⟨xs, _, e, _⟩ := h; ⟨xs, e⟩
theorem nd_paired {kvs : NX} {xs : List (NestedKey × Addr × Value)} (r : Paired (fun (p : NestedKey × Addr × V) (q : NestedKey × Addr × Value) => p.1 = q.1 ∧ p.2.1 = q.2.1 ∧ RelV p.2.2 q.2.2) kvs xs) : kvs.length = xs.length ∧ kvs.map (·.1) = xs.map (·.1) ∧ (∀ q ∈ xs, ∃ p ∈ kvs, p.1 = q.1 ∧ p.2.1 = q.2.1 ∧ RelV p.2.2 q.2.2) := by
  induction r with
  | nil => exact ⟨rfl, rfl, fun q h => by cases h⟩
  | cons h _ ih =>
    obtain ⟨i1, i2, i3⟩ := ih
    refine ⟨by rw [List.length_cons, List.length_cons, i1], by rw [List.map_cons, List.map_cons, h.1, i2], fun q hq => ?_⟩
    rcases List.mem_cons.mp hq with rfl | hq
    · exact ⟨_, List.mem_cons_self, h.1, h.2.1, h.2.2⟩
    · obtain ⟨p, hp, e⟩ := i3 q hq
      exact ⟨p, List.mem_cons_of_mem _ hp, e⟩
theorem ND.dict (I : Inv X pins σ H s) {kvs : NX} (h : ND X.prog X.w H d kvs) : ∃ xs, Paired (fun p q => p.1 = q.1 ∧ p.2.1 = q.2.1 ∧ RelV p.2.2 q.2.2) kvs xs ∧ H d = some (NDe X.prog X.w d xs) ∧ (d == sysModules) = false ∧ xs.length ≤ sizeLine ∧ s.heap.DictOfH (nestedKind X.prog X.w) d xs := by
  obtain ⟨xs, r, e, k⟩ := h
  obtain ⟨⟨q1, q2, q3, o, es, ep, z1, z2, z3, z4⟩, _⟩ := I.hok d _ e
  refine ⟨xs, r, e, q1, q2, o, es, ep, z1, z2, z3, z4, fun x hx => ?_, q3⟩
  obtain ⟨p, hp, e1, e2, _⟩ := (nd_paired r).2.2 x hx
  have := k p hp
  rw [e1, e2] at this
  exact ⟨NK.is I _ _ _ this.1 rfl, this.2⟩
theorem ND.len (I : Inv X pins σ H s) {kvs : NX} (h : ND X.prog X.w H d kvs) : kvs.length ≤ sizeLine ∧ (kvs.map (·.1)).Nodup := by
  obtain ⟨xs, r, _, _, h2, _, _, _, _, _, _, _, _, nd⟩ := h.dict I
  obtain ⟨e1, e2, _⟩ := nd_paired r
  exact ⟨e1 ▸ h2, e2 ▸ nd⟩
end
end UX
set_option Elab.async false
set_option linter.all false
set_option maxRecDepth 100000
set_option maxHeartbeats 4000000
/-! d.m(e, ..), d a dict with nested tuple keys -/
namespace UX
open PySem PySem.Spec PyProof.Rows L2 UL UV UW ClX
end UX
set_option Elab.async false
set_option linter.all false
set_option maxRecDepth 100000
set_option maxHeartbeats 4000000
/-! for n, x in enumerate(tuple) -/
namespace UX
open PySem PySem.Spec PyProof.Rows L2 UL UV UW ClX
theorem meets_enum1 {v : Value} {o : Obj} {H : Heap → Prop} (B : Begins v o H) :
    Meets (Builtin.«enumerate.__new__» ⟨[.type "enumerate", v], []⟩) (fun _ R s => H s.heap ∧
      R (.ok (.ret (.ref (s.heap.push o).objs.size))) { s with heap := (s.heap.push o).push { cls := .type "enumerate", data := .fields #[.none, .bool false, .ref s.heap.objs.size, rawInt 0, .none, .none] } }) :=
  .of_wp fun prog w A R s h => by
    obtain ⟨hp, g, d, tk, os⟩ := s; obtain ⟨h1, h⟩ := h
    have hsub := sub_enumerate
    have q1 : ∀ {A' : Around} {E : Value → Shared → Prop} {Q : Value → Shared → Prop}, Q (.ref hp.objs.size) ⟨hp.push o, g, d, tk, os⟩ → wpAny (model prog w) A' (pyIter v) Q E ⟨hp, g, d, tk, os⟩ :=
      fun q => B.iter prog w _ _ ⟨hp, g, d, tk, os⟩ _ h1 q
    wp_walk using q1
    refine wpAny_stack_any fun st => wpAny_pure ?_
    split
    · rename_i c _ _ _ _ _
      cases (c == Value.type "enumerate")
      · wp_walk using q1
        exact ⟨_, rfl, h⟩
      · wp_walk using q1
        exact ⟨_, rfl, h⟩
    · wp_walk using q1
      exact ⟨_, rfl, h⟩
theorem enum_begins1 {prog : Program} {w : World} {A : Around} {E : Value → Shared → Prop} {s : Shared} {v : Value} {o : Obj} {H : Heap → Prop} {Q : Value → Shared → Prop} (B : Begins v o H) (h1 : H s.heap)
    (h : ∀ h', IsEnum h' (s.heap.objs.size + 1) s.heap.objs.size 0 .none → h'.get? s.heap.objs.size = some o → (∀ b o, s.heap.get? b = some o → h'.get? b = some o) → Q (.ref (s.heap.objs.size + 1)) { s with heap := h' }) :
    wpAny (model prog w) A (call (.type "enumerate") [v]) Q E s := by
  refine callType_new PySem.F.called_enumerate (by decide) (PySem.F.typeCall_enumerate_1 _) (PySem.F.newCall_enumerate_1 _) (fun obj => PySem.F.args_object_init_2 obj _) PySem.F.entry_enumerate_new (meets_enum1 B) ⟨h1, ?_⟩
  have hz : (s.heap.push o).objs.size = s.heap.objs.size + 1 := Heap.size_push ..
  show _ ∧ _
  rw [hz]
  have he : IsEnum ((s.heap.push o).push { cls := .type "enumerate", data := .fields #[.none, .bool false, .ref s.heap.objs.size, rawInt 0, .none, .none] }) (s.heap.objs.size + 1) s.heap.objs.size 0 .none := by
    have := Heap.get?_push_size (s.heap.push o) (o := { cls := .type "enumerate", data := .fields #[.none, .bool false, .ref s.heap.objs.size, rawInt 0, .none, .none] }) rfl
    rw [hz] at this; exact this
  exact ⟨⟨_, he, rfl⟩, h _ he (Heap.get?_push_of_some _ (Heap.get?_push_size _ B.free)) fun b o x => Heap.get?_push_of_some _ (Heap.get?_push_of_some _ x)⟩
/-- the tuple at a as it stands at each turn, each item in a new pair -/
def IteT (K : PySem.W.Frag) (a : Addr) : L2.It :=
  ⟨fun i H => ∃ (xs : List V) (x : V), SqT K H a xs ∧ xs[i]? = some x, fun i H v H' => ∃ T x, v = .ref T ∧ H T = none ∧ H' = upd H T (.tup [.int (i : Nat), x]) ∧ ∀ xs, SqT K H a xs → xs[i]? = some x, fun i H => ∃ xs : List V, SqT K H a xs ∧ xs.length ≤ i⟩
theorem turn_enumT {P : Program} {w : World} {K : PySem.W.Frag} {elts : List Expr} {kk : Nat} {tpos : Pos} (a e it : Addr) :
    Turn P w K (.Tuple elts kk tpos) (IteT K a) [e, it] e (fun i h => (∃ old, IsEnum h e it ((i : Nat) : Int) old) ∧ h.IsTupleIter it a i ∧ e ≠ it ∧ a ≠ it ∧ a ≠ e) where
  mem := by simp
  obj := fun i h st b hb => by
    obtain ⟨⟨old, he⟩, ⟨o, ho, hc, hd⟩, _⟩ := st
    have e' : b = e ∨ b = it := by simpa using hb
    rcases e' with z | z
    · rw [z]; exact ⟨_, he, fun v q => nomatch q⟩
    · rw [z]; exact ⟨o, ho, fun v q => by rw [hd] at q; cases q⟩
  keep := fun i h h' st kp => let ⟨⟨old, he⟩, hi, hne⟩ := st; ⟨⟨old, kp e (by simp) _ he⟩, hi.at fun o q => kp it (by simp) o q, hne⟩
  item := by
    intro X hP hw hK hc i pins s σ H E I hf st hg
    subst hP hw hK
    obtain ⟨⟨old, he⟩, hit, hne, hai, hae⟩ := st
    obtain ⟨xs, x, hq, hx⟩ := hg
    obtain ⟨its, rv, p, hz⟩ := I.tuple hq
    obtain ⟨u, hu, ru⟩ := rv.get hx
    have hel : e < s.heap.objs.size := Heap.lt_size he
    have hil : it < s.heap.objs.size := by obtain ⟨_, q, _⟩ := hit; exact Heap.lt_size q
    have hix : i < its.toArray.size := by have := (List.getElem?_eq_some_iff.mp hu).1; simpa using this
    have D := Draws.tuple (prog := X.prog) (w := X.w) (A := X.A.in1) (I.ok.hd hc) it a hai its.toArray
    refine wpAny_pyNext_enum_itemD (i := i) D he ⟨hit, p⟩ (by omega) hne (by simp only [List.mem_cons, List.not_mem_nil, or_false]; exact fun z => z.elim hne fun z => hae z.symm) fun x' h' tk px ho hst hT hsz hk => ?_
    have hxu : x' = u := by
      have z2 : its[i]? = some x' := by simpa using px
      exact Option.some.inj (z2.symm.trans hu)
    subst hxu
    have hit' : h'.IsTupleIter it a (i + 1) := hst.1
    refine ⟨_, rfl, wpAny_letOwnedTupleGo_enum (s := { s with heap := h', toks := tk + 1 }) ho fun h'' he' sb => ?_⟩
    have hT2 : h''.get? s.heap.objs.size = some { cls := .type "tuple", data := .seq #[.int (i : Nat) tk, x'] } := (sb.2 _ (Nat.ne_of_gt hel)).trans hT
    have new : ObjOk X.prog X.w (upd H s.heap.objs.size (.tup [.int (i : Nat), x])) h'' s.heap.objs.size (.tup [.int (i : Nat), x]) :=
      ⟨by show 2 ≤ sizeLine; decide, [.int (i : Nat) tk, x'], .cons ⟨_, rfl⟩ (.cons ru .nil), ⟨_, hT2, rfl, _, rfl⟩⟩
    have I1 : Inv X pins σ (upd H s.heap.objs.size (.tup [.int (i : Nat), x])) { s with heap := h'', toks := tk + 1 } :=
      I.turnedNew (ch := [e, it]) (fun b ob hb q => (sb.2 b (fun z => hb (by simp [z]))).trans (hk b ob (fun z => hb (by simp [z])) (fun z => hb (by simp [z])) q)) hf (Nat.le_refl _) new
    refine ⟨.ref s.heap.objs.size, _, I1, rfl, ⟨_, x, rfl, I.hok.fresh (Nat.le_refl _), rfl, fun ys hy => by rw [I.tuple_inj hy hq]; exact hx⟩, ⟨⟨x', ?_⟩, hit'.at fun o q => (sb.2 it (Ne.symm hne)).trans q, hne, hai, hae⟩, fun b hb => ?_⟩
    · have e1 : ((i + 1 : Nat) : Int) = ((i : Nat) : Int) + 1 := by omega
      rw [e1]; exact he'
    · have hb' : b < s.heap.objs.size := by
        have e' : b = e ∨ b = it := by simpa using hb
        rcases e' with z | z
        · rw [z]; exact hel
        · rw [z]; exact hil
      rw [upd_ne (Nat.ne_of_lt hb')]
      exact (hf b hb).1
  done := by
    intro X hP hw hK hc i pins s σ H E I hf st hg
    subst hP hw hK
    obtain ⟨⟨old, he⟩, hit, hne, hai, hae⟩ := st
    obtain ⟨xs, hq, hx⟩ := hg
    obtain ⟨its, rv, p, hz⟩ := I.tuple hq
    obtain ⟨f0, f1, f2, f3, f4, f5⟩ := hf it (by simp)
    have hl := rv.length
    have D : Draws X.prog X.w X.A.in1 it [it, a] i (fun _ _ => False) (fun j h => j = i ∧ h.IsTupleIter it a i ∧ h.IsTuple a its.toArray) := {
      live := fun _ _ st => let ⟨o, ho, _⟩ := st.2.1; ⟨o, ho⟩
      frame := fun _ _ _ st kp => ⟨st.1, st.2.1.at fun o q => kp it (by simp) o q, st.2.2.at fun o q => kp a (by simp) o q⟩
      item := fun j s Q E hj st hQ => absurd st.1 (Nat.ne_of_lt hj)
      done := fun s Q E st hE => wpAny_nextOf_tuple_end (I.ok.hd hc) st.2.1 st.2.2 (by simp; omega) hE }
    exact wpAny_pyNext_enum_endD D he ⟨rfl, hit, p⟩ fun h' eb => ⟨rfl, I.turned (t' := s.toks) (fun b o hb q => eb b o hb q) f0 f1 f3 f4 f5⟩
  self := fun A i s Q E st h => let ⟨⟨_, he⟩, _⟩ := st; wpAny_pyIter_enum he h
def iEnumT (K : PySem.W.Frag) (ta : TA) : TI := fun σ H R => ta σ H fun vs H1 => ∃ a xs, vs = [.ref a] ∧ SqT K H1 a xs ∧ R (IteT K a) H1
theorem pi_enumT {X : Cx} {e : Expr} {ta : TA} {p pos tpos : Pos} {elts : List Expr} {kk : Nat} (hg : Gl X "enumerate") (hm : X.mg "enumerate" = none) (ha : PA X [e] ta) (hs : starEach [e] X.env = [(false, eval e X.env)] := by rfl) :
    PI X (.Tuple elts kk tpos) (.Call (.Name "enumerate" p) [e] [] pos) (iEnumT X.K ta) := by
  refine ⟨fun pins s σ H R I h => ?_⟩
  refine Call_ (ld_blt I hg hm boot_enumerate (PyProof.Rows.callWith_type1 (thn (ha.run pos pins s σ H _ I h) fun us s1 ⟨vs, H1, I1, r1, q1⟩ => ?_) hs rfl))
  obtain ⟨a, xs, ex, hq, q⟩ := q1
  subst ex
  cases r1 with
  | cons r rr =>
    cases rr
    cases r
    obtain ⟨its, rv, p', hz⟩ := I1.tuple hq
    refine enum_begins1 (begins_tuple a its.toArray) p' fun h' he hit hk => wpAny_pyIter_enum he ?_
    have hlt : a < s1.heap.objs.size := by obtain ⟨o, z, _⟩ := p'; exact Heap.lt_size z
    have I2 : Inv X pins σ H1 { s1 with heap := h' } := I1.kept (t' := s1.toks) hk
    refine ⟨s1.heap.objs.size + 1, [s1.heap.objs.size + 1, s1.heap.objs.size], _, _, H1, rfl, I2, turn_enumT a (s1.heap.objs.size + 1) s1.heap.objs.size, ⟨⟨.none, he⟩, ⟨_, hit, rfl, rfl⟩, Nat.succ_ne_self _, Nat.ne_of_lt hlt, Nat.ne_of_lt (Nat.lt_succ_of_lt hlt)⟩, fun b hb => ?_, q⟩
    have hle : s1.heap.objs.size ≤ b := by
      have e' : b = s1.heap.objs.size + 1 ∨ b = s1.heap.objs.size := by simpa using hb
      rcases e' with z | z
      · rw [z]; exact Nat.le_add_right _ _
      · rw [z]; exact Nat.le_refl _
    exact I1.fpOk hle (I1.hok.fresh hle)
theorem walk_enumT {K : PySem.W.Frag} {a : Addr} {xs : List V} : L2.Walk (IteT K a) xs.length (fun H => SqT K H a xs) (L2.YPair (fun i => some (.int (i : Nat))) (fun i => xs[i]?)) := by
  refine ⟨fun i _ hi q => ⟨xs, xs[i], q, by simp [hi]⟩, fun _ q => ⟨xs, q, Nat.le_refl _⟩, fun i H v H' _ q y => ?_⟩
  obtain ⟨T, x, h1, h2, h3, h4⟩ := y
  exact ⟨T, .int (i : Nat), x, h1, h2, h3, rfl, h4 xs q⟩
end UX
set_option Elab.async false
set_option linter.all false
set_option maxRecDepth 100000
set_option maxHeartbeats 4000000
set_option pp.deepTerms true
set_option pp.maxSteps 400000
namespace U
open PySem PySem.Spec PyProof.Rows L2 UL UX
local macro_rules | `(tactic| walk_at "rd") => `(tactic| simp only [sMatch, tJs, tFmt, tBC, tMethA, tMakeL, iEnumS, tSeq, tAsg, tOp, tCB, tCons, tNil, tVar, tC, tB, tTest, tNot, tIfS, tNext, tYes, tUn, rU, tM0, tGFrom, tGThen, tG0, tYfLst, gcxK, tSubO, tProp, tListG, tMethG, tBMF, tFld, sFld, tMeth, tMake, tSl, tNoPart, tPart, tM1, gTup, gCons, gNil, tDrop, tFor_eq, tLc_eq, tLc2_eq, iRng1_eq, StX.tStar, iList, iTup, iStr, iAny_var, iZipB, tLenSetS, wipe, tVar, tAndV, tOrV, tNotV, tOr, tAnd, tLst, tTup, tBM, tBM0, tChain, tCall, cxK, noxK, addII, addSS, mulII, eqII, neII, neSS, cIntI, cAbsI, rI, rI0, rLt, rLe, rGt_, rGe_, rSub_, rMod, rPow, rDivW, rNeg, gName, tRet, L2.start, List.length_cons, List.length_nil, List.map_cons, List.map_nil, List.replicate, List.cons_append, List.nil_append, List.getElem?_cons_zero, List.getElem?_cons_succ, List.set_cons_zero, List.set_cons_succ, Option.some.injEq, exists_eq_left', exists_eq_left, V.int.injEq, V.bl.injEq, V.str.injEq, V.ref.injEq, V.ty.injEq, List.cons.injEq, and_true, true_and, reduceCtorEq, false_and, exists_false, or_false, false_or, exists_and_left, exists_and_right, List.append_nil, forall_eq, decide_eq_true_eq, Bool.not_eq_true, Nat.reduceAdd, Nat.reduceSub, List.replicate_zero, List.replicate_succ, Nat.zero_le, ite_true, ite_false, if_true, if_false])
section
variable {P : Program} {w : World} {K : PySem.W.Frag} {mg : Str → Option Value} {base : Heap}
open UV UW NdefX ClX
variable {R Wr B Pg Sy IC UC IS UP WE IP C Tu : Addr}
theorem FJ.enumT {a : Addr} {xs : List V} {g : TG} {tb : TS} {D : Ends} {σ : L2.St} {H : Hp} (Pv : Nat → L2.St → Hp → Prop) (h0 : Pv 0 σ H) (hl : ∀ i σ H, i ≤ xs.length → Pv i σ H → SqT K H a xs)
    (hs : ∀ (i : Nat) (x : V) (T : Addr) (σ : L2.St) (H : Hp), xs[i]? = some x → Pv i σ H → H T = none → g (.ref T) σ (upd H T (.tup [.int (i : Nat), x])) fun σ2 H2 => tb { D with nx := Pv (i + 1), ct := Pv (i + 1), bk := D.nx } σ2 H2) (hd : ∀ σ H, Pv xs.length σ H → D.nx σ H) :
    FJ (IteT K a) g tb D σ H := for_it walk_enumT Pv h0 hl (fun i v σ H H' hi p y => by
      obtain ⟨T, x, y', rfl, hT, rfl, e1, e2⟩ := y
      cases e1
      exact hs i y' T σ H e2 p hT) hd
theorem ftSame {H H' : Hp} {p : Addr} {xs : List V} (h : FT H p xs) (s : Same H H') : FT H' p xs := let ⟨o, e, d⟩ := h; ⟨o, s _ _ e, d⟩
theorem ftSq {K : PySem.W.Frag} {H : Hp} {p : Addr} {xs : List V} (h : FT H p xs) : SqT K H p xs := let ⟨o, e, _⟩ := h; .inl (.inr ⟨o, e⟩)
structure TuT (K : PySem.W.Frag) (mg : Str → Option Value) (Tu : Addr) : Prop extends Nm mg where
  n_enumerate : mg "enumerate" = none
  cls : Cls K Tu
  a_lane : NoAttr K Tu "lane"
  a_occurrence : NoAttr K Tu "occurrence"
  a_name : NoAttr K Tu "name"
  a_step : NoAttr K Tu "step"
/-- one turn: its lane, which of the lane's programs, that one's name, the step -/
structure Trn where
  lane : Nat
  occ : Nat
  name : Str
  step : Addr
def fsTu (t : Trn) : List (Str × V) := [("lane", .int (t.lane : Nat)), ("occurrence", .int (t.occ : Nat)), ("name", .str t.name), ("step", .ref t.step)]
def TuA (Tu : Addr) (H : Hp) (a : Addr) (t : Trn) : Prop := ∃ dx, H a = some (.ins Tu dx (fsTu t))
theorem TuA.same {H H' : Hp} {a : Addr} {t : Trn} (h : TuA Tu H a t) (s : Same H H') : TuA Tu H' a t := let ⟨dx, e⟩ := h; ⟨dx, s _ _ e⟩
abbrev s_Turn___init__ : Stmt := inClass (top 13) 0
abbrev sc_Turn___init___N : List Str := ["self", "lane", "occurrence", "name", "step"]
theorem sc_Turn___init__ : FnScope sc_Turn___init___N ["self", "lane", "occurrence", "name", "step"] (defScope s_Turn___init__) := ⟨rfl, rfl, rfl, by decide +kernel, rfl, by decide +kernel, by decide +kernel⟩
-- 0 self, 1 lane, 2 occurrence, 3 name, 4 step
def sp_tuinit (Tu : Addr) : Sp := fun vs H Q _ => ∃ (x dx : Addr) (t : Trn), vs = [.ref x, .int (t.lane : Nat), .int (t.occ : Nat), .str t.name, .ref t.step] ∧ H x = some (.ins Tu dx []) ∧ Q .non (upd H x (.ins Tu dx (fsTu t)))
theorem m_tuinit (T : TuT K mg Tu) (D : MD K Tu "__init__" "Turn.__init__" s_Turn___init__) : Mn P w K mg base CX0 1 Tu "__init__" (sp_tuinit Tu) := by
  refine D.mn sc_Turn___init__ (fun _ _ _ _ _ _ us hl => match us, hl with | [_, _, _, _, _], _ => rfl) (fun vs H Q E h => ?_) (fun f cdv A outer s H vs Q E hr h => ?_)
  · obtain ⟨x, dx, t, rfl, _⟩ := h; rfl
  · obtain ⟨x, dx, t, rfl, hx, q⟩ := h
    refine ⟨_, (pss_cons (ps_fld (pv 0) (pv 1) rfl)
      (pss_cons (ps_fld (pv 0) (pv 2) rfl)
      (pss_cons (ps_fld (pv 0) (pv 3) rfl)
      (pss_one (ps_fld (pv 0) (pv 4) rfl))))), ?_⟩
    walk_at "rd"
    refine ⟨Tu, dx, [], hx, T.cls, T.a_lane, by show 0 < 1000; decide, Tu, dx, _, upd_same, T.cls, T.a_occurrence, by show 1 < 1000; decide, Tu, dx, _, upd_same, T.cls, T.a_name, by show 2 < 1000; decide, Tu, dx, _, upd_same, T.cls, T.a_step, by show 3 < 1000; decide, ?_⟩
    rw [upd_upd, upd_upd, upd_upd]
    exact q
abbrev s_list_turns : Stmt := top 15
abbrev sc_list_turns_N : List Str := ["system", "lane", "names", "found", "occurrence", "name", "step"]
theorem sc_list_turns : FnScope sc_list_turns_N ["system", "lane", "names"] (defScope s_list_turns) := ⟨rfl, rfl, rfl, by decide +kernel, rfl, by decide +kernel, by decide +kernel⟩
-- 0 system, 1 lane, 2 names, 3 found, 4 occurrence, 5 name, 6 step
/-- the turns of the first k programs of a lane, by their steps -/
def trnN (fS : Str → List Addr) (lane : Nat) (ns : List Str) (k : Nat) : List Trn := (List.range k).flatMap fun o => match ns[o]? with
  | some n => (fS n).map fun st => ⟨lane, o, n, st⟩
  | none => []
theorem trnN_succ {fS : Str → List Addr} {lane : Nat} {ns : List Str} {k : Nat} {n : Str} (h : ns[k]? = some n) : trnN fS lane ns (k + 1) = trnN fS lane ns k ++ (fS n).map fun st => ⟨lane, k, n, st⟩ := by
  unfold trnN
  rw [List.range_succ, List.flatMap_append]
  simp [h]
def TuS (Tu : Addr) (H : Hp) (ts : List Addr) (us : List Trn) : Prop := Paired (fun a t => TuA Tu H a t) ts us
theorem TuS.same {H H' : Hp} {ts : List Addr} {us : List Trn} (h : TuS Tu H ts us) (s : Same H H') : TuS Tu H' ts us := L2.Paired.mapP h fun _ _ g => g.same s
theorem TuS.put {H : Hp} {ts : List Addr} {us : List Trn} {l : Addr} {zs : List V} {o : HO} (h : TuS Tu H ts us) (e : H l = some (.lst zs)) : TuS Tu (upd H l o) ts us := L2.Paired.mapP h fun _ _ ⟨dx, g⟩ => ⟨dx, (upd_ne fun z => by rw [z, e] at g; cases g).trans g⟩
/-- where the steps of a program stand -/
def StpH (Pg : Addr) (H : Hp) (ps : List (Str × Addr)) (fS : Str → List Addr) (n : Str) : Prop := ∃ a dx p, valA ps n = some a ∧ H a = some (.ins Pg dx (fsP n p)) ∧ FT H p ((fS n).map V.ref) ∧ (fS n).length ≤ 8
def sp_lturns (Pg Sy Tu : Addr) : Sp := fun vs H Q _ => ∃ (y nt pd ad : Addr) (lane : Nat) (ns cs : List Str) (ps : List (Str × Addr)) (as : List (Str × Nat)) (fS : Str → List Addr), vs = [.ref y, .int (lane : Nat), .ref nt] ∧ Yo H Sy y cs pd ad ps as ∧ Rd H nt (.tup (ns.map V.str)) ∧ ns.length ≤ 4 ∧ (∀ n ∈ ns, n.length ≤ 1000 ∧ StpH Pg H ps fS n) ∧
  ∀ l ts H', H l = none → H' l = some (.lst (ts.map V.ref)) → TuS Tu H' ts (trnN fS lane ns ns.length) → Same H H' → Q (.ref l) H'
theorem d_lturns (T : SyX K mg R Wr B Pg Sy IS UC UP) (D : TD K mg "list_turns" s_list_turns) (m_program_named : Mn P w K mg base (L2.CX P w) 3 Sy "program_named" (sp_named Sy UP)) (k_Turn : Kn P w K mg base CX0 1 Tu "Turn" (sp_tuinit Tu)) : Dn P w K mg base CX0 5 "list_turns" (sp_lturns Pg Sy Tu) := by
  refine D.dn sc_list_turns (fun _ _ _ _ _ _ us hl => match us, hl with | [_, _, _], _ => rfl) (fun vs H Q E h => ?_) (fun f cdv A outer s H vs Q E hr h => ?_)
  · obtain ⟨y, nt, pd, ad, lane, ns, cs, ps, as, fS, rfl, _⟩ := h; rfl
  · obtain ⟨y, nt, pd, ad, lane, ns, cs, ps, as, fS, rfl, hy, hnt, hn4, hst, q⟩ := h
    refine ⟨_, (pss_cons (ps_set (i := 3) sc_list_turns.nd rfl (Or.inl rfl) (pe_lst pa_nil))
      (pss_cons (ps_for PassesOwn.never rfl (pi_enumT (by rfl) T.n_enumerate (pa_cons (pv 2) pa_nil)) (pg_tup rfl (pgs_cons (pg_name (i := 4) sc_list_turns.nd rfl (Or.inl rfl)) (pgs_cons (pg_name (i := 5) sc_list_turns.nd rfl (Or.inl rfl)) pgs_nil))) (pss_one (ps_for PassesOwn.never rfl (pi_tup (pe_fld (pe_m m_program_named T.cls hr (by decide) passL (pv 0) (pa_cons (pv 5) pa_nil)) (by rfl))) (pg_name (i := 6) sc_list_turns.nd rfl (Or.inl rfl)) (pss_one (ps_expr (pe_bm PySem.F.plainAttrs_list PySem.F.slot_list_append PySem.F.type_list_append mt_append (pv 3) (pa_cons (pe_k k_Turn hr (by decide) pass0 (by rfl) (pa_cons (pv 1) (pa_cons (pv 4) (pa_cons (pv 5) (pa_cons (pv 6) pa_nil))))) pa_nil)))))))
      (pss_one (ps_ret (pv 3))))), ?_⟩
    walk_at "rd"
    intro l hl0
    simp only [iEnumT]
    walk_at "rd"
    have s0 : Same H (upd H l (.lst [])) := UL.Same.new hl0
    have el : upd H l (.lst []) l = _ := upd_same
    generalize upd H l (.lst []) = H1 at s0 el ⊢
    refine ⟨⟨_, .inl (rd_same hnt s0)⟩, FJ.enumT (xs := ns.map V.str) (fun i σ' H' => ∃ (ts : List Addr) (z4 z5 z6 : Option V), σ' = [some (.ref y), some (.int (lane : Nat)), some (.ref nt), some (.ref l), z4, z5, z6] ∧ H' l = some (.lst (ts.map V.ref)) ∧ TuS Tu H' ts (trnN fS lane ns i) ∧ (∀ c o, H c = some o → H' c = some o)) ⟨[], _, _, _, rfl, el, .nil, s0⟩ (fun i σ' H' _ inv => ?_) (fun i x TT σ' H' hx inv hTT => ?_) fun σ' H' inv => ?_⟩
    · obtain ⟨ts, z4, z5, z6, _, _, _, sm⟩ := inv
      exact .inl (rd_same hnt sm)
    · obtain ⟨ts, z4, z5, z6, rfl, e1, hts, sm⟩ := inv
      rw [List.getElem?_map] at hx
      obtain ⟨n, hn, rfl⟩ := Option.map_eq_some_iff.mp hx
      obtain ⟨nl, hS⟩ := hst n (List.mem_of_getElem? hn)
      have s2 : Same H' (upd H' TT (.tup [.int (i : Nat), .str n])) := UL.Same.new hTT
      have eTT : upd H' TT (.tup [.int (i : Nat), .str n]) TT = _ := upd_same
      walk_at "rd"
      generalize upd H' TT (.tup [.int (i : Nat), .str n]) = H2 at s2 eTT ⊢
      have sm2 : Same H H2 := fun c o e => s2 _ _ (sm c o e)
      have hy2 := hy.same sm2
      have hy2' := hy2
      obtain ⟨⟨dy, c, fs, h1, h2, h3, h4, h5, h9⟩, h6, h7, h8⟩ := hy2'
      obtain ⟨ap, dx, p, hv, hap, hft, hf8⟩ := hS
      refine ⟨_, .inl (.inl eTT), rfl, _, _, rfl, _, _, rfl, rfl, dy, fs, h1, h9 _ (by simp [sysM]), y, pd, ad, n, cs, ps, as, rfl, hy2, nl, fun a' ha' => ?_, fun hnone => by rw [hv] at hnone; cases hnone⟩
      rw [hv] at ha'
      cases ha'
      have hft2 := ftSame hft sm2
      refine ⟨ap, rfl, Pg, dx, _, sm2 _ _ hap, T.cP, T.aP_steps, .ref p, rfl, p, rfl, ⟨_, ftSq hft2⟩, FJ.tup (xs := (fS n).map V.ref) (fun j σ' H3 => ∃ (ts : List Addr) (z6 : Option V), σ' = [some (.ref y), some (.int (lane : Nat)), some (.ref nt), some (.ref l), some (.int (i : Nat)), some (.str n), z6] ∧ H3 l = some (.lst (ts.map V.ref)) ∧ TuS Tu H3 ts (trnN fS lane ns i ++ ((fS n).take j).map fun st => ⟨lane, i, n, st⟩) ∧ (∀ c o, H c = some o → H3 c = some o)) ⟨ts, _, rfl, s2 _ _ e1, by simpa using hts.same s2, sm2⟩ (fun j σ' H3 _ inv => ?_) (fun j x σ' H3 hx inv => ?_) fun σ' H3 inv => ?_⟩
      · obtain ⟨_, _, _, _, _, s3⟩ := inv
        exact ftSq (ftSame hft s3)
      · obtain ⟨us, z6, rfl, e3, hus, s3⟩ := inv
        obtain ⟨st, hsj, rfl⟩ := ratW hx
        walk_at "rd"
        have hjl : j < (fS n).length := (List.getElem?_eq_some_iff.mp hsj).1
        have hil : i < ns.length := (List.getElem?_eq_some_iff.mp hn).1
        have lu := plenW hus
        have lt : ∀ k, k ≤ 4 → (trnN fS lane ns k).length ≤ 8 * k := fun k _ => by
          induction k with
          | zero => exact Nat.zero_le _
          | succ k ih =>
            cases hk : ns[k]? with
            | none =>
              have e : trnN fS lane ns (k + 1) = trnN fS lane ns k := by unfold trnN; rw [List.range_succ, List.flatMap_append]; simp [hk]
              rw [e]
              have := ih (by omega)
              omega
            | some m =>
              rw [trnN_succ hk, List.length_append, List.length_map]
              obtain ⟨_, _, _, _, _, _, _, h8'⟩ := hst m (List.mem_of_getElem? hk)
              have := ih (by omega)
              omega
        have lt1 := lt i (by omega)
        refine ⟨.inl ⟨rfl, _, .inl (.inl e3)⟩, fun x dx hx hdx nx => ⟨x, dx, ⟨lane, i, n, st⟩, rfl, upd_same, rfl, ?_⟩⟩
        have s4 : Same H3 (upd (upd (upd H3 dx (.own x)) x (.ins Tu dx [])) x (.ins Tu dx (fsTu ⟨lane, i, n, st⟩))) := by
          rw [upd_upd]
          exact fun c o e => by
            rw [upd_ne (ne_of_none e hx), upd_ne (ne_of_none e hdx)]
            exact e
        have ex : upd (upd (upd H3 dx (.own x)) x (.ins Tu dx [])) x (.ins Tu dx (fsTu ⟨lane, i, n, st⟩)) x = _ := upd_same
        generalize upd (upd (upd H3 dx (.own x)) x (.ins Tu dx [])) x (.ins Tu dx (fsTu ⟨lane, i, n, st⟩)) = H4 at s4 ex ⊢
        have e4 := s4 _ _ e3
        refine ⟨l, _, _, rfl, rfl, e4, by rw [List.length_map, lu, sizeLine_eq, List.length_append, List.length_map, List.length_take]; omega, us ++ [x], by rw [upd_same, List.map_append]; rfl, ?_, fun c o e => (upd_ne (ne_of_none e hl0)).trans (s4 _ _ (s3 c o e))⟩
        rw [List.take_add_one, hsj, List.map_append, ← List.append_assoc]
        exact pappW ((hus.same s4).put e4) (.cons ⟨dx, (upd_ne fun z => by rw [z, e4] at ex; cases ex).trans ex⟩ .nil)
      · obtain ⟨us, z6, rfl, e3, hus, s3⟩ := inv
        rw [List.length_map, List.take_length, ← trnN_succ hn] at hus
        exact ⟨⟨_, _, _, rfl⟩, us, e3, hus, s3⟩
    · obtain ⟨ts, z4, z5, z6, rfl, e1, hts, sm⟩ := inv
      rw [List.length_map] at hts
      walk_at "rd"
      exact q l ts H' hl0 e1 hts sm
end
end U
set_option Elab.async false
set_option linter.all false
set_option maxRecDepth 100000
set_option maxHeartbeats 4000000
/-! sum of a tuple of ints -/
namespace UX
open PySem PySem.Spec PyProof.Rows L2 UL UV UW ClX
section
variable {prog : Program} {w : World} {A : Around} {E : Value → Shared → Prop} {s : Shared} {l : Addr} {its : List Value} {ns : List Int} {Q : Value → Shared → Prop}
theorem sum_rawT (hh : A.handled = none) (hl : s.heap.IsTuple l its.toArray) (hi : IntsAre its ns)
    (h : ∀ h' tk t', (∀ b o, s.heap.get? b = some o → h'.get? b = some o) → Q (.int ns.sum t') { s with heap := h', toks := tk }) : wpAny (model prog w) A (call (.builtin "sum") [.ref l]) Q E s := by
  obtain ⟨xs, e⟩ := hi.allInts.items
  have hn : numsOf (intItems xs).toList = ns := by rw [← e]; exact hi.numsOf
  rw [nums_intItems] at hn
  rw [e] at hl
  have hlt : l < s.heap.objs.size := by obtain ⟨_, z, _⟩ := hl; exact Heap.lt_size z
  refine call_sum_walkG (wpAny_pyIter_tuple hl ?_)
  refine ⟨s.heap.objs.size, [s.heap.objs.size, l], [s.heap.objs.size], _, _, _, numAt xs, rfl, Walks.tuple (A := A.in1) hh _ l (Nat.ne_of_lt hlt) (intItems xs), ⟨⟨_, Heap.get?_push_size _ rfl, rfl, rfl⟩, hl.push _⟩, fun b hb => ?_, (fun _ _ => intItems_at), fun h' tk t' hk => ?_⟩
  · have e' : b = s.heap.objs.size ∨ b = l := by simpa using hb
    rw [Heap.size_push]
    rcases e' with z | z
    · rw [z]; exact Nat.lt_succ_self _
    · rw [z]; exact Nat.lt_succ_of_lt hlt
  · have := h h' tk t' fun b o z => hk b o (by simp only [List.mem_cons, List.not_mem_nil, or_false]; exact Nat.ne_of_lt (Heap.lt_size z)) (Heap.get?_push_of_some _ z)
    have e3 : (intItems xs).size = xs.size := by simp [intItems]
    rw [e3, preSum_eq, List.take_of_length_le (by simp), hn]
    exact this
end
/-- sum of a list or a tuple of ints -/
def rSumA (K : PySem.W.Frag) : List V → Hp → VK → Prop := fun vs H Q => rSum K vs H Q ∨ ∃ (a : Addr) (ns : List Int), vs = [V.ref a] ∧ SqT K H a (ns.map V.int) ∧ Q (.int ns.sum) H
theorem cr_sumA {X : Cx} (hc : X.calm = true) : CallR X (.builtin "sum") (rSumA X.K) := by
  intro pins s σ H vs us Q I r h
  rcases h with h | ⟨a, ns, rfl, hs, q⟩
  · exact cr_sum hc pins s σ H vs us Q I r h
  · obtain ⟨its, rv, hl, _⟩ := I.tuple hs
    rw [Vals.ref1 r]
    exact sum_rawT (I.ok.hd hc) hl rv.ints fun h' tk t' hk => ⟨.int _, H, I.kept hk, ⟨_, rfl⟩, q⟩
end UX
set_option Elab.async false
set_option linter.all false
set_option maxRecDepth 100000
set_option maxHeartbeats 4000000
set_option pp.deepTerms true
set_option pp.maxSteps 400000
namespace U
open PySem PySem.Spec PyProof.Rows L2 UL UX
local macro_rules | `(tactic| walk_at "rd") => `(tactic| simp only [sMatch, tJs, tFmt, tBC, tMethA, tMakeL, iEnumS, tSeq, tAsg, tOp, tCB, tCons, tNil, tVar, tC, tB, tTest, tNot, tIfS, tNext, tYes, tUn, rU, tM0, tGFrom, tGThen, tG0, tYfLst, gcxK, tSubO, tProp, tListG, tMethG, tBMF, tFld, sFld, tMeth, tMake, tSl, tNoPart, tPart, tM1, gTup, gCons, gNil, tDrop, tFor_eq, tLc_eq, tLc2_eq, iRng1_eq, StX.tStar, iList, iTup, iStr, iAny_var, iZipB, tLenSetS, wipe, tVar, tAndV, tOrV, tNotV, tOr, tAnd, tLst, tTup, tBM, tBM0, tChain, tCall, cxK, noxK, addII, addSS, mulII, eqII, neII, neSS, cIntI, cAbsI, rI, rI0, rLt, rLe, rGt_, rGe_, rSub_, rMod, rPow, rDivW, rNeg, gName, tRet, L2.start, List.length_cons, List.length_nil, List.map_cons, List.map_nil, List.replicate, List.cons_append, List.nil_append, List.getElem?_cons_zero, List.getElem?_cons_succ, List.set_cons_zero, List.set_cons_succ, Option.some.injEq, exists_eq_left', exists_eq_left, V.int.injEq, V.bl.injEq, V.str.injEq, V.ref.injEq, V.ty.injEq, List.cons.injEq, and_true, true_and, reduceCtorEq, false_and, exists_false, or_false, false_or, exists_and_left, exists_and_right, List.append_nil, forall_eq, decide_eq_true_eq, Bool.not_eq_true, Nat.reduceAdd, Nat.reduceSub, List.replicate_zero, List.replicate_succ, Nat.zero_le, ite_true, ite_false, if_true, if_false])
section
variable {P : Program} {w : World} {K : PySem.W.Frag} {mg : Str → Option Value} {base : Heap}
open UV UW NdefX ClX
variable {R Wr B Pg Sy IC UC IS UP WE IP C Tu Wv TS : Addr}
local macro_rules | `(tactic| walk_at "rdx") => `(tactic| simp only [tCons, tNil, tJs, tC, tFmt, tFmtN, tVar, tOst, tSeq, NdefX.startF, L2.start, List.length_cons, List.length_nil, List.map_cons, List.map_nil, List.replicate, List.cons_append, List.nil_append, List.getElem?_cons_zero, List.getElem?_cons_succ, Option.some.injEq, exists_eq_left', exists_eq_left, V.str.injEq, V.int.injEq, V.ref.injEq, reduceCtorEq, false_and, exists_false, or_false, false_or, and_true, true_and, exists_and_left, exists_and_right, Nat.reduceAdd, Nat.reduceSub, Nat.reduceLeDiff, ncK])
abbrev s_TS : Stmt := inClass (top 9) 0
theorem sc_TS : NScope ["self", "number", "__class__"] ["self", "number"] ["__class__"] (defScope s_TS) := nscope_by (by decide +kernel)
def sp_TS : Addr → Sp := fun C vs H Q _ => ∃ (a : Addr) (x0 : Int), vs = [.ref a, .int x0] ∧ H a = some (exo a C none) ∧ PySem.W.findIn K (.ref C) "number" = some none ∧ -(2 ^ 64) < x0 ∧ x0 < 2 ^ 64 ∧ ∀ d, H d = none → d ≠ a → Q .non (upd (upd H d (exd d [(("number" : Str), V.int x0)])) a (exo a C (some d)))
theorem x_TS {C : Addr} (D : XD P K mg C "TooManySteps" "TooManySteps.__init__" s_TS) : Xn P w K mg base 1 C "TooManySteps" (sp_TS (K := K) C) := by
  obtain ⟨f, c, cc, oc, kV, doc, pm, ct, od, an, osl, lk, hcd, F, h1, h2⟩ := D.ex
  refine ⟨⟨f, _, ["self", "number"], fn_sup (N := ["self", "number", "__class__"]) (ps := ["number"]) (pl := _) lk hcd sc_TS D.ox F (by decide +kernel) (fun vs H Q E h => ?_) (fun A outer s H vs Q E hr h => ?_), h1, h2, Binds.all fun us hl => match us, hl with | [_, _], _ => rfl⟩, D.ox, D.gc⟩
  · obtain ⟨a, x0, rfl, _⟩ := h; rfl
  · obtain ⟨a, x0, rfl, ha, hf0, hc0, hd0, q⟩ := h
    refine ⟨a, _, _, rfl, ha, pa_cons (pe_joined (.cons (pe_fmt (pv 1)) (.cons pe_str .nil))) pa_nil, (pss_one (ps_ost (pv 0) (pv 1))), ?_⟩
    walk_at "rdx"
    have ll0 : (Str.ofString " steps are too many").length ≤ 200 := by decide +kernel
    have l0 : Str.empty.length = 0 := rfl
    have lg0 := log64 hc0 hd0
    have li0 := int_text_len_1921 lg0
    repeat (first | refine ⟨by (simp only [len_app, l0, sizeLine_eq]; omega), ?_⟩ | refine ⟨lg0, ?_⟩)
    exact ⟨ha, C, D.ox, hf0, .inl ⟨ha, fun d hd hda => q d hd hda⟩⟩
structure WvT (K : PySem.W.Frag) (mg : Str → Option Value) (Wv C TS : Addr) : Prop extends Nm mg where
  n_enumerate : mg "enumerate" = none
  n_sum : mg "sum" = none
  n_any : mg "any" = none
  cls : Cls K Wv
  clsC : Cls K C
  a_lanes : NoAttr K C "lanes"
  a_turns : NoAttr K Wv "_turns"
  a_lengths : NoAttr K Wv "lengths"
  a_number : NoAttr K Wv "_number"
  a_found : NoAttr K Wv "_found"
  cv_MOST_STEPS : CVn K mg "Weave" "MOST_STEPS" (.int 8)
  naT : PySem.W.findIn K (.ref TS) "number" = some none
def fsWv (tu ln fd : Addr) (n : Nat) : List (Str × V) := [("_turns", .ref tu), ("lengths", .ref ln), ("_number", .int (n : Nat)), ("_found", .ref fd)]
/-- raise TooManySteps(n) -/
theorem raiseTS {n : Int} {H : Hp} {E : XK} {σ : L2.St} {ta : TA} (x : PySem.W.findIn K (.ref TS) "number" = some none) (h0 : -(2 ^ 64) < n) (h1 : n < 2 ^ 64) (hta : ∀ R : List V → Hp → Prop, R [.int n] H → ta σ H R) (h : ∀ d H', Same H H' → H' d = some (.xd [("number", .int n)]) → E (.ref TS) (some d) H') : tMkO TS (sp_TS (K := K) TS) [] ta σ H (fun cls d H' => E cls d H') := by
  refine hta _ ⟨by show 1 ≤ 1000; decide, fun e1 he1 => ?_⟩
  refine ⟨e1, n, rfl, upd_same, x, h0, h1, fun d1 hd1 hde1 => ⟨rfl, d1, _, upd_same, by rw [upd_ne hde1, upd_same], by rw [upd_ne hde1] at hd1; exact hd1, ?_⟩⟩
  rw [exg1 he1]
  rw [upd_ne hde1] at hd1
  exact h d1 _ (UL.Same.new hd1) upd_same
/-- the turns of the lanes stand in lists -/
def TurnsH (Tu : Addr) (H : Hp) (ts : List Addr) (TT : List (List Trn)) : Prop := Paired (fun t us => ∃ as : List Addr, H t = some (.lst (as.map V.ref)) ∧ TuS Tu H as us) ts TT
theorem TurnsH.same {H H' : Hp} {ts : List Addr} {TT : List (List Trn)} (h : TurnsH Tu H ts TT) (s : Same H H') : TurnsH Tu H' ts TT := L2.Paired.mapP h fun _ _ ⟨as, e, g⟩ => ⟨as, s _ _ e, g.same s⟩
theorem trnN_le {fS : Str → List Addr} {lane : Nat} {ns : List Str} (h : ∀ n ∈ ns, (fS n).length ≤ 8) : ∀ k, (trnN fS lane ns k).length ≤ 8 * k
  | 0 => Nat.zero_le _
  | k + 1 => by
    have ih := trnN_le (lane := lane) h k
    cases hk : ns[k]? with
    | none =>
      have e : trnN fS lane ns (k + 1) = trnN fS lane ns k := by unfold trnN; rw [List.range_succ, List.flatMap_append]; simp [hk]
      rw [e]; omega
    | some m =>
      rw [trnN_succ hk, List.length_append, List.length_map]
      have := h m (List.mem_of_getElem? hk)
      omega
theorem sumLe {m : Nat} : ∀ {l : List Nat}, (∀ x ∈ l, x ≤ m) → l.sum ≤ l.length * m
  | [], _ => by simp
  | x :: r, h => by
    have h1 := h x List.mem_cons_self
    have h2 := sumLe (l := r) fun y hy => h y (List.mem_cons_of_mem _ hy)
    rw [List.sum_cons, List.length_cons, Nat.succ_mul]
    omega
/-- a weave, nothing found yet -/
def WvA (Wv Tu : Addr) (H : Hp) (a tu ln fd : Addr) (TT : List (List Trn)) : Prop := ∃ dx ts, H a = some (.ins Wv dx (fsWv tu ln fd (TT.map List.length).sum)) ∧ H tu = some (.lst (ts.map V.ref)) ∧ TurnsH Tu H ts TT ∧ H ln = some (.tup (TT.map fun us => V.int (us.length : Nat)))
/-- the turns of a plan -/
def plTr (fS : Str → List Addr) (zs : List (List Str)) : List (List Trn) := (List.range zs.length).map fun i => match zs[i]? with
  | some ns => trnN fS i ns ns.length
  | none => []
theorem TuS.putx {H : Hp} {ts : List Addr} {us : List Trn} {x dx : Addr} {fs : List (Str × V)} {o : HO} (h : TuS Tu H ts us) (e : H x = some (.ins Wv dx fs)) (n : fs.lookup ("lane" : Str) = none) : TuS Tu (upd H x o) ts us := L2.Paired.mapP h fun _ t ⟨d, g⟩ => ⟨d, (upd_ne fun z => by
  rw [z, e] at g
  have h2 := (HO.ins.inj (Option.some.inj g)).2.2
  rw [h2] at n
  cases n).trans g⟩
theorem TurnsH.putx {H : Hp} {ts : List Addr} {TT : List (List Trn)} {x dx : Addr} {fs : List (Str × V)} {o : HO} (h : TurnsH Tu H ts TT) (e : H x = some (.ins Wv dx fs)) (n : fs.lookup ("lane" : Str) = none) : TurnsH Tu (upd H x o) ts TT := L2.Paired.mapP h fun _ _ ⟨as, g, k⟩ => ⟨as, (upd_ne (ne_of g e fun z => nomatch z)).trans g, k.putx e n⟩
/-- .. none of the lists is D -/
def TurnsX (Tu D : Addr) (H : Hp) (ts : List Addr) (TT : List (List Trn)) : Prop := Paired (fun t us => t ≠ D ∧ ∃ as : List Addr, H t = some (.lst (as.map V.ref)) ∧ TuS Tu H as us) ts TT
theorem TurnsX.same {D : Addr} {H H' : Hp} {ts : List Addr} {TT : List (List Trn)} (h : TurnsX Tu D H ts TT) (s : Same H H') : TurnsX Tu D H' ts TT := L2.Paired.mapP h fun _ _ ⟨n, as, e, g⟩ => ⟨n, as, s _ _ e, g.same s⟩
theorem TurnsX.put {D : Addr} {H : Hp} {ts : List Addr} {TT : List (List Trn)} {xs : List V} {o : HO} (h : TurnsX Tu D H ts TT) (e : H D = some (.lst xs)) : TurnsX Tu D (upd H D o) ts TT := L2.Paired.mapP h fun _ _ ⟨n, as, g, k⟩ => ⟨n, as, (upd_ne n).trans g, k.put e⟩
theorem plTr_le {fS : Str → List Addr} {zs : List (List Str)} (h3 : zs.length ≤ 3) (h : ∀ ns ∈ zs, ns.length ≤ 4 ∧ ∀ n ∈ ns, (fS n).length ≤ 8) : ((plTr fS zs).map List.length).sum ≤ 96 := by
  have e : ∀ x ∈ (plTr fS zs).map List.length, x ≤ 32 := fun x hx => by
    obtain ⟨us, hus, rfl⟩ := List.mem_map.mp hx
    unfold plTr at hus
    obtain ⟨i, _, rfl⟩ := List.mem_map.mp hus
    cases hz : zs[i]? with
    | none => exact Nat.zero_le _
    | some ns =>
      have hm := h ns (List.mem_of_getElem? hz)
      have := trnN_le (lane := i) hm.2 ns.length
      show (trnN fS i ns ns.length).length ≤ 32
      omega
  have h1 := sumLe e
  have l : ((plTr fS zs).map List.length).length = zs.length := by unfold plTr; rw [List.length_map, List.length_map, List.length_range]
  rw [l] at h1
  omega
/-- the lists of a weave are new -/
def WvNew (H H' : Hp) (tu : Addr) : Prop := H tu = none ∧ ∀ ts : List Addr, H' tu = some (.lst (ts.map V.ref)) → ∀ t ∈ ts, H t = none
abbrev s_Weave___init__ : Stmt := inClass (top 14) 1
abbrev sc_Weave___init___N : List Str := ["self", "system", "plan", ".0", "lane", "names", "turns"]
theorem sc_Weave___init__ : FnScope sc_Weave___init___N ["self", "system", "plan"] (defScope s_Weave___init__) := ⟨rfl, rfl, rfl, by decide +kernel, rfl, by decide +kernel, by decide +kernel⟩
-- 0 self, 1 system, 2 plan, 3 .0, 4 lane, 5 names, 6 turns
def sp_wvinit (Pg Sy Tu Wv C TS : Addr) : Sp := fun vs H Q E => ∃ (x y pl dx pd ad : Addr) (cs : List Str) (ps : List (Str × Addr)) (as : List (Str × Nat)) (fS : Str → List Addr) (zs : Ln), vs = [.ref x, .ref y, .ref pl] ∧ H x = some (.ins Wv dx []) ∧ Yo H Sy y cs pd ad ps as ∧ PlO C H pl zs ∧ zs.length ≤ 3 ∧ (∀ l ∈ zs, l.2.length ≤ 4 ∧ ∀ n ∈ l.2, n.length ≤ 1000 ∧ StpH Pg H ps fS n) ∧
  (((plTr fS (zs.map (·.2))).map List.length).sum ≤ 8 → ∀ H' tu ln fd, (H fd = none ∧ WvNew H H' tu) → H' fd = some (.dT []) → WvA Wv Tu H' x tu ln fd (plTr fS (zs.map (·.2))) → But x H H' → Q .non H') ∧ (8 < ((plTr fS (zs.map (·.2))).map List.length).sum → ∀ d H', But x H H' → H' d = some (.xd [("number", .int (((plTr fS (zs.map (·.2))).map List.length).sum : Nat))]) → E (.ref TS) (some d) H')
theorem m_wvinit (T : WvT K mg Wv C TS) (D : MD K Wv "__init__" "Weave.__init__" s_Weave___init__) (d_list_turns : Dn P w K mg base CX0 5 "list_turns" (sp_lturns Pg Sy Tu)) (x_TooManySteps : Xn P w K mg base 1 TS "TooManySteps" (sp_TS (K := K) TS)) : Mn P w K mg base (L2.CX P w) 7 Wv "__init__" (sp_wvinit Pg Sy Tu Wv C TS) := by
  refine D.mx sc_Weave___init__ (fun _ _ _ _ _ _ us hl => match us, hl with | [_, _, _], _ => rfl) (fun vs H Q E h => ?_) (fun f cdv A outer s H vs Q E hr h => ?_)
  · obtain ⟨x, y, pl, dx, pd, ad, cs, ps, as, fS, zs, rfl, _⟩ := h; rfl
  · obtain ⟨x, y, pl, dx, pd, ad, cs, ps, as, fS, zs, rfl, hx, hy, hpl, hz3, hzs, q, qx⟩ := h
    refine ⟨_, (pss_cons (ps_fld (pv 0) (pe_lc (own := [(".0", 3), ("lane", 4), ("names", 5)]) (g := (gTup K 2 (gCons (gName 4) (gCons (gName 5) gNil)))) (tt := tYes) rfl sc_Weave___init__.nd (pi_enumT (by rfl) T.n_enumerate (pa_cons (pe_fldK K rfl (pv 2) (by rfl)) pa_nil)) (blkOk_by (N := sc_Weave___init___N) (sc := defScope s_Weave___init__) (by decide +kernel)) (fun _ _ _ _ _ => pg_tupK K 2 rfl rfl (pgs_cons (pg_name (i := 4) sc_Weave___init__.nd rfl (Or.inl rfl)) (pgs_cons (pg_name (i := 5) sc_Weave___init__.nd rfl (Or.inl rfl)) pgs_nil))) (fun _ _ _ _ _ => pts_nil) (fun _ _ _ _ _ => (pe_d d_list_turns hr (by decide) pass0 (by rfl) (pa_cons (pv 1) (pa_cons (pv 4) (pa_cons (pv 5) pa_nil)))))) rfl)
      (pss_cons (ps_fld (pv 0) (pe_callTy call_tupA (by rfl) T.n_tuple (by decide +kernel) (pa_cons (pe_lc (own := [(".0", 3), ("turns", 6)]) (g := (gName 6)) (tt := tYes) rfl sc_Weave___init__.nd (pi_list (pe_fldK K rfl (pv 0) (by rfl))) (blkOk_by (N := sc_Weave___init___N) (sc := defScope s_Weave___init__) (by decide +kernel)) (fun _ _ _ _ _ => pg_name (i := 6) sc_Weave___init__.nd rfl (Or.inl rfl)) (fun _ _ _ _ _ => pts_nil) (fun _ _ _ _ _ => (pe_callB (call_lenK K rfl) (by rfl) T.n_len (by decide +kernel) (pa_cons (pv 6) pa_nil)))) pa_nil)) rfl)
      (pss_cons (ps_fld (pv 0) (pe_callB (cr_sumA rfl) (by rfl) T.n_sum (by decide +kernel) (pa_cons (pe_fld (pv 0) (by rfl)) pa_nil)) rfl)
      (pss_cons (ps_if (pt_cmpR op_gtA (pe_fld (pv 0) (by rfl)) (pe_cv T.cv_MOST_STEPS (by rfl)) (nomark _)) (pss_one (ps_raise rfl (takes_of rfl rfl rfl rfl) (pmk_x x_TooManySteps hr (by decide) (by rfl) (pa_cons (pe_fld (pv 0) (by rfl)) pa_nil)))) pss_nil)
      (pss_one (ps_fld (pv 0) pe_dnewT rfl)))))), ?_⟩
    walk_at "rd"
    simp only [iEnumT]
    walk_at "rd"
    have hpl' := hpl
    obtain ⟨dp, t, hp1, hp2, hp3⟩ := hpl'
    have lenT : ∀ k, k ≤ zs.length → ((plTr fS (zs.map (·.2))).take k).length = k := fun k hk => by
      unfold plTr
      rw [List.length_take, List.length_map, List.length_range, List.length_map]; omega
    refine ⟨C, dp, _, hp1, T.clsC, T.a_lanes, .ref t, rfl, t, rfl, ⟨_, .inl hp2⟩, fun D hD => LJ.it (walk_enumT (xs := refs zs)) (fun i H' => ∃ ts, H' D = some (.lst (ts.map V.ref)) ∧ TurnsX Tu D H' ts ((plTr fS (zs.map (·.2))).take i) ∧ Same H H' ∧ ∀ t ∈ ts, H t = none) ⟨[], upd_same, .nil, UL.Same.new hD, fun t h => (by cases h)⟩ (fun i H' _ inv => ?_) (fun i v H' H'' hi inv yy => ?_) fun H2 inv => ?_⟩
    · obtain ⟨ts, _, _, s2, _⟩ := inv
      exact .inl (rd_same hp2 s2)
    · obtain ⟨TT, v1, v2, rfl, hTT, rfl, e1, e2⟩ := yy
      cases e1
      obtain ⟨ts, eD, hts, s2, fr⟩ := inv
      obtain ⟨z, hz, rfl⟩ : ∃ z, zs[i]? = some z ∧ v2 = V.ref z.1 := by
        have e2 : (zs.map fun l => V.ref l.1)[i]? = some v2 := e2
        rw [List.getElem?_map] at e2
        cases e : zs[i]? with
        | none => rw [e] at e2; cases e2
        | some z => rw [e] at e2; exact ⟨z, rfl, (Option.some.inj e2).symm⟩
      have hzm := List.mem_of_getElem? hz
      have hil : i < zs.length := (List.getElem?_eq_some_iff.mp hz).1
      have s3 : Same H' (upd H' TT (.tup [.int (i : Nat), .ref z.1])) := UL.Same.new hTT
      have eT : upd H' TT (.tup [.int (i : Nat), .ref z.1]) TT = _ := upd_same
      generalize upd H' TT (.tup [.int (i : Nat), .ref z.1]) = H3 at s3 eT ⊢
      have s23 := Same.tr s2 s3
      obtain ⟨z4, zn⟩ := hzs z hzm
      walk_at "rd"
      refine ⟨_, .inl (.inl eT), rfl, _, _, rfl, _, _, rfl, rfl, ?_⟩
      refine ⟨y, z.1, pd, ad, i, z.2, cs, ps, as, fS, rfl, hy.same s23, rd_same (hp3 z hzm) s23, z4, fun n hn => ⟨(zn n hn).1, ?_⟩, fun l us H4 hl0 hl hus s4 => ?_⟩
      · obtain ⟨_, a1, d1, p1, g1, g2, g3, g4⟩ := zn n hn
        exact ⟨a1, d1, p1, g1, s23 _ _ g2, ftSame g3 s23, g4⟩
      have eD4 := s4 _ _ (s3 _ _ eD)
      have lD : l ≠ D := fun e => by rw [e, s3 _ _ eD] at hl0; cases hl0
      have lu := plenW hts
      rw [lenT i (by omega)] at lu
      refine ⟨_, eD4, by rw [List.length_map, lu, sizeLine_eq]; omega, ts ++ [l], by rw [upd_same, List.map_append]; rfl, ?_, UL.Same.put (Same.tr s23 s4) hD, fun t ht => (List.mem_append.mp ht).elim (fr t) fun h => by rw [List.mem_singleton.mp h]; exact Same.free s23 hl0⟩
      have ei : (plTr fS (zs.map (·.2)))[i]? = some (trnN fS i z.2 z.2.length) := by
        unfold plTr
        rw [List.getElem?_map, List.getElem?_range (by rw [List.length_map]; exact hil)]
        simp [hz]
      rw [List.take_add_one, ei]
      exact pappW (((hts.same s3).same s4).put eD4) (.cons ⟨lD, us, (upd_ne lD).trans hl, hus.put eD4⟩ .nil)
    · obtain ⟨ts, eD, hts, s2, fr⟩ := inv
      have eTT : ((plTr fS (zs.map (·.2))).take (refs zs).length) = plTr fS (zs.map (·.2)) := by
        rw [List.take_of_length_le]
        unfold plTr refs
        rw [List.length_map, List.length_range, List.length_map, List.length_map]
        exact Nat.le_refl _
      rw [eTT] at hts
      have lz : (plTr fS (zs.map (·.2))).length = zs.length := by unfold plTr; rw [List.length_map, List.length_range, List.length_map]
      have hle : ((plTr fS (zs.map (·.2))).map List.length).sum ≤ 96 := plTr_le (by rw [List.length_map]; exact hz3) fun ns hns => by
        obtain ⟨z, hz, rfl⟩ := List.mem_map.mp hns
        exact ⟨(hzs z hz).1, fun n hn => by obtain ⟨_, _, _, _, _, _, _, h8⟩ := (hzs z hz).2 n hn; exact h8⟩
      generalize plTr fS (zs.map (·.2)) = TT at hts q qx lz hle ⊢
      have ltt := plenW hts
      have hx2 := s2 _ _ hx
      have xD : D ≠ x := fun z => by rw [z, hx2] at eD; cases eD
      refine ⟨Wv, dx, [], hx2, T.cls, T.a_turns, by show 0 < 1000; decide, Wv, dx, _, upd_same, T.cls, T.a_turns, .ref D, rfl, D, rfl, ⟨_, .inl (.inl ((upd_ne xD).trans eD))⟩, fun D1 hD1 => ?_⟩
      have e3 : upd H2 x (.ins Wv dx (putF "_turns" (.ref D) [])) x = _ := upd_same
      have b23 : But x H2 (upd H2 x (.ins Wv dx (putF "_turns" (.ref D) []))) := fun c o e n => (upd_ne n).trans e
      have t3 : TurnsH Tu (upd H2 x (.ins Wv dx (putF "_turns" (.ref D) []))) ts TT := TurnsH.putx (L2.Paired.mapP hts fun _ _ g => g.2) hx2 rfl
      generalize upd H2 x (.ins Wv dx (putF "_turns" (.ref D) [])) = H3 at e3 b23 t3 hD1 ⊢
      have eD3 := b23 _ _ eD xD
      refine LJ.it (walk_list (xs := ts.map V.ref)) (fun i H' => H' D1 = some (.lst ((TT.take i).map fun us => V.int (us.length : Nat))) ∧ Same H3 H') ⟨upd_same, UL.Same.new hD1⟩ (fun i H' _ inv => .inl (.inl (inv.2 _ _ eD3))) (fun i v H' H'' hi inv yy => ?_) fun H4 inv => ?_
      · obtain ⟨rfl, hv⟩ := yy
        obtain ⟨eD1, s3⟩ := inv
        obtain ⟨u, hu, rfl⟩ := ratW hv
        obtain ⟨us, hus, as, g1, g2⟩ := patW t3 hu
        refine ⟨rfl, ?_⟩
        walk_at "rd"
        refine lenL (.inl (.inl (s3 _ _ g1))) ⟨_, eD1, by rw [List.length_map, List.length_take, sizeLine_eq]; omega, ?_, UL.Same.put s3 hD1⟩
        rw [upd_same, List.take_add_one, hus, List.map_append, List.length_map, plenW g2]
        rfl
      · obtain ⟨eD1, s3⟩ := inv
        rw [List.length_map, ltt, List.take_length] at eD1
        refine ⟨D1, _, rfl, .inl ⟨.inl (.inl eD1), fun ln hln => ?_⟩⟩
        have s5 : Same H4 (upd H4 ln (.tup (TT.map fun us => V.int (us.length : Nat)))) := UL.Same.new hln
        have eln : upd H4 ln (.tup (TT.map fun us => V.int (us.length : Nat))) ln = _ := upd_same
        show (fun y_1 H1 => _) (V.ref ln) (upd H4 ln (.tup (TT.map fun us => V.int (us.length : Nat))))
        generalize upd H4 ln (.tup (TT.map fun us => V.int (us.length : Nat))) = H5 at s5 eln ⊢
        have s35 := Same.tr s3 s5
        have e5 := s35 _ _ e3
        have t5 := t3.same s35
        have lnx : ln ≠ x := fun z => by rw [z, e5] at eln; cases eln
        have Dx5 := s35 _ _ eD3
        have b5 : But x H H5 := fun c o e n => s35 _ _ (b23 _ _ (s2 _ _ e) n)
        refine ⟨Wv, dx, _, e5, T.cls, T.a_lengths, by show 1 < 1000; decide, Wv, dx, _, upd_same, T.cls, T.a_lengths, .ref ln, rfl, ?_⟩
        have e6 : upd H5 x (.ins Wv dx (putF "lengths" (.ref ln) (putF "_turns" (.ref D) []))) x = _ := upd_same
        have b56 : But x H5 (upd H5 x (.ins Wv dx (putF "lengths" (.ref ln) (putF "_turns" (.ref D) [])))) := fun c o e n => (upd_ne n).trans e
        have t6 : TurnsH Tu (upd H5 x (.ins Wv dx (putF "lengths" (.ref ln) (putF "_turns" (.ref D) [])))) ts TT := TurnsH.putx t5 e5 rfl
        generalize upd H5 x (.ins Wv dx (putF "lengths" (.ref ln) (putF "_turns" (.ref D) []))) = H6 at e6 b56 t6 ⊢
        have eln6 := b56 _ _ eln lnx
        have eD6 := b56 _ _ Dx5 xD
        have es : (TT.map fun us => (us.length : Int)).sum = ((TT.map List.length).sum : Nat) := by
          clear hle hts q qx ltt t3 t5 t6 lz eln eln6 eD1
          induction TT with
          | nil => rfl
          | cons u r ih => rw [List.map_cons, List.sum_cons, ih, List.map_cons, List.sum_cons]; omega
        refine .inr ⟨ln, TT.map fun us => (us.length : Int), rfl, .inl (.inl (by rw [eln6, List.map_map]; rfl)), ?_⟩
        rw [es]
        refine ⟨Wv, dx, _, e6, T.cls, T.a_number, by show 2 < 1000; decide, Wv, dx, _, upd_same, T.cls, T.a_number, .int ((TT.map List.length).sum : Nat), rfl, _, rfl, ?_⟩
        have e7 : upd H6 x (.ins Wv dx (putF "_number" (.int ((TT.map List.length).sum : Nat)) (putF "lengths" (.ref ln) (putF "_turns" (.ref D) [])))) x = _ := upd_same
        have b67 : But x H6 (upd H6 x (.ins Wv dx (putF "_number" (.int ((TT.map List.length).sum : Nat)) (putF "lengths" (.ref ln) (putF "_turns" (.ref D) []))))) := fun c o e n => (upd_ne n).trans e
        have t7 : TurnsH Tu (upd H6 x (.ins Wv dx (putF "_number" (.int ((TT.map List.length).sum : Nat)) (putF "lengths" (.ref ln) (putF "_turns" (.ref D) []))))) ts TT := TurnsH.putx t6 e6 rfl
        generalize upd H6 x (.ins Wv dx (putF "_number" (.int ((TT.map List.length).sum : Nat)) (putF "lengths" (.ref ln) (putF "_turns" (.ref D) [])))) = H7 at e7 b67 t7 ⊢
        have b7 : But x H H7 := fun c o e n => b67 _ _ (b56 _ _ (b5 _ _ e n) n) n
        have n64 : (TT.map List.length).sum < 2 ^ 60 := by omega
        by_cases c8 : (8 : Int) < ((TT.map List.length).sum : Nat)
        · rw [if_pos c8]
          refine raiseTS T.naT (by omega) (by omega) (fun R r => ?_) fun d H' s hd => qx (by omega) d H' (fun c o e n => s _ _ (b7 _ _ e n)) hd
          walk_at "rd"
          exact ⟨Wv, dx, _, e7, T.cls, T.a_number, _, rfl, r⟩
        · rw [if_neg c8]
          intro fd hfd
          have s8 : Same H7 (upd H7 fd (.dT [])) := UL.Same.new hfd
          have efd : upd H7 fd (.dT []) fd = _ := upd_same
          generalize upd H7 fd (.dT []) = H8 at s8 efd ⊢
          have e8 := s8 _ _ e7
          have t8 := t7.same s8
          have xfd : fd ≠ x := Ne.symm (ne_of_none e7 hfd)
          have fd0 : H fd = none := by
            cases e : H fd with
            | none => rfl
            | some o => rw [b7 _ _ e xfd] at hfd; cases hfd
          exact ⟨Wv, dx, _, e8, T.cls, T.a_found, by show 3 < 1000; decide, q (by omega) _ D ln fd ⟨fd0, hD, fun ts' e t ht => fr t (by have e2 := ((upd_ne xD).trans (s8 _ _ (b67 _ _ eD6 xD))).symm.trans e; injection (Option.some.inj e2) with e3; rw [refsI e3]; exact ht)⟩ ((upd_ne xfd).trans efd) ⟨dx, ts, upd_same, (upd_ne xD).trans (s8 _ _ (b67 _ _ eD6 xD)), TurnsH.putx t8 e8 rfl, (upd_ne lnx).trans (s8 _ _ (b67 _ _ eln6 lnx))⟩ fun c o e n => (upd_ne n).trans (s8 _ _ (b7 _ _ e n))⟩
end
end U
set_option Elab.async false
set_option linter.all false
set_option maxRecDepth 100000
set_option maxHeartbeats 4000000
set_option pp.deepTerms true
set_option pp.maxSteps 400000
namespace U
open PySem PySem.Spec PyProof.Rows L2 UL UX
local macro_rules | `(tactic| walk_at "rd") => `(tactic| simp only [sMatch, tJs, tFmt, tBC, tMethA, tMakeL, iEnumS, tSeq, tAsg, tOp, tCB, tCons, tNil, tVar, tC, tB, tTest, tNot, tIfS, tNext, tYes, tUn, rU, tM0, tGFrom, tGThen, tG0, tYfLst, gcxK, tSubO, tProp, tListG, tMethG, tBMF, tFld, sFld, tMeth, tMake, tSl, tNoPart, tPart, tM1, gTup, gCons, gNil, tDrop, tFor_eq, tLc_eq, tLc2_eq, iRng1_eq, StX.tStar, iList, iTup, iStr, iAny_var, iZipB, tLenSetS, wipe, tVar, tAndV, tOrV, tNotV, tOr, tAnd, tLst, tTup, tBM, tBM0, tChain, tCall, cxK, noxK, addII, addSS, mulII, eqII, neII, neSS, cIntI, cAbsI, rI, rI0, rLt, rLe, rGt_, rGe_, rSub_, rMod, rPow, rDivW, rNeg, gName, tRet, L2.start, List.length_cons, List.length_nil, List.map_cons, List.map_nil, List.replicate, List.cons_append, List.nil_append, List.getElem?_cons_zero, List.getElem?_cons_succ, List.set_cons_zero, List.set_cons_succ, Option.some.injEq, exists_eq_left', exists_eq_left, V.int.injEq, V.bl.injEq, V.str.injEq, V.ref.injEq, V.ty.injEq, List.cons.injEq, and_true, true_and, reduceCtorEq, false_and, exists_false, or_false, false_or, exists_and_left, exists_and_right, List.append_nil, forall_eq, decide_eq_true_eq, Bool.not_eq_true, Nat.reduceAdd, Nat.reduceSub, List.replicate_zero, List.replicate_succ, Nat.zero_le, ite_true, ite_false, if_true, if_false])
section
variable {P : Program} {w : World} {K : PySem.W.Frag} {mg : Str → Option Value} {base : Heap}
open UV UW NdefX ClX
variable {R Wr B Pg Sy IC UC IS UP WE IP C Tu Wv TsA : Addr}
/-- the places of one lane: behind a step of the same program -/
def plcOf (lane : Nat) (us : List Trn) (m : Nat) : List (Nat × Nat) := (List.range m).filterMap fun j => match us[j]?, us[j + 1]? with
  | some a, some b => if a.occ = b.occ then some (lane, j + 1) else none
  | _, _ => none
def plcs (TT : List (List Trn)) (i : Nat) : List (Nat × Nat) := (List.range i).flatMap fun l => match TT[l]? with
  | some us => plcOf l us (us.length - 1)
  | none => []
def PlcH (H : Hp) (ts : List Addr) (ps : List (Nat × Nat)) : Prop := Paired (fun t p => H t = some (.tup [.int (p.1 : Nat), .int (p.2 : Nat)])) ts ps
theorem PlcH.same {H H' : Hp} {ts : List Addr} {ps : List (Nat × Nat)} (h : PlcH H ts ps) (s : Same H H') : PlcH H' ts ps := L2.Paired.mapP h fun _ _ g => s _ _ g
theorem PlcH.put {H : Hp} {ts : List Addr} {ps : List (Nat × Nat)} {l : Addr} {zs : List V} {o : HO} (h : PlcH H ts ps) (e : H l = some (.lst zs)) : PlcH (upd H l o) ts ps := L2.Paired.mapP h fun _ _ g => (upd_ne fun z => by rw [z, e] at g; cases g).trans g
theorem FJ.enumL {a : Addr} {xs : List V} {g : TG} {tb : TS} {D : Ends} {σ : L2.St} {H : Hp} (Pv : Nat → L2.St → Hp → Prop) (h0 : Pv 0 σ H) (hl : ∀ i σ H, i ≤ xs.length → Pv i σ H → SqL K H a xs)
    (hs : ∀ (i : Nat) (x : V) (T : Addr) (σ : L2.St) (H : Hp), xs[i]? = some x → Pv i σ H → H T = none → g (.ref T) σ (upd H T (.tup [.int (i : Nat), x])) fun σ2 H2 => tb { D with nx := Pv (i + 1), ct := Pv (i + 1), bk := D.nx } σ2 H2) (hd : ∀ σ H, Pv xs.length σ H → D.nx σ H) :
    FJ (Ite K a) g tb D σ H := for_it walk_enum Pv h0 hl (fun i v σ H H' hi p y => by
      obtain ⟨T, x, y', rfl, hT, rfl, e1, e2⟩ := y
      cases e1
      exact hs i y' T σ H e2 p hT) hd
theorem plcOf_succ {lane : Nat} {us : List Trn} {m : Nat} {x y : Trn} (hx : us[m]? = some x) (hy : us[m + 1]? = some y) : plcOf lane us (m + 1) = plcOf lane us m ++ (if x.occ = y.occ then [(lane, m + 1)] else []) := by
  unfold plcOf
  rw [List.range_succ, List.filterMap_append]
  by_cases c : x.occ = y.occ
  · rw [if_pos c]; simp [hx, hy, c]
  · rw [if_neg c]; simp [hx, hy, c]
theorem plcOf_len {lane : Nat} {us : List Trn} {m : Nat} : (plcOf lane us m).length ≤ m := by
  unfold plcOf
  exact Nat.le_trans (List.length_filterMap_le _ _) (by rw [List.length_range]; exact Nat.le_refl _)
theorem plcs_succ {TT : List (List Trn)} {i : Nat} {us : List Trn} (h : TT[i]? = some us) : plcs TT (i + 1) = plcs TT i ++ plcOf i us (us.length - 1) := by
  unfold plcs
  rw [List.range_succ, List.flatMap_append]
  simp [h]
theorem plcs_len {TT : List (List Trn)} (h : ∀ us ∈ TT, us.length ≤ 100) : ∀ i, (plcs TT i).length ≤ 100 * i
  | 0 => Nat.zero_le _
  | i + 1 => by
    have ih := plcs_len h i
    cases e : TT[i]? with
    | none =>
      have e2 : plcs TT (i + 1) = plcs TT i := by unfold plcs; rw [List.range_succ, List.flatMap_append]; simp [e]
      rw [e2]; omega
    | some us =>
      have h1 := h us (List.mem_of_getElem? e)
      have h2 := plcOf_len (lane := i) (us := us) (m := us.length - 1)
      rw [plcs_succ e, List.length_append]
      omega
abbrev s_Weave_places : Stmt := inClass (top 14) 2
abbrev sc_Weave_places_N : List Str := ["self", "found", "lane", "turns", "k"]
theorem sc_Weave_places : FnScope sc_Weave_places_N ["self"] (defScope s_Weave_places) := ⟨rfl, rfl, rfl, by decide +kernel, rfl, by decide +kernel, by decide +kernel⟩
-- 0 self, 1 found, 2 lane, 3 turns, 4 k
def sp_places (Tu Wv : Addr) : Sp := fun vs H Q _ => ∃ (a tu ln fd : Addr) (TT : List (List Trn)), vs = [.ref a] ∧ WvA Wv Tu H a tu ln fd TT ∧ TT.length ≤ 3 ∧ (∀ us ∈ TT, us.length ≤ 100) ∧
  ∀ l ts H', H l = none → H' l = some (.lst (ts.map V.ref)) → PlcH H' ts (plcs TT TT.length) → Same H H' → Q (.ref l) H'
structure WvU (K : PySem.W.Frag) (mg : Str → Option Value) (Wv C TsA Tu : Addr) : Prop extends WvT K mg Wv C TsA where
  clsT : Cls K Tu
  b_occurrence : NoAttr K Tu "occurrence"
theorem m_places (T : WvU K mg Wv C TsA Tu) (D : MD K Wv "places" "Weave.places" s_Weave_places) : Mn P w K mg base CX0 1 Wv "places" (sp_places Tu Wv) := by
  refine D.mn sc_Weave_places (fun _ _ _ _ _ _ us hl => match us, hl with | [_], _ => rfl) (fun vs H Q E h => ?_) (fun f cdv A outer s H vs Q E hr h => ?_)
  · obtain ⟨a, tu, ln, fd, TT, rfl, _⟩ := h; rfl
  · obtain ⟨a, tu, ln, fd, TT, rfl, ⟨dx, ts, h1, h2, h3, h4⟩, hT3, hU, q⟩ := h
    refine ⟨_, (pss_cons (ps_set (i := 1) sc_Weave_places.nd rfl (Or.inl rfl) (pe_lst pa_nil))
      (pss_cons (ps_for PassesOwn.never rfl (pi_enum (by rfl) T.n_enumerate (pa_cons (pe_fld (pv 0) (by rfl)) pa_nil)) (pg_tup rfl (pgs_cons (pg_name (i := 2) sc_Weave_places.nd rfl (Or.inl rfl)) (pgs_cons (pg_name (i := 3) sc_Weave_places.nd rfl (Or.inl rfl)) pgs_nil))) (pss_one (ps_for PassesOwn.never rfl (pi_range2 (by rfl) T.n_range (pa_cons pe_int (pa_cons (pe_callB call_lenA (by rfl) T.n_len (by decide +kernel) (pa_cons (pv 3) pa_nil)) pa_nil))) (pg_name (i := 4) sc_Weave_places.nd rfl (Or.inl rfl)) (pss_one (ps_if (pt_cmpR (op_eqA (hr.units)) (pe_fld (pe_ix ix_seq (pv 3) (pe_op op_subA (pv 4) pe_int) (fun _ _ => rfl)) (by rfl)) (pe_fld (pe_ix ix_seq (pv 3) (pv 4) (fun _ _ => rfl)) (by rfl)) (nomark _)) (pss_one (ps_expr (pe_bm PySem.F.plainAttrs_list PySem.F.slot_list_append PySem.F.type_list_append mt_append (pv 1) (pa_cons (pe_tup (pa_cons (pv 2) (pa_cons (pv 4) pa_nil))) pa_nil)))) pss_nil)))))
      (pss_one (ps_ret (pv 1))))), ?_⟩
    walk_at "rd"
    intro l hl0
    simp only [iEnum]
    walk_at "rd"
    have s0 : Same H (upd H l (.lst [])) := UL.Same.new hl0
    have el : upd H l (.lst []) l = _ := upd_same
    generalize upd H l (.lst []) = H1 at s0 el ⊢
    refine ⟨Wv, dx, _, s0 _ _ h1, T.cls, T.a_turns, .ref tu, rfl, tu, rfl, ⟨_, .inl (.inl (s0 _ _ h2))⟩, FJ.enumL (xs := ts.map V.ref) (fun i σ' H' => ∃ (rs : List Addr) (z2 z3 z4 : Option V), σ' = [some (.ref a), some (.ref l), z2, z3, z4] ∧ H' l = some (.lst (rs.map V.ref)) ∧ PlcH H' rs (plcs TT i) ∧ (∀ c o, H c = some o → H' c = some o)) ⟨[], _, _, _, rfl, el, .nil, s0⟩ (fun i σ' H' _ inv => ?_) (fun i x TT' σ' H' hx inv hTT => ?_) fun σ' H' inv => ?_⟩
    · obtain ⟨rs, z2, z3, z4, _, _, _, sm⟩ := inv
      exact .inl (.inl (sm _ _ h2))
    · obtain ⟨rs, z2, z3, z4, rfl, e1, hrs, sm⟩ := inv
      obtain ⟨t, hti, rfl⟩ := ratW hx
      obtain ⟨us, hus, as, g1, g2⟩ := patW h3 hti
      have s2 : Same H' (upd H' TT' (.tup [.int (i : Nat), .ref t])) := UL.Same.new hTT
      have eT : upd H' TT' (.tup [.int (i : Nat), .ref t]) TT' = _ := upd_same
      generalize upd H' TT' (.tup [.int (i : Nat), .ref t]) = H2 at s2 eT ⊢
      have sm2 : ∀ c o, H c = some o → H2 c = some o := fun c o e => s2 _ _ (sm c o e)
      have la := plenW g2
      have hu100 := hU us (List.mem_of_getElem? hus)
      have hil : i < TT.length := (List.getElem?_eq_some_iff.mp hus).1
      walk_at "rd"
      refine ⟨_, .inl (.inl eT), rfl, _, _, rfl, _, _, rfl, rfl, ?_⟩
      simp only [iRng2]
      walk_at "rd"
      refine lenL (.inl (.inl (sm2 _ _ g1))) ⟨1, _, ⟨rfl, rfl⟩, ⟨by decide, by decide, by omega, by rw [List.length_map]; omega⟩, ?_⟩
      have en : (((as.map V.ref).length : Int) - 1).toNat = us.length - 1 := by rw [List.length_map, la]; omega
      rw [en]
      have pl := plcs_len hU i
      refine FJ.range (fun m σ' H3 => ∃ (rs : List Addr) (z4 : Option V), σ' = [some (.ref a), some (.ref l), some (.int (i : Nat)), some (.ref t), z4] ∧ H3 l = some (.lst (rs.map V.ref)) ∧ PlcH H3 rs (plcs TT i ++ plcOf i us m) ∧ (∀ c o, H c = some o → H3 c = some o)) ⟨rs, _, rfl, s2 _ _ e1, by simpa [plcOf] using hrs.same s2, sm2⟩ (fun m σ' H3 hm inv => ?_) fun σ' H3 inv => ?_
      · obtain ⟨qs, z4, rfl, e3, hqs, s3⟩ := inv
        have m1 : m < as.length := by omega
        have m2 : m + 1 < as.length := by omega
        obtain ⟨u1, hu1, d1, k1⟩ := patW g2 (List.getElem?_eq_getElem m1)
        obtain ⟨u2, hu2, d2, k2⟩ := patW g2 (List.getElem?_eq_getElem m2)
        have i1 : (1 : Int) + m - 1 = (m : Nat) := by omega
        have i2 : (1 : Int) + m = ((m + 1 : Nat) : Int) := by omega
        have a1 : (as.map V.ref)[m]? = some (V.ref as[m]) := by rw [List.getElem?_map, List.getElem?_eq_getElem m1]; rfl
        have a2 : (as.map V.ref)[m + 1]? = some (V.ref as[m + 1]) := by rw [List.getElem?_map, List.getElem?_eq_getElem m2]; rfl
        have lq := plenW hqs
        have pm := plcOf_len (lane := i) (us := us) (m := m)
        walk_at "rd"
        rw [i1, i2]
        have ht3 := s3 _ _ g1
        refine ixL (.inl (.inl ht3)) (atN a1) ⟨_, rfl, Tu, d1, _, s3 _ _ k1, T.clsT, T.b_occurrence, .int (u1.occ : Nat), rfl, ixL (.inl (.inl ht3)) (atN a2) ⟨_, rfl, Tu, d2, _, s3 _ _ k2, T.clsT, T.b_occurrence, .int (u2.occ : Nat), rfl, eqII.mpr ⟨_, rfl, ?_⟩⟩⟩
        have ep := plcOf_succ (lane := i) hu1 hu2
        by_cases c : u1.occ = u2.occ
        · rw [if_pos (by simp [c])]
          rw [if_pos c] at ep
          refine ⟨.inl ⟨rfl, _, .inl (.inl e3)⟩, by rw [sizeLine_eq]; decide, fun p hp => ?_⟩
          have s4 : Same H3 (upd H3 p (.tup [.int (i : Nat), .int ((m + 1 : Nat) : Int)])) := UL.Same.new hp
          have ep4 : upd H3 p (.tup [.int (i : Nat), .int ((m + 1 : Nat) : Int)]) p = _ := upd_same
          generalize upd H3 p (.tup [.int (i : Nat), .int ((m + 1 : Nat) : Int)]) = H4 at s4 ep4 ⊢
          have e4 := s4 _ _ e3
          refine ⟨l, _, _, rfl, rfl, e4, by rw [List.length_map, lq, List.length_append, sizeLine_eq]; omega, qs ++ [p], by rw [upd_same, List.map_append]; rfl, ?_, fun c o e => (upd_ne (ne_of_none e hl0)).trans (s4 _ _ (s3 c o e))⟩
          rw [ep, ← List.append_assoc]
          exact pappW ((hqs.same s4).put e4) (.cons ((upd_ne fun z => by rw [z, e4] at ep4; cases ep4).trans ep4) .nil)
        · rw [if_neg (by simp; omega)]
          rw [if_neg c, List.append_nil] at ep
          rw [ep]
          exact ⟨qs, e3, hqs, s3⟩
      · obtain ⟨qs, z4, rfl, e3, hqs, s3⟩ := inv
        rw [← plcs_succ hus] at hqs
        exact ⟨⟨_, _, _, rfl⟩, qs, e3, hqs, s3⟩
    · obtain ⟨rs, z2, z3, z4, rfl, e1, hrs, sm⟩ := inv
      rw [List.length_map, plenW h3] at hrs
      walk_at "rd"
      exact q l rs H' hl0 e1 hrs sm
end
end U
set_option Elab.async false
set_option linter.all false
set_option maxRecDepth 100000
set_option maxHeartbeats 4000000
/-! tuples that are kept exact (no dict, no slots): displays, tuple.count -/
namespace UX
open PySem PySem.Spec PyProof.Rows L2 UL UV UW ClX
section
variable {X : Cx} {es : List Expr} {t : TA} {pos : Pos}
/-- t[lo:hi], the new object known -/
def rSlF (K : PySem.W.Frag) : V → Option Int → Option Int → Hp → VK → Prop := fun x lo hi H Q => ∃ a xs, x = .ref a ∧ SqT K H a xs ∧
  (HT.sIx xs.length 0 lo = 0 ∧ HT.sIx xs.length xs.length hi = xs.length → Q (.ref a) H) ∧ (¬ (HT.sIx xs.length 0 lo = 0 ∧ HT.sIx xs.length xs.length hi = xs.length) → ∀ p o, H p = none → o.dict = none → o.slots = #[] → Q (.ref p) (upd H p (.frz o (.tup (cutV xs lo hi)))))
theorem sl_tupF : SlR X (rSlF X.K) := by
  intro pins s σ H x v vl vu lo hi sl Q I rx hs pl pu h
  obtain ⟨a, xs, rfl, hx, q1, q2⟩ := h
  cases rx
  obtain ⟨its, r, ht, hz⟩ := I.tuple hx
  have hlen : its.toArray.size = xs.length := by rw [List.size_toArray]; exact r.length.symm
  refine ⟨"tuple", _, PyProof.Rows.slot_tuple_getitem.lookup, ht.typeIs, ?_⟩
  by_cases hw : HT.sIx xs.length 0 lo = 0 ∧ HT.sIx xs.length xs.length hi = xs.length
  · exact L2.getItem_tuple_whole ht hs pl pu (by rw [hlen]; exact hw) ⟨.ref a, H, I, rfl, q1 hw⟩
  · refine HT.getItem_tuple_cut ht hs pl pu (by rw [hlen]; exact hw) ?_ (by rw [hlen]; exact hz)
    rw [hlen]
    exact ⟨.ref s.heap.objs.size, _, I.laid (t' := s.toks) (fun b ob q => Heap.get?_push_of_some _ q) (Nat.le_refl _) (show ObjOk X.prog X.w _ _ _ (.frz { cls := .type "tuple", data := .seq ((its.drop (HT.sIx xs.length 0 lo)).take (HT.sIx xs.length xs.length hi - HT.sIx xs.length 0 lo)).toArray } (.tup (cutV xs lo hi))) from
      ⟨Heap.get?_push_size _ rfl, Nat.le_trans (cutV_length xs lo hi) hz, _, (r.drop (HT.sIx xs.length 0 lo)).take (HT.sIx xs.length xs.length hi - HT.sIx xs.length 0 lo), IsTup.new _ _⟩), rfl, q2 hw _ _ (I.hok.fresh (Nat.le_refl _)) rfl rfl⟩
/-- t.count(i) of a tuple of ints -/
def rCntT (K : PySem.W.Frag) : V → List V → Hp → VK → Prop := fun x xs H Q => ∃ (p : Addr) (ns : List Int) (k : Int), x = .ref p ∧ xs = [.int k] ∧ SqT K H p (ns.map V.int) ∧ Q (.int (ns.count k : Nat)) H
theorem mt_tcount : MtR X "tuple.count" (rCntT X.K) := by
  intro pins s σ H x xs v us Q I rx rxs h
  obtain ⟨p, ns, k, rfl, rfl, hs, q⟩ := h
  cases rx
  obtain ⟨u, rfl, ru⟩ := rxs.one
  obtain ⟨t, rfl⟩ := ru
  obtain ⟨its, rv, ⟨⟨cls, dd, data, sl⟩, ho, hc, n, hd⟩, hlen⟩ := I.tuple hs
  simp only at hc hd
  subst hc hd
  have hi := ints_of_vals rv
  refine call_meets PySem.F.slot_tuple_count ⟨_, ho, rfl⟩ PySem.F.entry_tuple_count (PySem.F.args_tuple_count_2 _ _)
    (SeqAt.tuple_countAt p its.toArray n dd sl (.int k t) (eqk k)) ⟨ho, fun y hy => (eqk_gives hi y (by simpa using hy)).at _ _, ?_⟩
  have ec : its.toArray.toList.countP (eqk k) = ns.count k := eqk_count hi
  refine ⟨.int (ns.count k : Nat), H, I.tok _, ⟨s.toks, ?_⟩, q⟩
  show Value.int ((its.toArray.toList.countP (eqk k) : Nat) : Int) s.toks = Value.int ((ns.count k : Nat) : Int) s.toks
  rw [ec]
theorem mt_tcountK (K : PySem.W.Frag) (h : X.K = K) : MtR X "tuple.count" (rCntT K) := h ▸ mt_tcount
end
theorem pi_enumTK {X : Cx} {e : Expr} {ta : TA} {p pos tpos : Pos} {elts : List Expr} {kk : Nat} (K : PySem.W.Frag) (h : X.K = K) (hg : Gl X "enumerate") (hm : X.mg "enumerate" = none) (ha : PA X [e] ta) (hs : starEach [e] X.env = [(false, eval e X.env)] := by rfl) :
    PI X (.Tuple elts kk tpos) (.Call (.Name "enumerate" p) [e] [] pos) (iEnumT K ta) := h ▸ pi_enumT hg hm ha hs
end UX
set_option Elab.async false
set_option linter.all false
set_option maxRecDepth 100000
set_option maxHeartbeats 4000000
/-! items() of a locked dict whose keys are tuples; a known tuple taken as any tuple -/
namespace UX
open PySem PySem.Spec PyProof.Rows L2 UL UV UW ClX
section
variable {X : Cx} {e : Expr} {te : TE} {pins : List (Addr × Obj)} {σ : L2.St} {H H0 H' : Hp} {s : Shared}
/-- some new known tuples are taken as any tuples -/
def Fgt (H0 H H' : Hp) : Prop := ∀ a, H' a = H a ∨ H0 a = none ∧ ∃ o xs, H a = some (.frz o (.tup xs)) ∧ H' a = some (.tup xs)
theorem Fgt.none {a : Addr} (h : Fgt H0 H H') (e : H a = .none) : H' a = .none := by
  rcases h a with z | ⟨_, o, xs, z, _⟩
  · exact z.trans e
  · rw [e] at z; cases z
theorem Fgt.but {a : Addr} {o : HO} (h : Fgt H0 H H') (e : H a = some o) (n : ∀ ob xs, o ≠ .frz ob (.tup xs)) : H' a = some o := by
  rcases h a with z | ⟨_, ob, xs, z, _⟩
  · exact z.trans e
  · rw [e] at z; exact absurd (Option.some.inj z) (n ob xs)
end
end UX
set_option Elab.async false
set_option linter.all false
set_option maxRecDepth 100000
set_option maxHeartbeats 4000000
/-! if d: the truth of a dict whose keys are tuples -/
namespace UX
open PySem PySem.Spec PyProof.Rows L2 UL UV UW ClX
end UX
set_option Elab.async false
set_option linter.all false
set_option maxRecDepth 100000
set_option maxHeartbeats 4000000
/-! a dict of tuple keys that is locked from here on -/
namespace UX
open PySem PySem.Spec PyProof.Rows L2 UL UV UW ClX
end UX
set_option Elab.async false
set_option linter.all false
set_option maxRecDepth 100000
set_option maxHeartbeats 4000000
/-! methods and defs whose last parameters have defaults -/
namespace UX
open PySem PySem.Spec PyProof.Rows L2 UL UV UW ClX
structure MDd (K : PySem.W.Frag) (C : Addr) (m qual : Str) (st : Stmt) (dvs : List V) : Prop where
  ex : ∃ f fd, FunD K m qual (defArgs st) (defBody st) (defScope st) dvs [] f fd ∧ Meth K C m f
structure Mnd (P : Program) (w : World) (K : PySem.W.Frag) (mg : Str → Option Value) (base : Heap) (CX : CXT) (k : Nat) (C : Addr) (m : Str) (dvs : List V) (sp : Sp) : Prop where
  ex : ∃ (f : Addr) (fd : FuncData) (ps : List Str) (ds : List Value), FnOk P w K mg base CX k f fd ps sp ∧ Meth K C m f ∧ Binds K fd ps [] ∧ Vals dvs ds ∧ Binds K fd ps ds
abbrev BindD (x qual : Str) (st : Stmt) (dvs : List V) (n j : Nat) (ps : List Str) : Prop := ∀ (T : Addr) (kV doc pm : Value) (an : Option Addr) (cdv ct : Value) (us its : List Value), us.length = n → its.length = dvs.length →
      ∃ k, bindArgs (PySem.W.fnOf x qual (defArgs st) (defBody st) (defScope st) (.ref T) kV doc pm an cdv ct) ⟨us, []⟩ = seqItems? (.ref T) >>= k ∧ k (some its.toArray) = pure (ps.zip (us ++ its.drop j))
section
variable {P : Program} {w : World} {K : PySem.W.Frag} {mg : Str → Option Value} {base : Heap} {C : Addr} {m qual : Str} {st : Stmt} {N ps : List Str} {k n : Nat} {sp : Sp} {spg : SpG} {dvs : List V}
theorem fund_b {f : Addr} {fd : FuncData} (F : FunD K m qual (defArgs st) (defBody st) (defScope st) dvs [] f fd) (hd : dvs ≠ []) (hn : n + dvs.length = ps.length) (b0 : BindD m qual st dvs ps.length dvs.length ps) (b1 : BindD m qual st dvs n 0 ps) : Binds K fd ps [] ∧ ∃ ds, Vals dvs ds ∧ Binds K fd ps ds := by
  obtain ⟨d0, v0, q0⟩ := F.binds1 ps.length dvs.length hd (by omega) b0
  obtain ⟨d1, v1, q1⟩ := F.binds1 n 0 hd (by omega) b1
  rw [List.drop_length] at v0
  cases v0
  exact ⟨q0, d1, v1, q1⟩
theorem MDd.mn (D : MDd K C m qual st dvs) (S : FnScope N ps (defScope st)) (hd : dvs ≠ []) (hn : n + dvs.length = ps.length) (b0 : BindD m qual st dvs ps.length dvs.length ps) (b1 : BindD m qual st dvs n 0 ps) (len : ∀ vs H Q E, sp vs H Q E → vs.length = ps.length) (body : Body0 P w K mg base qual st N k sp) : Mnd P w K mg base CX0 (k + 1) C m dvs sp := by
  obtain ⟨f, fd, F, M⟩ := D.ex
  obtain ⟨q0, ds, v, q1⟩ := fund_b F hd hn b0 b1
  refine ⟨f, fd, ps, ds, F.ok S len fun cdv A outer s H vs Q E hr h => ?_, M, q0, v, q1⟩
  obtain ⟨t, ht, hq⟩ := body f cdv A outer s H vs Q E hr h
  exact ⟨t, ht.nox, hq⟩
theorem MDd.mx (D : MDd K C m qual st dvs) (S : FnScope N ps (defScope st)) (hd : dvs ≠ []) (hn : n + dvs.length = ps.length) (b0 : BindD m qual st dvs ps.length dvs.length ps) (b1 : BindD m qual st dvs n 0 ps) (len : ∀ vs H Q E, sp vs H Q E → vs.length = ps.length) (body : BodyX P w K mg base qual st N k sp) : Mnd P w K mg base (L2.CX P w) (k + 1) C m dvs sp := by
  obtain ⟨f, fd, F, M⟩ := D.ex
  obtain ⟨q0, ds, v, q1⟩ := fund_b F hd hn b0 b1
  exact ⟨f, fd, ps, ds, F.ok S len fun cdv A outer s H vs Q E hr h => body f cdv A outer s H vs Q E hr h, M, q0, v, q1⟩
end
end UX
set_option Elab.async false
set_option linter.all false
set_option maxRecDepth 100000
set_option maxHeartbeats 4000000
/-! lambdas that capture cells, handed to defs; what is called through a name -/
namespace UX
open PySem PySem.Spec PyProof.Rows L2 UL UV UW ClX LamX NdefX
/-- the object at f is the lambda F whose body is e -/
def LamO (f : Addr) (F : NF) (e : Expr) : HO := .ext fun h => ∃ (od : Option Addr) (sl : Array (Option Value)) (pm ctv : Value), h.get? f = some (⟨.type "function", od, .func (PySem.W.kla_fn F.name F.qual F.params e F.scope F.cl pm (.ref F.c) ctv), sl⟩ : Obj)
/-- a cell that holds v -/
def CelO (c : Addr) (v : V) : HO := .ext fun h => ∃ u, L2.RelV v u ∧ h.IsCell c (some u)
/-- S as in H, the rest as in H' -/
def ret (S : List Addr) (H H' : Hp) : Hp := fun b => if b ∈ S then H b else H' b
section
variable {P : Program} {w : World} {K : PySem.W.Frag} {mg : Str → Option Value} {base : Heap} {A : Around} {outer : List Env} {s s' : Shared} {H H1 H2 : Hp} {S : List Addr} {Q : VK} {u : Value}
/-- the cells that the names hold -/
def cellsOf (cells : List (Str × Addr)) (fr : List Str) : List Addr := fr.filterMap fun y => cells.lookup y
/-- the lambda F at f, whose captured cells hold ws -/
structure LamG (f : Addr) (F : NF) (e : Expr) (fr : List Str) (ws : List V) (H : Hp) : Prop where
  fn : H f = some (LamO f F e)
  code : H F.c = some (CodeO F.c F.qual)
  len : ws.length = fr.length
  inj : ∀ x y c, F.cl.lookup x = some c → F.cl.lookup y = some c → x = y
  sub : ∀ y c, F.cl.lookup y = some c → y ∈ fr
  has : ∀ (i : Nat) (y : Str) (v : V), fr[i]? = some y → ws[i]? = some v → ∃ c o, F.cl.lookup y = some c ∧ H c = some (.frz o (CelO c v))
theorem LamG.same {f : Addr} {F : NF} {e : Expr} {fr : List Str} {ws : List V} (h : LamG f F e fr ws H) (s : ∀ b o, H b = some o → (∀ ps, o ≠ .tbl ps) → H1 b = some o) : LamG f F e fr ws H1 :=
  ⟨s _ _ h.fn (fun _ z => nomatch z), s _ _ h.code (fun _ z => nomatch z), h.len, h.inj, h.sub, fun i y v e1 e2 => let ⟨c, o, a, b⟩ := h.has i y v e1 e2; ⟨c, o, a, s _ _ b (fun _ z => nomatch z)⟩⟩
end
/-- the cells of fr are known, locked, from here on -/
structure Capd (cells : List (Str × Addr)) (fr : List Str) (ws : List V) (H1 H2 : Hp) : Prop where
  off : ∀ b, b ∉ cellsOf cells fr → H2 b = H1 b
  new : ∀ b ∈ cellsOf cells fr, H1 b = none
  inj : ∀ x y c, cells.lookup x = some c → cells.lookup y = some c → x = y
  has : ∀ (i : Nat) (y : Str) (v : V), fr[i]? = some y → ws[i]? = some v → ∃ c o, cells.lookup y = some c ∧ H2 c = some (.frz o (CelO c v))
theorem Capd.same {cells : List (Str × Addr)} {fr : List Str} {ws : List V} {H1 H2 : Hp} (h : Capd cells fr ws H1 H2) : ∀ b o, H1 b = some o → H2 b = some o := fun b o e => by
  rw [h.off b fun z => by rw [h.new b z] at e; cases e]; exact e
end UX
set_option Elab.async false
set_option linter.all false
set_option maxRecDepth 100000
set_option maxHeartbeats 4000000
set_option pp.deepTerms true
set_option pp.maxSteps 400000
namespace U
open PySem PySem.Spec PyProof.Rows L2 UL UX
local macro_rules | `(tactic| walk_at "rd") => `(tactic| simp only [sMatch, tJs, tFmt, tBC, tMethA, tMakeL, iEnumS, tSeq, tAsg, tOp, tCB, tCons, tNil, tVar, tC, tB, tTest, tNot, tIfS, tNext, tYes, tUn, rU, tM0, tGFrom, tGThen, tG0, tYfLst, gcxK, tSubO, tProp, tListG, tMethG, tBMF, tFld, sFld, tMeth, tMake, tSl, tNoPart, tPart, tM1, gTup, gCons, gNil, tDrop, tFor_eq, tLc_eq, tLc2_eq, iRng1_eq, StX.tStar, iList, iTup, iStr, iAny_var, iZipB, tLenSetS, wipe, tVar, tAndV, tOrV, tNotV, tOr, tAnd, tLst, tTup, tBM, tBM0, tChain, tCall, cxK, noxK, addII, addSS, mulII, eqII, neII, neSS, cIntI, cAbsI, rI, rI0, rLt, rLe, rGt_, rGe_, rSub_, rMod, rPow, rDivW, rNeg, gName, tRet, L2.start, List.length_cons, List.length_nil, List.map_cons, List.map_nil, List.replicate, List.cons_append, List.nil_append, List.getElem?_cons_zero, List.getElem?_cons_succ, List.set_cons_zero, List.set_cons_succ, Option.some.injEq, exists_eq_left', exists_eq_left, V.int.injEq, V.bl.injEq, V.str.injEq, V.ref.injEq, V.ty.injEq, List.cons.injEq, and_true, true_and, reduceCtorEq, false_and, exists_false, or_false, false_or, exists_and_left, exists_and_right, List.append_nil, forall_eq, decide_eq_true_eq, Bool.not_eq_true, Nat.reduceAdd, Nat.reduceSub, List.replicate_zero, List.replicate_succ, Nat.zero_le, ite_true, ite_false, if_true, if_false])
section
variable {P : Program} {w : World} {K : PySem.W.Frag} {mg : Str → Option Value} {base : Heap}
open UV UW NdefX ClX
theorem plenQ {α β : Type} {F : α → β → Prop} : ∀ {l : List α} {m : List β}, Paired F l m → l.length = m.length
  | [], [], _ => rfl
  | _ :: _, _ :: _, .cons _ r => congrArg (· + 1) (plenQ r)
/-- a list or a tuple, as it stands -/
def LoT (H : Hp) (b : Addr) (xs : List V) : Prop := H b = some (.lst xs) ∨ H b = some (.tup xs)
theorem LoT.sqA {H : Hp} {b : Addr} {xs : List V} (h : LoT H b xs) : SqA K H b xs := h.elim (fun e => ⟨.l, .inl (.inl e)⟩) fun e => ⟨.t, .inl (.inl e)⟩
theorem LoT.same {H H' : Hp} {b : Addr} {xs : List V} (h : LoT H b xs) (s : Same H H') : LoT H' b xs := h.imp (s _ _) (s _ _)
theorem LoT.tup {H : Hp} {b : Addr} {xs : List V} {R : VK} (h : LoT H b xs) (q : ∀ t H', Same H H' → H' t = some (.tup xs) → R (.ref t) H') : cTup K [.ref b] H R :=
  ⟨b, xs, rfl, h.elim (fun e => .inl ⟨.inl (.inl e), fun l hl => q l _ (UL.Same.new hl) upd_same⟩) fun e => .inr ⟨.inl (.inl e), q b H (fun _ _ z => z) e⟩⟩
end
end U
set_option Elab.async false
set_option linter.all false
set_option maxRecDepth 100000
set_option maxHeartbeats 4000000
set_option pp.deepTerms true
set_option pp.maxSteps 400000
namespace U
open PySem PySem.Spec PyProof.Rows L2 UL UX
local macro_rules | `(tactic| walk_at "rd") => `(tactic| simp only [sMatch, tJs, tFmt, tBC, tMethA, tMakeL, iEnumS, tSeq, tAsg, tOp, tCB, tCons, tNil, tVar, tC, tB, tTest, tNot, tIfS, tNext, tYes, tUn, rU, tM0, tGFrom, tGThen, tG0, tYfLst, gcxK, tSubO, tProp, tListG, tMethG, tBMF, tFld, sFld, tMeth, tMake, tSl, tNoPart, tPart, tM1, gTup, gCons, gNil, tDrop, tFor_eq, tLc_eq, tLc2_eq, iRng1_eq, StX.tStar, iList, iTup, iStr, iAny_var, iZipB, tLenSetS, wipe, tVar, tAndV, tOrV, tNotV, tOr, tAnd, tLst, tTup, tBM, tBM0, tChain, tCall, cxK, noxK, addII, addSS, mulII, eqII, neII, neSS, cIntI, cAbsI, rI, rI0, rLt, rLe, rGt_, rGe_, rSub_, rMod, rPow, rDivW, rNeg, gName, tRet, L2.start, List.length_cons, List.length_nil, List.map_cons, List.map_nil, List.replicate, List.cons_append, List.nil_append, List.getElem?_cons_zero, List.getElem?_cons_succ, List.set_cons_zero, List.set_cons_succ, Option.some.injEq, exists_eq_left', exists_eq_left, V.int.injEq, V.bl.injEq, V.str.injEq, V.ref.injEq, V.ty.injEq, List.cons.injEq, and_true, true_and, reduceCtorEq, false_and, exists_false, or_false, false_or, exists_and_left, exists_and_right, List.append_nil, forall_eq, decide_eq_true_eq, Bool.not_eq_true, Nat.reduceAdd, Nat.reduceSub, List.replicate_zero, List.replicate_succ, Nat.zero_le, ite_true, ite_false, if_true, if_false])
section
variable {P : Program} {w : World} {K : PySem.W.Frag} {mg : Str → Option Value} {base : Heap}
open UV UW NdefX ClX LamX
variable {R Wr B Pg Sy IC UC IS UP C Tu Wv TS : Addr}
/-! a weaving is right, and its turns -/
def nI (wv : List Nat) : List Int := wv.map fun (n : Nat) => (n : Int)
theorem nI_take {wv : List Nat} {i : Nat} : (nI wv).take i = nI (wv.take i) := by unfold nI; rw [List.map_take]
theorem nI_cnt {l : Nat} : ∀ {wv : List Nat}, (nI wv).count (l : Int) = wv.count l
  | [] => rfl
  | x :: r => by
    have ih := nI_cnt (l := l) (wv := r)
    unfold nI at ih ⊢
    rw [List.map_cons, List.count_cons, List.count_cons, ih]
    by_cases c : x = l
    · subst c; simp
    · have : ((x : Int) == (l : Int)) = false := by simp; omega
      rw [this, show (x == l) = false by simpa using c]
theorem nI_at {wv : List Nat} {i : Nat} {x : V} (h : ((nI wv).map V.int)[i]? = some x) : ∃ l, wv[i]? = some l ∧ x = .int (l : Nat) := by
  unfold nI at h
  rw [List.map_map, List.getElem?_map] at h
  cases e : wv[i]? with
  | none => rw [e] at h; cases h
  | some l => rw [e] at h; exact ⟨l, rfl, (Option.some.inj h).symm⟩
theorem nI_len {wv : List Nat} : ((nI wv).map V.int).length = wv.length := by unfold nI; rw [List.length_map, List.length_map]
/-- the beginning of a weaving -/
def OkN (ls wv : List Nat) : Prop := ∀ i l, wv[i]? = some l → l < ls.length ∧ (wv.take i).count l < ls[l]?.getD 0
theorem FJ.enumM {a : Addr} {xs : List V} {g : TG} {tb : L2.TS} {D : Ends} {σ : L2.St} {H : Hp} (Pv : Nat → L2.St → Hp → Prop) (h0 : Pv 0 σ H) (hl : ∀ i σ H, i ≤ xs.length → Pv i σ H → SqL K H a xs)
    (hs : ∀ (i : Nat) (x : V) (T : Addr) (σ : L2.St) (H : Hp), xs[i]? = some x → Pv i σ H → H T = none → g (.ref T) σ (upd H T (.tup [.int (i : Nat), x])) fun σ2 H2 => tb { D with nx := Pv (i + 1), ct := Pv (i + 1), bk := D.nx } σ2 H2) (hd : ∀ σ H, Pv xs.length σ H → D.nx σ H) :
    FJ (Ite K a) g tb D σ H := for_it walk_enum Pv h0 hl (fun i v σ H H' hi p y => by
      obtain ⟨T, x, y', rfl, hT, rfl, e1, e2⟩ := y
      cases e1
      exact hs i y' T σ H e2 p hT) hd
abbrev s_Weave_check_beginning : Stmt := inClass (top 14) 12
abbrev sc_Weave_check_beginning_N : List Str := ["self", "beginning", "position", "lane"]
theorem sc_Weave_check_beginning : FnScope sc_Weave_check_beginning_N ["self", "beginning"] (defScope s_Weave_check_beginning) := ⟨rfl, rfl, rfl, by decide +kernel, rfl, by decide +kernel, by decide +kernel⟩
-- 0 self, 1 beginning, 2 position, 3 lane
abbrev s_Weave_check_weaving : Stmt := inClass (top 14) 11
abbrev sc_Weave_check_weaving_N : List Str := ["self", "weaving"]
theorem sc_Weave_check_weaving : FnScope sc_Weave_check_weaving_N ["self", "weaving"] (defScope s_Weave_check_weaving) := ⟨rfl, rfl, rfl, by decide +kernel, rfl, by decide +kernel, by decide +kernel⟩
-- 0 self, 1 weaving
theorem WvA.same {H H' : Hp} {a tu ln fd : Addr} {TT : List (List Trn)} (h : WvA Wv Tu H a tu ln fd TT) (s : Same H H') : WvA Wv Tu H' a tu ln fd TT := let ⟨dx, ts, h1, h2, h3, h4⟩ := h; ⟨dx, ts, s _ _ h1, s _ _ h2, h3.same s, s _ _ h4⟩
def sp_cbeg (Tu Wv : Addr) : Sp := fun vs H Q _ => ∃ (a tu ln fd t : Addr) (TT : List (List Trn)) (wv : List Nat), vs = [.ref a, .ref t] ∧ WvA Wv Tu H a tu ln fd TT ∧ LoT H t ((nI wv).map V.int) ∧ wv.length ≤ 8 ∧ TT.length ≤ 3 ∧ OkN (TT.map List.length) wv ∧ ∀ H', Same H H' → Q .non H'
theorem m_cbeg (T : WvT K mg Wv C TS) (D : MD K Wv "check_beginning" "Weave.check_beginning" s_Weave_check_beginning) : Mn P w K mg base CX0 1 Wv "check_beginning" (sp_cbeg Tu Wv) := by
  refine D.mn sc_Weave_check_beginning (fun _ _ _ _ _ _ us hl => match us, hl with | [_, _], _ => rfl) (fun vs H Q E h => ?_) (fun f cdv A outer s H vs Q E hr h => ?_)
  · obtain ⟨a, tu, ln, fd, t, TT, wv, rfl, _⟩ := h; rfl
  · obtain ⟨a, tu, ln, fd, t, TT, wv, rfl, ⟨dx, ts, h1, h2, h3, h4⟩, ht, hr8, hT3, hok, q⟩ := h
    have cut : ∀ i : Nat, cutV ((nI wv).map V.int) none (some ((i : Nat) : Int)) = (nI (wv.take i)).map V.int := fun i => by rw [UX.cut_to, ← List.map_take, nI_take]
    have aj : ∀ {l : Nat}, l < TT.length → (TT.map fun us => V.int (us.length : Nat))[l]? = some (V.int ((TT.map List.length)[l]?.getD 0 : Nat)) := fun hl => by
      rw [List.getElem?_map, List.getElem?_map, List.getElem?_eq_getElem hl]; rfl
    rcases ht with ht | ht
    · refine ⟨_, (pss_one (ps_for PassesOwn.never rfl (pi_enum (by rfl) T.n_enumerate (pa_cons (pv 1) pa_nil)) (pg_tup rfl (pgs_cons (pg_name (i := 2) sc_Weave_check_beginning.nd rfl (Or.inl rfl)) (pgs_cons (pg_name (i := 3) sc_Weave_check_beginning.nd rfl (Or.inl rfl)) pgs_nil))) (pss_cons (ps_if (pt_not (pt_chain op_leA op_ltA pe_int (pv 3) (pe_callB call_lenA (by rfl) T.n_len (by decide +kernel) (pa_cons (pe_fld (pv 0) (by rfl)) pa_nil)))) pss_never pss_nil)
      (pss_one (ps_if (pt_cmpR (op_eqA (hr.units)) (pe_bm PySem.F.plainAttrs_list PySem.F.slot_list_count PySem.F.type_list_count mt_lcount (pe_slice sl_list (pv 1) po_none (po_some (pv 2))) (pa_cons (pv 3) pa_nil)) (pe_ix ix_seq (pe_fld (pv 0) (by rfl)) (pv 3) (fun _ _ => rfl)) (nomark _)) pss_never pss_nil))))), ?_⟩
      walk_at "rd"
      simp only [iEnum]
      walk_at "rd"
      refine ⟨⟨_, .inl (.inl ht)⟩, FJ.enumM (xs := (nI wv).map V.int) (fun i σ' H' => ∃ (z2 z3 : Option V), σ' = [some (.ref a), some (.ref t), z2, z3] ∧ Same H H') ⟨_, _, rfl, fun _ _ e => e⟩ (fun i σ' H' _ inv => ?_) (fun i x TT' σ' H' hx inv hTT => ?_) fun σ' H' inv => ?_⟩
      · obtain ⟨z2, z3, _, sm⟩ := inv
        exact .inl (.inl (sm _ _ ht))
      · obtain ⟨z2, z3, rfl, sm⟩ := inv
        obtain ⟨l, hy, rfl⟩ := nI_at hx
        obtain ⟨hl, hc⟩ := hok i l hy
        have hil : i < wv.length := (List.getElem?_eq_some_iff.mp hy).1
        rw [List.length_map] at hl
        have s2 : Same H' (upd H' TT' (.tup [.int (i : Nat), .int (l : Nat)])) := UL.Same.new hTT
        have eT : upd H' TT' (.tup [.int (i : Nat), .int (l : Nat)]) TT' = _ := upd_same
        generalize upd H' TT' (.tup [.int (i : Nat), .int (l : Nat)]) = H2 at s2 eT ⊢
        have sm2 : Same H H2 := Same.tr sm s2
        walk_at "rd"
        refine ⟨_, .inl (.inl eT), rfl, _, _, rfl, _, _, rfl, rfl, _, rfl, ?_⟩
        rw [if_pos (by omega)]
        have h4' := sm2 _ _ h4
        refine ⟨Wv, dx, _, sm2 _ _ h1, T.cls, T.a_lengths, .ref ln, rfl, lenT (.inl (.inl h4')) ⟨_, rfl, _, rfl, ?_⟩⟩
        rw [if_neg (by rw [List.length_map]; simp; omega)]
        refine ⟨_, rfl, t, _, rfl, .inl (.inl (sm2 _ _ ht)), fun p hp => ?_⟩
        rw [cut]
        have s3 : Same H2 (upd H2 p (.lst ((nI (wv.take i)).map V.int))) := UL.Same.new hp
        have ep : upd H2 p (.lst ((nI (wv.take i)).map V.int)) p = _ := upd_same
        generalize upd H2 p (.lst ((nI (wv.take i)).map V.int)) = H3 at s3 ep ⊢
        have sm3 := Same.tr sm2 s3
        refine ⟨.inl ⟨rfl, _, .inl (.inl ep)⟩, p, nI (wv.take i), (l : Nat), rfl, rfl, .inl (.inl ep), Wv, dx, _, sm3 _ _ h1, T.cls, T.a_lengths, .ref ln, rfl, ixT (.inl (.inl (sm3 _ _ h4))) (atN (aj hl)) (eqII.mpr ⟨_, rfl, ?_⟩)⟩
        rw [if_neg (by rw [decide_eq_true_eq, nI_cnt]; omega)]
        exact ⟨⟨_, rfl⟩, sm3⟩
      · obtain ⟨z2, z3, rfl, sm⟩ := inv
        walk_at "rd"
        exact q H' sm
    · refine ⟨_, (pss_one (ps_for PassesOwn.never rfl (pi_enumT (by rfl) T.n_enumerate (pa_cons (pv 1) pa_nil)) (pg_tup rfl (pgs_cons (pg_name (i := 2) sc_Weave_check_beginning.nd rfl (Or.inl rfl)) (pgs_cons (pg_name (i := 3) sc_Weave_check_beginning.nd rfl (Or.inl rfl)) pgs_nil))) (pss_cons (ps_if (pt_not (pt_chain op_leA op_ltA pe_int (pv 3) (pe_callB call_lenA (by rfl) T.n_len (by decide +kernel) (pa_cons (pe_fld (pv 0) (by rfl)) pa_nil)))) pss_never pss_nil)
      (pss_one (ps_if (pt_cmpR (op_eqA (hr.units)) (pe_bmF PySem.F.slot_tuple_count PySem.F.type_tuple_count (mt_tcountK K rfl) (pe_slice sl_tupF (pv 1) po_none (po_some (pv 2))) (pa_cons (pv 3) pa_nil)) (pe_ix ix_seq (pe_fld (pv 0) (by rfl)) (pv 3) (fun _ _ => rfl)) (nomark _)) pss_never pss_nil))))), ?_⟩
      walk_at "rd"
      simp only [iEnumT]
      walk_at "rd"
      refine ⟨⟨_, .inl (.inl ht)⟩, FJ.enumT (xs := (nI wv).map V.int) (fun i σ' H' => ∃ (z2 z3 : Option V), σ' = [some (.ref a), some (.ref t), z2, z3] ∧ Same H H') ⟨_, _, rfl, fun _ _ e => e⟩ (fun i σ' H' _ inv => ?_) (fun i x TT' σ' H' hx inv hTT => ?_) fun σ' H' inv => ?_⟩
      · obtain ⟨z2, z3, _, sm⟩ := inv
        exact .inl (.inl (sm _ _ ht))
      · obtain ⟨z2, z3, rfl, sm⟩ := inv
        obtain ⟨l, hy, rfl⟩ := nI_at hx
        obtain ⟨hl, hc⟩ := hok i l hy
        have hil : i < wv.length := (List.getElem?_eq_some_iff.mp hy).1
        rw [List.length_map] at hl
        have s2 : Same H' (upd H' TT' (.tup [.int (i : Nat), .int (l : Nat)])) := UL.Same.new hTT
        have eT : upd H' TT' (.tup [.int (i : Nat), .int (l : Nat)]) TT' = _ := upd_same
        generalize upd H' TT' (.tup [.int (i : Nat), .int (l : Nat)]) = H2 at s2 eT ⊢
        have sm2 : Same H H2 := Same.tr sm s2
        walk_at "rd"
        refine ⟨_, .inl (.inl eT), rfl, _, _, rfl, _, _, rfl, rfl, _, rfl, ?_⟩
        rw [if_pos (by omega)]
        have h4' := sm2 _ _ h4
        refine ⟨Wv, dx, _, sm2 _ _ h1, T.cls, T.a_lengths, .ref ln, rfl, lenT (.inl (.inl h4')) ⟨_, rfl, _, rfl, ?_⟩⟩
        rw [if_neg (by rw [List.length_map]; simp; omega)]
        refine ⟨_, rfl, t, _, rfl, .inl (.inl (sm2 _ _ ht)), fun w => ?_, fun _ p o hp od os => ?_⟩
        · exfalso
          have w2 := w.2
          rw [HT.sIx_nat, nI_len] at w2
          omega
        · rw [cut]
          have s3 : Same H2 (upd H2 p (.frz o (.tup ((nI (wv.take i)).map V.int)))) := UL.Same.new hp
          have ep : upd H2 p (.frz o (.tup ((nI (wv.take i)).map V.int))) p = _ := upd_same
          generalize upd H2 p (.frz o (.tup ((nI (wv.take i)).map V.int))) = H3 at s3 ep ⊢
          have sm3 := Same.tr sm2 s3
          refine ⟨⟨p, rfl, o, ⟨_, ep⟩, od⟩, p, nI (wv.take i), (l : Nat), rfl, rfl, .inl (.inr ⟨o, ep⟩), Wv, dx, _, sm3 _ _ h1, T.cls, T.a_lengths, .ref ln, rfl, ixT (.inl (.inl (sm3 _ _ h4))) (atN (aj hl)) (eqII.mpr ⟨_, rfl, ?_⟩)⟩
          rw [if_neg (by rw [decide_eq_true_eq, nI_cnt]; omega)]
          exact ⟨⟨_, rfl⟩, sm3⟩
      · obtain ⟨z2, z3, rfl, sm⟩ := inv
        walk_at "rd"
        exact q H' sm
def sp_cwv (Tu Wv : Addr) : Sp := fun vs H Q _ => ∃ (a tu ln fd t : Addr) (TT : List (List Trn)) (wv : List Nat), vs = [.ref a, .ref t] ∧ WvA Wv Tu H a tu ln fd TT ∧ LoT H t ((nI wv).map V.int) ∧ wv.length = (TT.map List.length).sum ∧ wv.length ≤ 8 ∧ TT.length ≤ 3 ∧ OkN (TT.map List.length) wv ∧ ∀ H', Same H H' → Q .non H'
theorem LoT.len {H : Hp} {t : Addr} {xs : List V} {Q : VK} (h : LoT H t xs) (q : Q (.int xs.length) H) : cLen K [.ref t] H Q := h.elim (fun e => lenL (.inl (.inl e)) q) fun e => lenT (.inl (.inl e)) q
theorem m_cwv (T : WvT K mg Wv C TS) (D : MD K Wv "check_weaving" "Weave.check_weaving" s_Weave_check_weaving) (m_check_beginning : Mn P w K mg base CX0 1 Wv "check_beginning" (sp_cbeg Tu Wv)) : Mn P w K mg base CX0 2 Wv "check_weaving" (sp_cwv Tu Wv) := by
  refine D.mn sc_Weave_check_weaving (fun _ _ _ _ _ _ us hl => match us, hl with | [_, _], _ => rfl) (fun vs H Q E h => ?_) (fun f cdv A outer s H vs Q E hr h => ?_)
  · obtain ⟨a, tu, ln, fd, t, TT, wv, rfl, _⟩ := h; rfl
  · obtain ⟨a, tu, ln, fd, t, TT, wv, rfl, ⟨dx, ts, h1, h2, h3, h4⟩, ht, hl, hr8, hT3, hok, q⟩ := h
    refine ⟨_, (pss_cons (ps_expr (pe_m m_check_beginning T.cls hr (by decide) pass0 (pv 0) (pa_cons (pv 1) pa_nil)))
      (pss_one (ps_if (pt_cmpR op_ltA (pe_callB call_lenA (by rfl) T.n_len (by decide +kernel) (pa_cons (pv 1) pa_nil)) (pe_fld (pv 0) (by rfl)) (nomark _)) pss_never pss_nil))), ?_⟩
    walk_at "rd"
    refine ⟨dx, _, h1, rfl, a, tu, ln, fd, t, TT, wv, rfl, ⟨dx, ts, h1, h2, h3, h4⟩, ht, hr8, hT3, hok, fun H' sm => ?_⟩
    refine LoT.len (ht.same sm) ⟨Wv, dx, _, sm _ _ h1, T.cls, T.a_number, .int ((TT.map List.length).sum : Nat), rfl, _, rfl, _, rfl, ?_⟩
    rw [if_neg (by rw [nI_len, hl]; omega)]
    exact q H' sm
theorem pairedR {α β : Type} {F : α → β → Prop} : ∀ {xs : List α} {ys : List β} {i : Nat} {y : β}, Paired F xs ys → ys[i]? = some y → ∃ x, xs[i]? = some x ∧ F x y
  | _, _, _, _, .nil, h => nomatch h
  | _, _, 0, _, .cons f g, h => by cases h; exact ⟨_, rfl, f⟩
  | _, _, i + 1, _, .cons f g, h => pairedR (i := i) g h
end
end U
set_option Elab.async false
set_option linter.all false
set_option maxRecDepth 100000
/-! UZR: a for with yields in a generator -/
namespace PySem
open Sem (wp)
end PySem
namespace L2
open PySem PySem.Spec PyProof.Rows GenW
section
variable {X : Cx} {tg : Expr}
/-- what a for of a generator asks, behind the iterator -/
def GF (J : It) (g : TG) (tb : TGn) (D : GEnds) (ys : List V) (σ : St) (H : Hp) : Prop := ∃ W : Nat → Nat → List V → St → Hp → Prop, (∃ m, W 0 m ys σ H) ∧ ∀ i m ys σ H, W i m ys σ H →
  (J.stop i H ∧ D.nx ys σ H) ∨ (J.go i H ∧ ∃ N : List V → St → Hp → Prop, (∀ ys' σ' H', N ys' σ' H' → ∃ m', m' < m ∧ W (i + 1) m' ys' σ' H') ∧ ∀ x H', J.yld i H x H' → g x σ H' fun σ2 H2 => tb { D with nx := N, ct := N, bk := D.nx } ys σ2 H2)
theorem GF.list {K : PySem.W.Frag} {a : Addr} {xs : List V} {g : TG} {tb : TGn} {D : GEnds} {ys : List V} {σ : St} {H : Hp} (Pv : Nat → List V → St → Hp → Prop) (h0 : Pv 0 ys σ H) (hl : ∀ i ys σ H, i ≤ xs.length → Pv i ys σ H → SqL K H a xs)
    (hs : ∀ i x ys σ H, xs[i]? = some x → Pv i ys σ H → g x σ H fun σ2 H2 => tb { D with nx := Pv (i + 1), ct := Pv (i + 1), bk := D.nx } ys σ2 H2) (hd : ∀ ys σ H, Pv xs.length ys σ H → D.nx ys σ H) : GF (Itl K a) g tb D ys σ H := by
  refine ⟨fun i m ys σ H => m = xs.length - i ∧ i ≤ xs.length ∧ Pv i ys σ H, ⟨xs.length, by simp, Nat.zero_le _, h0⟩, ?_⟩
  rintro i m ys σ H ⟨rfl, hi, p⟩
  have q := hl i ys σ H hi p
  by_cases hlt : i < xs.length
  · refine .inr ⟨⟨xs, xs[i], q, by simp [hlt]⟩, Pv (i + 1), fun ys' σ' H' p' => ⟨xs.length - (i + 1), by omega, rfl, hlt, p'⟩, fun x H' y => ?_⟩
    obtain ⟨e, y⟩ := y
    subst e
    exact hs i x ys σ _ (y xs q) p
  · have e : i = xs.length := by omega
    subst e
    exact .inl ⟨⟨xs, q, Nat.le_refl _⟩, hd ys σ H p⟩
theorem GF.tup {K : PySem.W.Frag} {a : Addr} {xs : List V} {g : TG} {tb : TGn} {D : GEnds} {ys : List V} {σ : St} {H : Hp} (Pv : Nat → List V → St → Hp → Prop) (h0 : Pv 0 ys σ H) (hl : ∀ i ys σ H, i ≤ xs.length → Pv i ys σ H → SqT K H a xs)
    (hs : ∀ i x ys σ H, xs[i]? = some x → Pv i ys σ H → g x σ H fun σ2 H2 => tb { D with nx := Pv (i + 1), ct := Pv (i + 1), bk := D.nx } ys σ2 H2) (hd : ∀ ys σ H, Pv xs.length ys σ H → D.nx ys σ H) : GF (Itt K a) g tb D ys σ H := by
  refine ⟨fun i m ys σ H => m = xs.length - i ∧ i ≤ xs.length ∧ Pv i ys σ H, ⟨xs.length, by simp, Nat.zero_le _, h0⟩, ?_⟩
  rintro i m ys σ H ⟨rfl, hi, p⟩
  have q := hl i ys σ H hi p
  by_cases hlt : i < xs.length
  · refine .inr ⟨⟨xs, xs[i], q, by simp [hlt]⟩, Pv (i + 1), fun ys' σ' H' p' => ⟨xs.length - (i + 1), by omega, rfl, hlt, p'⟩, fun x H' y => ?_⟩
    obtain ⟨e, y⟩ := y
    subst e
    exact hs i x ys σ _ (y xs q) p
  · have e : i = xs.length := by omega
    subst e
    exact .inl ⟨⟨xs, q, Nat.le_refl _⟩, hd ys σ H p⟩
end
end L2
set_option Elab.async false
set_option linter.all false
set_option maxRecDepth 100000
set_option maxHeartbeats 4000000
/-! UZS: e.m() where e's value is of one of several classes -/
namespace UX
open PySem PySem.Spec PyProof.Rows L2 UL UV UW ClX
end UX
set_option Elab.async false
set_option linter.all false
set_option maxRecDepth 100000
set_option maxHeartbeats 4000000
/-! UZT: list(o.gen(args)) of a generator method without defaults -/
namespace UX
open PySem PySem.Spec PyProof.Rows L2 UL UV UW ClX
section
variable {t1 t2 t3 t4 t5 t6 tb : L2.TS} {D : Ends} {σ : L2.St} {H : Hp}
theorem seq_cut6 (M : L2.St → Hp → Prop) (h1 : ∀ tl : L2.St → Hp → Prop, (∀ σ H, M σ H → tl σ H) → tSeq t1 (tSeq t2 (tSeq t3 (tSeq t4 (tSeq t5 t6)))) { D with nx := tl } σ H) (h2 : ∀ σ H, M σ H → tb D σ H) : tSeq t1 (tSeq t2 (tSeq t3 (tSeq t4 (tSeq t5 (tSeq t6 tb))))) D σ H := h1 (tb D) h2
end
theorem pi_enumK {X : Cx} {e : Expr} {ta : TA} {p pos tpos : Pos} {elts : List Expr} {kk : Nat} (K : PySem.W.Frag) (h : X.K = K) (hg : Gl X "enumerate") (hm : X.mg "enumerate" = none) (ha : PA X [e] ta) (hs : starEach [e] X.env = [(false, eval e X.env)] := by rfl) :
    PI X (.Tuple elts kk tpos) (.Call (.Name "enumerate" p) [e] [] pos) (iEnum K ta) := h ▸ pi_enum hg hm ha hs
end UX
set_option Elab.async false
set_option linter.all false
set_option maxRecDepth 100000
set_option maxHeartbeats 4000000
set_option pp.deepTerms true
set_option pp.maxSteps 400000
namespace U
open PySem PySem.Spec PyProof.Rows L2 UL UX
local macro_rules | `(tactic| walk_at "rd") => `(tactic| simp only [sMatch, tJs, tFmt, tBC, tMethA, tMakeL, iEnumS, tSeq, tAsg, tOp, tCB, tCons, tNil, tVar, tC, tB, tTest, tNot, tIfS, tNext, tYes, tUn, rU, tM0, tGFrom, tGThen, tG0, tYfLst, gcxK, tSubO, tProp, tListG, tMethG, tBMF, tFld, sFld, tMeth, tMake, tSl, tNoPart, tPart, tM1, gTup, gCons, gNil, tDrop, tFor_eq, tLc_eq, tLc2_eq, iRng1_eq, StX.tStar, iList, iTup, iStr, iAny_var, iZipB, tLenSetS, wipe, tVar, tAndV, tOrV, tNotV, tOr, tAnd, tLst, tTup, tBM, tBM0, tChain, tCall, cxK, noxK, addII, addSS, mulII, eqII, neII, neSS, cIntI, cAbsI, rI, rI0, rLt, rLe, rGt_, rGe_, rSub_, rMod, rPow, rDivW, rNeg, gName, tRet, L2.start, List.length_cons, List.length_nil, List.map_cons, List.map_nil, List.replicate, List.cons_append, List.nil_append, List.getElem?_cons_zero, List.getElem?_cons_succ, List.set_cons_zero, List.set_cons_succ, Option.some.injEq, exists_eq_left', exists_eq_left, V.int.injEq, V.bl.injEq, V.str.injEq, V.ref.injEq, V.ty.injEq, List.cons.injEq, and_true, true_and, reduceCtorEq, false_and, exists_false, or_false, false_or, exists_and_left, exists_and_right, List.append_nil, forall_eq, decide_eq_true_eq, Bool.not_eq_true, Nat.reduceAdd, Nat.reduceSub, List.replicate_zero, List.replicate_succ, Nat.zero_le, ite_true, ite_false, if_true, if_false])
section
variable {P : Program} {w : World} {K : PySem.W.Frag} {mg : Str → Option Value} {base : Heap}
open UV UW NdefX ClX
variable {R Wr B Pg Sy IC UC IS UP IP C Tu Wv TSx Ss : Addr}
/-! the places that a weaving opens, a list or a tuple -/
/-- where a lane stands within the first m items -/
def atN' (wv : List Nat) (lane : Nat) (m : Nat) : List Nat := (List.range m).filter fun p => wv[p]? = some lane
theorem atN'_succ {wv : List Nat} {lane m x : Nat} (h : wv[m]? = some x) : atN' wv lane (m + 1) = atN' wv lane m ++ (if x = lane then [m] else []) := by
  unfold atN'
  rw [List.range_succ, List.filter_append]
  by_cases c : x = lane
  · rw [if_pos c]; simp [h, c]
  · rw [if_neg c]; simp [h, c]
theorem atN'_len {wv : List Nat} {lane : Nat} : ∀ m, m ≤ wv.length → (atN' wv lane m).length = (wv.take m).count lane
  | 0, _ => by simp [atN']
  | m + 1, h => by
    have ih := atN'_len (wv := wv) (lane := lane) m (by omega)
    have e := List.getElem?_eq_getElem (show m < wv.length by omega)
    rw [atN'_succ e, List.length_append, ih, List.take_add_one, e, List.count_append]
    by_cases c : wv[m] = lane
    · simp [c]
    · simp [c, List.count_cons]
abbrev atA (wv : List Nat) (lane : Nat) : List Nat := atN' wv lane wv.length
def opnN (wv : List Nat) (p : Nat × Nat) : Bool := decide ((atA wv p.1)[p.2 - 1]?.getD 0 + 1 < (atA wv p.1)[p.2]?.getD 0)
theorem atA_len {wv : List Nat} {lane : Nat} : (atA wv lane).length = wv.count lane := by
  have := atN'_len (wv := wv) (lane := lane) wv.length (Nat.le_refl _)
  rwa [List.take_length] at this
abbrev s_is_opened : Stmt := top 16
abbrev sc_is_opened_N : List Str := ["weaving", "place", "lane", "k", "at", ".0", "position", "item"]
theorem sc_is_opened : FnScope sc_is_opened_N ["weaving", "place"] (defScope s_is_opened) := ⟨rfl, rfl, rfl, by decide +kernel, rfl, by decide +kernel, by decide +kernel⟩
-- 0 weaving, 1 place, 2 lane, 3 k, 4 at, 5 .0, 6 position, 7 item
def sp_isopN : Sp := fun vs H Q _ => ∃ (t pl : Addr) (wv : List Nat) (lane k : Nat), vs = [.ref t, .ref pl] ∧ LoT H t ((nI wv).map V.int) ∧ wv.length ≤ 8 ∧ H pl = some (.tup [.int (lane : Nat), .int (k : Nat)]) ∧ 1 ≤ k ∧ k < wv.count lane ∧ ∀ H', Same H H' → Q (.bl (opnN wv (lane, k))) H'
theorem d_isopN (T : WvT K mg Wv C TSx) (D : TD K mg "is_opened" s_is_opened) : Dn P w K mg base CX0 1 "is_opened" sp_isopN := by
  refine D.dn sc_is_opened (fun _ _ _ _ _ _ us hl => match us, hl with | [_, _], _ => rfl) (fun vs H Q E h => ?_) (fun f cdv A outer s H vs Q E hr h => ?_)
  · obtain ⟨t, pl, wv, lane, k, rfl, _⟩ := h; rfl
  · obtain ⟨t, pl, wv, lane, k, rfl, ht, hr8, hpl, hk1, hk, q⟩ := h
    have nl : ((nI wv).map V.int).length = wv.length := nI_len
    have fin : ∀ {H2 : Hp} {D : Addr}, Same H H2 → H2 D = some (.lst ((atA wv lane).map fun (n : Nat) => V.int n)) → ∀ R : VK, (∀ H', H' = H2 → R (.bl (opnN wv (lane, k))) H') → rIx K (V.ref D) (V.int k) H2 fun x H1 => rIx K (V.ref D) (V.int (((k : Nat) : Int) - 1)) H1 fun y H3 => rAddA K y (V.int 1) H3 fun y H4 => ∃ i, x = V.int i ∧ ∃ j, y = V.int j ∧ R (.bl (decide (j < i))) H4 := fun {H2 D} sm eD R hR => by
      have la := atA_len (wv := wv) (lane := lane)
      have k1 : k < (atA wv lane).length := by omega
      have k0 : k - 1 < (atA wv lane).length := by omega
      have b1 : ((atA wv lane).map fun (n : Nat) => V.int n)[k]? = some (V.int ((atA wv lane)[k] : Nat)) := by rw [List.getElem?_map, List.getElem?_eq_getElem k1]; rfl
      have b0 : ((atA wv lane).map fun (n : Nat) => V.int n)[k - 1]? = some (V.int ((atA wv lane)[k - 1] : Nat)) := by rw [List.getElem?_map, List.getElem?_eq_getElem k0]; rfl
      have i1 : (k : Int) - 1 = ((k - 1 : Nat) : Int) := by omega
      rw [i1]
      refine ixL (.inl (.inl eD)) (atN b1) (ixL (.inl (.inl eD)) (atN b0) (addII.mpr ⟨_, rfl, _, rfl, ?_⟩))
      have eo : opnN wv (lane, k) = decide ((((atA wv lane)[k - 1] : Nat) : Int) + 1 < (((atA wv lane)[k] : Nat) : Int)) := by
        unfold opnN
        rw [List.getElem?_eq_getElem k1, List.getElem?_eq_getElem k0]
        exact decide_eq_decide.mpr (by simp only [Option.getD_some]; omega)
      rw [← eo]
      exact hR _ rfl
    have step : ∀ {i : Nat} {v2 : V} {H2 H4 : Hp} {T1 D : Addr}, ((nI wv).map V.int)[i]? = some v2 → H D = none → H2 D = some (.lst ((atN' wv lane i).map fun (n : Nat) => V.int n)) → Same H H2 → Same H2 H4 → H4 T1 = some (.tup [.int (i : Nat), v2]) →
        rEqA K v2 (V.int lane) H4 fun x H' => ∃ k, x = V.bl k ∧ if k = true then ∃ acc, H' D = some (HO.lst acc) ∧ acc.length < sizeLine ∧ upd H' D (.lst (acc ++ [V.int (i : Nat)])) D = some (.lst ((atN' wv lane (i + 1)).map fun (n : Nat) => V.int n)) ∧ Same H (upd H' D (.lst (acc ++ [V.int (i : Nat)]))) else H' D = some (.lst ((atN' wv lane (i + 1)).map fun (n : Nat) => V.int n)) ∧ Same H H' := fun {i v2 H2 H4 T1 D} e2 hD eD sm s2 eT => by
      obtain ⟨y, hy, rfl⟩ := nI_at e2
      have ea := atN'_succ (lane := lane) hy
      have il := (List.getElem?_eq_some_iff.mp hy).1
      have lx := atN'_len (wv := wv) (lane := lane) i (by omega)
      have lc := Nat.le_trans (List.count_le_length (a := lane) (l := wv.take i)) (by rw [List.length_take]; exact Nat.min_le_right _ _)
      have eD4 := s2 _ _ eD
      refine eqII.mpr ⟨_, rfl, ?_⟩
      by_cases c : y = lane
      · rw [if_pos (by simp [c])]
        rw [if_pos c] at ea
        exact ⟨_, eD4, by rw [List.length_map, sizeLine_eq]; omega, by rw [upd_same, ea, List.map_append]; rfl, UL.Same.put (Same.tr sm s2) hD⟩
      · rw [if_neg (by simp; omega)]
        rw [if_neg c, List.append_nil] at ea
        rw [ea]
        exact ⟨eD4, Same.tr sm s2⟩
    rcases ht with ht | ht
    · refine ⟨_, (pss_cons (ps_asg (pv 1) (pg_tup rfl (pgs_cons (pg_name (i := 2) sc_is_opened.nd rfl (Or.inr rfl)) (pgs_cons (pg_name (i := 3) sc_is_opened.nd rfl (Or.inl rfl)) pgs_nil))))
      (pss_cons (ps_setLc (i := 4) (own := [(".0", 5), ("position", 6), ("item", 7)]) (g := (gTup K 2 (gCons (gName 6) (gCons (gName 7) gNil)))) (tt := _) rfl sc_is_opened.nd rfl rfl (sw_true rfl rfl rfl (by decide +kernel)) (pi_enumK K rfl (by rfl) T.n_enumerate (pa_cons (pv 0) pa_nil)) (blkOk_by (N := sc_is_opened_N) (sc := defScope s_is_opened) (by decide +kernel)) (fun _ _ _ _ _ => pg_tupK K 2 rfl rfl (pgs_cons (pg_name (i := 6) sc_is_opened.nd rfl (Or.inl rfl)) (pgs_cons (pg_name (i := 7) sc_is_opened.nd rfl (Or.inl rfl)) pgs_nil))) (fun _ _ _ _ _ => pts_one (pt_cmpR (op_eqK K rfl (hr.units)) (pv 7) (pv 2) (nomark _))) (fun _ _ _ _ _ => (pv 6)))
      (pss_one (ps_ret (pe_cmpR op_gtA (pe_ix ix_seq (pv 4) (pv 3) (fun _ _ => rfl)) (pe_op op_addA (pe_ix ix_seq (pv 4) (pe_op op_subA (pv 3) pe_int) (fun _ _ => rfl)) pe_int) (nomark _)))))), ?_⟩
      walk_at "rd"
      refine ⟨_, .inl (.inl hpl), rfl, _, _, rfl, _, _, rfl, rfl, ?_⟩
      simp only [iEnum]
      walk_at "rd"
      refine ⟨⟨_, .inl (.inl ht)⟩, fun D hD => LJ.it (walk_enum (xs := (nI wv).map V.int)) (fun i H2 => H2 D = some (.lst ((atN' wv lane i).map fun (n : Nat) => V.int n)) ∧ Same H H2) ⟨upd_same, UL.Same.new hD⟩ (fun i H2 _ inv => .inl (.inl (inv.2 _ _ ht))) (fun i x H2 H3 hi inv yy => ?_) fun H2 inv => ?_⟩
      · obtain ⟨eD, sm⟩ := inv
        obtain ⟨T1, v1, v2, rfl, hT1, rfl, e1', e2'⟩ := yy
        cases e1'
        have e2' : ((nI wv).map V.int)[i]? = some v2 := e2'
        have s2 : Same H2 (upd H2 T1 (.tup [.int (i : Nat), v2])) := UL.Same.new hT1
        have eT : upd H2 T1 (.tup [.int (i : Nat), v2]) T1 = _ := upd_same
        generalize upd H2 T1 (.tup [.int (i : Nat), v2]) = H4 at s2 eT ⊢
        walk_at "rd"
        exact ⟨_, .inl (.inl eT), rfl, _, _, rfl, _, _, rfl, rfl, step e2' hD eD sm s2 eT⟩
      · obtain ⟨eD, sm⟩ := inv
        rw [nl] at eD
        exact fin sm eD _ fun H' e => by rw [e]; exact q H2 sm
    · refine ⟨_, (pss_cons (ps_asg (pv 1) (pg_tup rfl (pgs_cons (pg_name (i := 2) sc_is_opened.nd rfl (Or.inr rfl)) (pgs_cons (pg_name (i := 3) sc_is_opened.nd rfl (Or.inl rfl)) pgs_nil))))
      (pss_cons (ps_setLc (i := 4) (own := [(".0", 5), ("position", 6), ("item", 7)]) (g := (gTup K 2 (gCons (gName 6) (gCons (gName 7) gNil)))) (tt := _) rfl sc_is_opened.nd rfl rfl (sw_true rfl rfl rfl (by decide +kernel)) (pi_enumTK K rfl (by rfl) T.n_enumerate (pa_cons (pv 0) pa_nil)) (blkOk_by (N := sc_is_opened_N) (sc := defScope s_is_opened) (by decide +kernel)) (fun _ _ _ _ _ => pg_tupK K 2 rfl rfl (pgs_cons (pg_name (i := 6) sc_is_opened.nd rfl (Or.inl rfl)) (pgs_cons (pg_name (i := 7) sc_is_opened.nd rfl (Or.inl rfl)) pgs_nil))) (fun _ _ _ _ _ => pts_one (pt_cmpR (op_eqK K rfl (hr.units)) (pv 7) (pv 2) (nomark _))) (fun _ _ _ _ _ => (pv 6)))
      (pss_one (ps_ret (pe_cmpR op_gtA (pe_ix ix_seq (pv 4) (pv 3) (fun _ _ => rfl)) (pe_op op_addA (pe_ix ix_seq (pv 4) (pe_op op_subA (pv 3) pe_int) (fun _ _ => rfl)) pe_int) (nomark _)))))), ?_⟩
      walk_at "rd"
      refine ⟨_, .inl (.inl hpl), rfl, _, _, rfl, _, _, rfl, rfl, ?_⟩
      simp only [iEnumT]
      walk_at "rd"
      refine ⟨⟨_, .inl (.inl ht)⟩, fun D hD => LJ.it (walk_enumT (xs := (nI wv).map V.int)) (fun i H2 => H2 D = some (.lst ((atN' wv lane i).map fun (n : Nat) => V.int n)) ∧ Same H H2) ⟨upd_same, UL.Same.new hD⟩ (fun i H2 _ inv => .inl (.inl (inv.2 _ _ ht))) (fun i x H2 H3 hi inv yy => ?_) fun H2 inv => ?_⟩
      · obtain ⟨eD, sm⟩ := inv
        obtain ⟨T1, v1, v2, rfl, hT1, rfl, e1', e2'⟩ := yy
        cases e1'
        have e2' : ((nI wv).map V.int)[i]? = some v2 := e2'
        have s2 : Same H2 (upd H2 T1 (.tup [.int (i : Nat), v2])) := UL.Same.new hT1
        have eT : upd H2 T1 (.tup [.int (i : Nat), v2]) T1 = _ := upd_same
        generalize upd H2 T1 (.tup [.int (i : Nat), v2]) = H4 at s2 eT ⊢
        walk_at "rd"
        exact ⟨_, .inl (.inl eT), rfl, _, _, rfl, _, _, rfl, rfl, step e2' hD eD sm s2 eT⟩
      · obtain ⟨eD, sm⟩ := inv
        rw [nl] at eD
        exact fin sm eD _ fun H' e => by rw [e]; exact q H2 sm
/-! sums over lanes -/
theorem yInd {x0 : Nat} : ∀ n, ((List.range n).map fun l => if l = x0 then 1 else 0).sum = if x0 < n then 1 else 0
  | 0 => by simp
  | n + 1 => by
    rw [List.range_succ, List.map_append, List.sum_append, yInd n]
    simp only [List.map_cons, List.map_nil, List.sum_cons, List.sum_nil]
    by_cases c : n = x0
    · subst c; simp
    · rw [if_neg c]
      by_cases c2 : x0 < n
      · rw [if_pos c2, if_pos (by omega)]; omega
      · rw [if_neg c2, if_neg (by omega)]; omega
theorem yAdd {f g : Nat → Nat} : ∀ n, ((List.range n).map fun l => f l + g l).sum = ((List.range n).map f).sum + ((List.range n).map g).sum
  | 0 => by simp
  | n + 1 => by
    have := yAdd (f := f) (g := g) n
    rw [List.range_succ, List.map_append, List.sum_append, List.map_append, List.sum_append, List.map_append, List.sum_append, this]
    simp only [List.map_cons, List.map_nil, List.sum_cons, List.sum_nil]
    omega
theorem yCnt {n : Nat} : ∀ {r : List Nat}, (∀ x ∈ r, x < n) → ((List.range n).map fun l => r.count l).sum = r.length
  | [], _ => by
    have e : ((List.range n).map fun l => ([] : List Nat).count l) = List.replicate n 0 := by
      apply List.ext_getElem <;> simp
    rw [e]; simp
  | x0 :: r, h => by
    have hx := h x0 List.mem_cons_self
    have ih := yCnt (r := r) fun y hy => h y (List.mem_cons_of_mem _ hy)
    have e : (fun l : Nat => (x0 :: r).count l) = fun l => r.count l + if l = x0 then 1 else 0 := by
      funext l
      rw [List.count_cons]
      by_cases c : l = x0
      · subst c; simp
      · rw [if_neg c, if_neg (by simp; omega)]
    rw [e, yAdd, ih, yInd, if_pos hx, List.length_cons]
theorem yLe {f g : Nat → Nat} : ∀ n, (∀ l, l < n → f l ≤ g l) → ((List.range n).map f).sum ≤ ((List.range n).map g).sum
  | 0, _ => by simp
  | n + 1, h => by
    have := yLe (f := f) (g := g) n fun l hl => h l (by omega)
    have := h n (by omega)
    rw [List.range_succ, List.map_append, List.sum_append, List.map_append, List.sum_append]
    simp only [List.map_cons, List.map_nil, List.sum_cons, List.sum_nil]
    omega
theorem yEq {f g : Nat → Nat} : ∀ n, (∀ l, l < n → f l ≤ g l) → ((List.range n).map f).sum = ((List.range n).map g).sum → ∀ l, l < n → f l = g l
  | 0, _, _, l, hl => by omega
  | n + 1, h, e, l, hl => by
    have a := yLe (f := f) (g := g) n fun l hl => h l (by omega)
    have b := h n (by omega)
    rw [List.range_succ, List.map_append, List.sum_append, List.map_append, List.sum_append] at e
    simp only [List.map_cons, List.map_nil, List.sum_cons, List.sum_nil] at e
    by_cases c : l = n
    · subst c; omega
    · exact yEq n (fun l hl => h l (by omega)) (by omega) l (by omega)
theorem yGet {ls : List Nat} : ((List.range ls.length).map fun l => ls[l]?.getD 0).sum = ls.sum := by
  congr 1
  apply List.ext_getElem
  · simp
  · intro i h1 h2
    simp
    rw [List.getElem?_eq_getElem h2]; rfl
theorem okN_le {ls wv : List Nat} (h : OkN ls wv) : ∀ n, n ≤ wv.length → ∀ l, l < ls.length → (wv.take n).count l ≤ ls[l]?.getD 0
  | 0, _, l, _ => by simp
  | n + 1, hn, l, hl => by
    have ih := okN_le h n (by omega) l hl
    have e := List.getElem?_eq_getElem (show n < wv.length by omega)
    obtain ⟨_, hc⟩ := h n _ e
    rw [List.take_add_one, e, List.count_append]
    by_cases c : wv[n] = l
    · rw [c] at hc; simp [c]; omega
    · simp [List.count_cons, c]; exact ih
theorem okN_full {ls wv : List Nat} (h : OkN ls wv) (hl : wv.length = ls.sum) : ∀ l, l < ls.length → wv.count l = ls[l]?.getD 0 := by
  refine yEq ls.length (fun l hl => ?_) ?_
  · have := okN_le h wv.length (Nat.le_refl _) l hl
    rwa [List.take_length] at this
  · rw [yGet, ← hl]
    exact yCnt fun x hx => by
      obtain ⟨i, hi⟩ := List.getElem?_of_mem hx
      exact (h i x hi).1
theorem plcs_in {TT : List (List Trn)} {p : Nat × Nat} (h : p ∈ plcs TT TT.length) : ∃ us, TT[p.1]? = some us ∧ 1 ≤ p.2 ∧ p.2 < us.length := by
  unfold plcs at h
  obtain ⟨l, hl, h⟩ := List.mem_flatMap.mp h
  cases e : TT[l]? with
  | none => rw [e] at h; cases h
  | some us =>
    rw [e] at h
    unfold plcOf at h
    obtain ⟨j, hj, h⟩ := List.mem_filterMap.mp h
    have hj := List.mem_range.mp hj
    cases e1 : us[j]? with
    | none => rw [e1] at h; cases h
    | some x =>
      cases e2 : us[j + 1]? with
      | none => rw [e1, e2] at h; cases h
      | some y =>
        rw [e1, e2] at h
        dsimp only at h
        split at h
        · cases h; exact ⟨us, e, by show 1 ≤ j + 1; omega, by show j + 1 < _; omega⟩
        · cases h
theorem yMem {x : Nat} : ∀ {l : List Nat}, x ∈ l → x ≤ l.sum
  | y :: l, h => by
    rw [List.sum_cons]
    rcases List.mem_cons.mp h with rfl | h
    · omega
    · have := yMem h; omega
abbrev s_Weave_opened : Stmt := inClass (top 14) 7
abbrev sc_Weave_opened_N : List Str := ["self", "weaving", ".0", "place"]
theorem sc_Weave_opened : FnScope sc_Weave_opened_N ["self", "weaving"] (defScope s_Weave_opened) := ⟨rfl, rfl, rfl, by decide +kernel, rfl, by decide +kernel, by decide +kernel⟩
-- 0 self, 1 weaving, 2 .0, 3 place
def sp_openedN (Tu Wv : Addr) : Sp := fun vs H Q _ => ∃ (a tu ln fd t : Addr) (TT : List (List Trn)) (wv : List Nat), vs = [.ref a, .ref t] ∧ WvA Wv Tu H a tu ln fd TT ∧ LoT H t ((nI wv).map V.int) ∧ wv.length = (TT.map List.length).sum ∧ wv.length ≤ 8 ∧ TT.length ≤ 3 ∧ OkN (TT.map List.length) wv ∧
  ∀ l ts H', H l = none → H' l = some (.lst (ts.map V.ref)) → PlcH H' ts ((plcs TT TT.length).filter (opnN wv)) → Same H H' → Q (.ref l) H'
theorem m_openedN (T : WvT K mg Wv C TSx) (D : MD K Wv "opened" "Weave.opened" s_Weave_opened) (m_check_weaving : Mn P w K mg base CX0 2 Wv "check_weaving" (sp_cwv Tu Wv)) (m_places : Mn P w K mg base CX0 1 Wv "places" (sp_places Tu Wv)) (d_is_opened : Dn P w K mg base CX0 1 "is_opened" sp_isopN) : Mn P w K mg base CX0 3 Wv "opened" (sp_openedN Tu Wv) := by
  refine D.mn sc_Weave_opened (fun _ _ _ _ _ _ us hl => match us, hl with | [_, _], _ => rfl) (fun vs H Q E h => ?_) (fun f cdv A outer s H vs Q E hr h => ?_)
  · obtain ⟨a, tu, ln, fd, t, TT, wv, rfl, _⟩ := h; rfl
  · obtain ⟨a, tu, ln, fd, t, TT, wv, rfl, hw, ht, hl, hr8, hT3, hok, q⟩ := h
    refine ⟨_, (pss_cons (ps_expr (pe_m m_check_weaving T.cls hr (by decide) pass0 (pv 0) (pa_cons (pv 1) pa_nil)))
      (pss_one (ps_ret (pe_lc (own := [(".0", 2), ("place", 3)]) (g := (gName 3)) (tt := _) rfl sc_Weave_opened.nd (pi_list (pe_m' m_places T.cls hr (by decide) pass0 (pv 0))) (blkOk_by (N := sc_Weave_opened_N) (sc := defScope s_Weave_opened) (by decide +kernel)) (fun _ _ _ _ _ => pg_name (i := 3) sc_Weave_opened.nd rfl (Or.inl rfl)) (fun _ _ _ _ _ => pts_one (pt_val (pe_d d_is_opened hr (by decide) pass0 (by rfl) (pa_cons (pv 1) (pa_cons (pv 3) pa_nil))))) (fun _ _ _ _ _ => (pv 3)))))), ?_⟩
    walk_at "rd"
    have hU : ∀ us ∈ TT, us.length ≤ 100 := fun us hus => by
      have := yMem (List.mem_map_of_mem (f := List.length) hus)
      omega
    obtain ⟨dx, ts0, h1, _⟩ := id hw
    refine ⟨dx, _, h1, rfl, a, tu, ln, fd, t, TT, wv, rfl, hw, ht, hl, hr8, hT3, hok, fun H1 s1 => ?_⟩
    have hw1 := hw.same s1
    refine ⟨dx, _, s1 _ _ h1, rfl, a, tu, ln, fd, TT, rfl, hw1, hT3, hU, fun l ts H2 l0 el hts s2 => ?_⟩
    refine ⟨l, rfl, ⟨_, .inl (.inl el)⟩, fun D hD => LJ.it (walk_list (xs := ts.map V.ref)) (fun i H3 => ∃ us : List Addr, H3 D = some (.lst (us.map V.ref)) ∧ PlcH H3 us (((plcs TT TT.length).take i).filter (opnN wv)) ∧ us.length ≤ i ∧ Same H2 H3) ⟨[], upd_same, .nil, Nat.le_refl _, UL.Same.new hD⟩ (fun i H3 _ inv => ?_) (fun i x H3 H4 hi inv yy => ?_) fun H3 inv => ?_⟩
    · obtain ⟨_, _, _, _, s⟩ := inv
      exact .inl (.inl (s _ _ el))
    · obtain ⟨rfl, hx⟩ := yy
      obtain ⟨us, eD, hus, ul, s3⟩ := inv
      obtain ⟨t1, ht1, rfl⟩ := ratW hx
      obtain ⟨p0, hp0, et⟩ := patW hts ht1
      obtain ⟨us0, e1, k1, k2⟩ := plcs_in (List.mem_of_getElem? hp0)
      refine ⟨rfl, ?_⟩
      walk_at "rd"
      have cnt := okN_full hok hl p0.1 (by rw [List.length_map]; exact (List.getElem?_eq_some_iff.mp e1).1)
      have ec : (TT.map List.length)[p0.1]?.getD 0 = us0.length := by rw [List.getElem?_map, e1]; rfl
      refine ⟨t, t1, wv, p0.1, p0.2, rfl, ht.same (Same.tr s1 (Same.tr s2 s3)), hr8, s3 _ _ et, k1, by omega, fun H5 s5 => ⟨_, rfl, ?_⟩⟩
      have s35 := Same.tr s3 s5
      have etk : ((plcs TT TT.length).take (i + 1)).filter (opnN wv) = ((plcs TT TT.length).take i).filter (opnN wv) ++ if opnN wv p0 = true then [p0] else [] := by
        rw [List.take_add_one, hp0, List.filter_append]
        congr 1
        by_cases c : opnN wv p0 = true <;> simp [c]
      have eD5 := s5 _ _ eD
      show if opnN wv p0 = true then _ else _
      by_cases c : opnN wv p0 = true
      · rw [if_pos c]
        rw [if_pos c] at etk
        refine ⟨_, eD5, by rw [List.length_map, sizeLine_eq]; have := List.length_map (as := ts) V.ref; have pl := plcs_len hU TT.length; have lt := plenW hts; omega, us ++ [t1], by rw [upd_same, List.map_append]; rfl, ?_, by rw [List.length_append]; exact Nat.succ_le_succ ul, UL.Same.put s35 hD⟩
        rw [etk]
        exact pappW ((hus.same s5).put eD5) (PlcH.put (.cons (s35 _ _ et) .nil) eD5)
      · rw [if_neg c]
        rw [if_neg c, List.append_nil] at etk
        rw [etk]
        exact ⟨us, eD5, hus.same s5, by omega, s35⟩
    · obtain ⟨us, eD, hus, ul, s3⟩ := inv
      have lt := plenW hts
      rw [List.length_map, lt, List.take_length] at hus
      have s13 := Same.tr s1 (Same.tr s2 s3)
      exact q D us H3 (Same.free (Same.tr s1 s2) hD) eD hus s13
end
end U
set_option Elab.async false
set_option linter.all false
set_option maxRecDepth 100000
set_option maxHeartbeats 4000000
set_option pp.deepTerms true
set_option pp.maxSteps 400000
namespace U
open PySem PySem.Spec PyProof.Rows L2 UL UX
local macro_rules | `(tactic| walk_at "rd") => `(tactic| simp only [sMatch, tJs, tFmt, tBC, tMethA, tMakeL, iEnumS, tSeq, tAsg, tOp, tCB, tCons, tNil, tVar, tC, tB, tTest, tNot, tIfS, tNext, tYes, tUn, rU, tM0, tGFrom, tGThen, tG0, tYfLst, gcxK, tSubO, tProp, tListG, tMethG, tBMF, tFld, sFld, tMeth, tMake, tSl, tNoPart, tPart, tM1, gTup, gCons, gNil, tDrop, tFor_eq, tLc_eq, tLc2_eq, iRng1_eq, StX.tStar, iList, iTup, iStr, iAny_var, iZipB, tLenSetS, wipe, tVar, tAndV, tOrV, tNotV, tOr, tAnd, tLst, tTup, tBM, tBM0, tChain, tCall, cxK, noxK, addII, addSS, mulII, eqII, neII, neSS, cIntI, cAbsI, rI, rI0, rLt, rLe, rGt_, rGe_, rSub_, rMod, rPow, rDivW, rNeg, gName, tRet, L2.start, List.length_cons, List.length_nil, List.map_cons, List.map_nil, List.replicate, List.cons_append, List.nil_append, List.getElem?_cons_zero, List.getElem?_cons_succ, List.set_cons_zero, List.set_cons_succ, Option.some.injEq, exists_eq_left', exists_eq_left, V.int.injEq, V.bl.injEq, V.str.injEq, V.ref.injEq, V.ty.injEq, List.cons.injEq, and_true, true_and, reduceCtorEq, false_and, exists_false, or_false, false_or, exists_and_left, exists_and_right, List.append_nil, forall_eq, decide_eq_true_eq, Bool.not_eq_true, Nat.reduceAdd, Nat.reduceSub, List.replicate_zero, List.replicate_succ, Nat.zero_le, ite_true, ite_false, if_true, if_false])
section
variable {P : Program} {w : World} {K : PySem.W.Frag} {mg : Str → Option Value} {base : Heap}
open UV UW NdefX ClX
variable {R Wr B Pg Sy IC UC IS UP IP C Tu Wv TSx Ss : Addr}
/-! the class SerialScheduler -/
abbrev s_SerialScheduler___init__ : Stmt := inClass (top 44) 0
abbrev sc_SerialScheduler___init___N : List Str := ["self", "system", "plan"]
theorem sc_SerialScheduler___init__ : FnScope sc_SerialScheduler___init___N ["self", "system", "plan"] (defScope s_SerialScheduler___init__) := ⟨rfl, rfl, rfl, by decide +kernel, rfl, by decide +kernel, by decide +kernel⟩
-- 0 self, 1 system, 2 plan
abbrev s_SerialScheduler_lets : Stmt := inClass (top 44) 1
abbrev sc_SerialScheduler_lets_N : List Str := ["self", "weaving"]
theorem sc_SerialScheduler_lets : FnScope sc_SerialScheduler_lets_N ["self", "weaving"] (defScope s_SerialScheduler_lets) := ⟨rfl, rfl, rfl, by decide +kernel, rfl, by decide +kernel, by decide +kernel⟩
-- 0 self, 1 weaving
structure SsT (K : PySem.W.Frag) (mg : Str → Option Value) (Ss : Addr) : Prop extends Nm mg where
  cls : Cls K Ss
  a_weave : NoAttr K Ss "weave"
  a_decided : NoAttr K Ss "_decided"
def fsSs (x d : Addr) : List (Str × V) := [("weave", .ref x), ("_decided", .ref d)]
def sp_ssinit (Pg Sy Tu Wv C Ss : Addr) : Sp := fun vs H Q _ => ∃ (x y pl dx pd ad : Addr) (cs : List Str) (ps : List (Str × Addr)) (as : List (Str × Nat)) (fS : Str → List Addr) (zs : Ln), vs = [.ref x, .ref y, .ref pl] ∧ H x = some (.ins Ss dx []) ∧ Yo H Sy y cs pd ad ps as ∧ PlO C H pl zs ∧ zs.length ≤ 3 ∧ (∀ l ∈ zs, l.2.length ≤ 4 ∧ ∀ n ∈ l.2, n.length ≤ 1000 ∧ StpH Pg H ps fS n) ∧
  ((plTr fS (zs.map (·.2))).map List.length).sum ≤ 8 ∧ ∀ H' w d tu ln fd, H w = none → (H fd = none ∧ WvNew H H' tu) → H' fd = some (.dT []) → WvA Wv Tu H' w tu ln fd (plTr fS (zs.map (·.2))) → H' x = some (.ins Ss dx (fsSs w d)) → H d = none → H' d = some (.dT []) → But x H H' → Q .non H'
theorem m_ssinit (T : SsT K mg Ss) (D : MD K Ss "__init__" "SerialScheduler.__init__" s_SerialScheduler___init__) (k_Weave : Kn P w K mg base (L2.CX P w) 7 Wv "Weave" (sp_wvinit Pg Sy Tu Wv C TSx)) : Mn P w K mg base CX0 9 Ss "__init__" (sp_ssinit Pg Sy Tu Wv C Ss) := by
  refine D.mn sc_SerialScheduler___init__ (fun _ _ _ _ _ _ us hl => match us, hl with | [_, _, _], _ => rfl) (fun vs H Q E h => ?_) (fun f cdv A outer s H vs Q E hr h => ?_)
  · obtain ⟨x, y, pl, dx, pd, ad, cs, ps, as, fS, zs, rfl, _⟩ := h; rfl
  · obtain ⟨x, y, pl, dx, pd, ad, cs, ps, as, fS, zs, rfl, hx, hy, hpl, hz3, hzs, hs8, q⟩ := h
    refine ⟨_, (pss_cons (ps_fld (pv 0) (pe_k k_Weave hr (by decide) passL (by rfl) (pa_cons (pv 1) (pa_cons (pv 2) pa_nil))) rfl)
      (pss_one (ps_fld (pv 0) pe_dnewT rfl))), ?_⟩
    walk_at "rd"
    intro W dw hW hdw nW
    have s1 : Same H (upd (upd H dw (.own W)) W (.ins Wv dw [])) := Same.tr (UL.Same.new hdw) (UL.Same.new (by rw [upd_ne (Ne.symm nW)]; exact hW))
    have eW : upd (upd H dw (.own W)) W (.ins Wv dw []) W = some (.ins Wv dw []) := upd_same
    have hsp : ∀ n, StpH Pg H ps fS n → StpH Pg (upd (upd H dw (.own W)) W (.ins Wv dw [])) ps fS n := fun n ⟨a, dx, p, h1, h2, h3, h4⟩ => ⟨a, dx, p, h1, s1 _ _ h2, ftSame h3 s1, h4⟩
    generalize upd (upd H dw (.own W)) W (.ins Wv dw []) = H1 at s1 eW hsp ⊢
    refine ⟨W, y, pl, dw, pd, ad, cs, ps, as, fS, zs, rfl, eW, hy.same s1, hpl.same s1, hz3, fun l hl => ⟨(hzs l hl).1, fun n hn => ⟨((hzs l hl).2 n hn).1, hsp n ((hzs l hl).2 n hn).2⟩⟩, fun _ H2 tu ln fd ⟨hfd, fr1, fr2⟩ efd hWv b2 => ⟨rfl, ?_⟩, fun h8 => by omega⟩
    have s2 : Same H H2 := fun c o e => b2 _ _ (s1 _ _ e) (ne_of_none e hW)
    have hx2 := s2 _ _ hx
    have Wx : W ≠ x := Ne.symm (ne_of_none hx hW)
    refine ⟨Ss, dx, [], hx2, T.cls, T.a_weave, by show 0 < 1000; decide, ?_⟩
    have e3 : upd H2 x (.ins Ss dx (putF "weave" (.ref W) [])) x = _ := upd_same
    have b23 : But x H2 (upd H2 x (.ins Ss dx (putF "weave" (.ref W) []))) := fun c o e n => (upd_ne n).trans e
    generalize upd H2 x (.ins Ss dx (putF "weave" (.ref W) [])) = H3 at e3 b23 ⊢
    intro d hd
    have s4 : Same H3 (upd H3 d (.dT [])) := UL.Same.new hd
    have ed : upd H3 d (.dT []) d = some (.dT []) := upd_same
    generalize upd H3 d (.dT []) = H4 at s4 ed ⊢
    have dx3 : d ≠ x := fun z => by rw [z, e3] at hd; cases hd
    refine ⟨Ss, dx, _, s4 _ _ e3, T.cls, T.a_decided, by show 1 < 1000; decide, ?_⟩
    have k5 : ∀ {b : Addr} {o : HO}, H2 b = some o → b ≠ x → upd H4 x (.ins Ss dx (fsSs W d)) b = some o := fun e n => (upd_ne n).trans (s4 _ _ (b23 _ _ e n))
    have nox : ∀ {b : Addr} {o : HO}, H2 b = some o → (∀ fs, o ≠ .ins Ss dx fs) → b ≠ x := fun e n z => by rw [z, hx2] at e; exact n _ (Option.some.inj e).symm
    have fr0 : ∀ {b : Addr}, H1 b = none → H b = none := fun h => Same.free s1 h
    obtain ⟨dxw, tsw, w1, w2, w3, w4⟩ := hWv
    have kT : ∀ {b : Addr} {t : Trn}, TuA Tu H2 b t → TuA Tu (upd H4 x (.ins Ss dx (fsSs W d))) b t := fun {b t} ⟨dx', e⟩ => ⟨dx', k5 e fun z => by
      rw [z, hx2] at e
      have h2 := (HO.ins.inj (Option.some.inj e)).2.2
      cases h2⟩
    have d0 : H d = none := by
      cases e : H d with
      | none => rfl
      | some o => rw [b23 _ _ (s2 _ _ e) dx3] at hd; cases hd
    have tux : tu ≠ x := nox w2 fun _ z => nomatch z
    refine q _ W d tu ln fd hW ⟨fr0 hfd, fr0 fr1, fun ts e t ht => fr0 (fr2 ts ?_ t ht)⟩ (k5 efd (nox efd fun _ z => nomatch z)) ⟨dxw, tsw, k5 w1 Wx, k5 w2 tux, L2.Paired.mapP w3 fun t us ⟨as, g1, g2⟩ => ⟨as, k5 g1 (nox g1 fun _ z => nomatch z), L2.Paired.mapP g2 fun _ _ g => kT g⟩, k5 w4 (nox w4 fun _ z => nomatch z)⟩ upd_same d0 ((upd_ne dx3).trans ed) fun c o e n => k5 (s2 _ _ e) n
    rw [w2]; exact (k5 w2 tux).symm.trans e
def sp_sslets (Tu Wv Ss : Addr) : Sp := fun vs H Q _ => ∃ (a dx w d tu ln fd t : Addr) (TT : List (List Trn)) (wv : List Nat), vs = [.ref a, .ref t] ∧ H a = some (.ins Ss dx (fsSs w d)) ∧ WvA Wv Tu H w tu ln fd TT ∧ LoT H t ((nI wv).map V.int) ∧ wv.length = (TT.map List.length).sum ∧ wv.length ≤ 8 ∧ TT.length ≤ 3 ∧ OkN (TT.map List.length) wv ∧
  ∀ H', Same H H' → Q (.bl (decide ((plcs TT TT.length).filter (opnN wv) = []))) H'
theorem m_sslets (T : SsT K mg Ss) (D : MD K Ss "lets" "SerialScheduler.lets" s_SerialScheduler_lets) (cW : Cls K Wv) (m_opened : Mn P w K mg base CX0 3 Wv "opened" (sp_openedN Tu Wv)) : Mn P w K mg base CX0 4 Ss "lets" (sp_sslets Tu Wv Ss) := by
  refine D.mn sc_SerialScheduler_lets (fun _ _ _ _ _ _ us hl => match us, hl with | [_, _], _ => rfl) (fun vs H Q E h => ?_) (fun f cdv A outer s H vs Q E hr h => ?_)
  · obtain ⟨a, dx, w, d, tu, ln, fd, t, TT, wv, rfl, _⟩ := h; rfl
  · obtain ⟨a, dx, w, d, tu, ln, fd, t, TT, wv, rfl, ha, hw, ht, hl, h8, hT3, hok, q⟩ := h
    refine ⟨_, (pss_one (ps_ret (pe_notT (pe_m m_opened cW hr (by decide) pass0 (pe_fld (pv 0) (by rfl)) (pa_cons (pv 1) pa_nil))))), ?_⟩
    walk_at "rd"
    obtain ⟨dxw, tsw, w1, _⟩ := id hw
    simp only [tNotT]
    walk_at "rd"
    refine ⟨Ss, dx, _, ha, T.cls, T.a_weave, .ref w, rfl, w, rfl, dxw, _, w1, rfl, w, tu, ln, fd, t, TT, wv, rfl, hw, ht, hl, h8, hT3, hok, fun l ts H1 l0 el hts s1 => ?_⟩
    have lt := plenW hts
    refine ⟨!(ts.map V.ref).isEmpty, .inl ⟨_, .inl (.inl el), rfl⟩, ?_⟩
    have e : (!(!(ts.map V.ref).isEmpty)) = decide ((plcs TT TT.length).filter (opnN wv) = []) := by
      rw [Bool.not_not]
      cases ts with
      | nil =>
        have : (plcs TT TT.length).filter (opnN wv) = [] := List.length_eq_zero_iff.mp lt.symm
        rw [decide_eq_true this]; rfl
      | cons t r =>
        have : (plcs TT TT.length).filter (opnN wv) ≠ [] := fun z => by rw [z] at lt; cases lt
        rw [decide_eq_false this]; rfl
    show Q (.bl (!(!(ts.map V.ref).isEmpty))) H1
    rw [e]
    exact q H1 s1
end
end U
set_option Elab.async false
set_option linter.all false
set_option maxRecDepth 100000
set_option maxHeartbeats 4000000
set_option pp.deepTerms true
set_option pp.maxSteps 400000
namespace U
open PySem PySem.Spec PyProof.Rows L2 UL UX
local macro_rules | `(tactic| walk_at "rd") => `(tactic| simp only [sMatch, tJs, tFmt, tBC, tMethA, tMakeL, iEnumS, tSeq, tAsg, tOp, tCB, tCons, tNil, tVar, tC, tB, tTest, tNot, tIfS, tNext, tYes, tUn, rU, tM0, tGFrom, tGThen, tG0, tYfLst, gcxK, tSubO, tProp, tListG, tMethG, tBMF, tFld, sFld, tMeth, tMake, tSl, tNoPart, tPart, tM1, gTup, gCons, gNil, tDrop, tFor_eq, tLc_eq, tLc2_eq, iRng1_eq, StX.tStar, iList, iTup, iStr, iAny_var, iZipB, tLenSetS, wipe, tVar, tAndV, tOrV, tNotV, tOr, tAnd, tLst, tTup, tBM, tBM0, tChain, tCall, cxK, noxK, addII, addSS, mulII, eqII, neII, neSS, cIntI, cAbsI, rI, rI0, rLt, rLe, rGt_, rGe_, rSub_, rMod, rPow, rDivW, rNeg, gName, tRet, L2.start, List.length_cons, List.length_nil, List.map_cons, List.map_nil, List.replicate, List.cons_append, List.nil_append, List.getElem?_cons_zero, List.getElem?_cons_succ, List.set_cons_zero, List.set_cons_succ, Option.some.injEq, exists_eq_left', exists_eq_left, V.int.injEq, V.bl.injEq, V.str.injEq, V.ref.injEq, V.ty.injEq, List.cons.injEq, and_true, true_and, reduceCtorEq, false_and, exists_false, or_false, false_or, exists_and_left, exists_and_right, List.append_nil, forall_eq, decide_eq_true_eq, Bool.not_eq_true, Nat.reduceAdd, Nat.reduceSub, List.replicate_zero, List.replicate_succ, Nat.zero_le, ite_true, ite_false, if_true, if_false])
section
variable {P : Program} {w : World} {K : PySem.W.Frag} {mg : Str → Option Value} {base : Heap}
open UV UW NdefX ClX
/-! helpers of the laws without a machine -/
abbrev s__law_is_number : Stmt := top 46
abbrev sc__law_is_number_N : List Str := ["_law_actual"]
theorem sc__law_is_number : FnScope sc__law_is_number_N ["_law_actual"] (defScope s__law_is_number) := ⟨rfl, rfl, rfl, by decide +kernel, rfl, by decide +kernel, by decide +kernel⟩
-- 0 _law_actual
def sp_isnum : Sp := fun vs H Q _ => ∃ i : Int, vs = [.int i] ∧ Q (.bl true) H
theorem d_isnum (T : Nm mg) (D : TD K mg "_law_is_number" s__law_is_number) : Dn P w K mg base CX0 1 "_law_is_number" sp_isnum := by
  refine D.dn sc__law_is_number (fun _ _ _ _ _ _ us hl => match us, hl with | [_], _ => rfl) (fun vs H Q E h => ?_) (fun f cdv A outer s H vs Q E hr h => ?_)
  · obtain ⟨i, rfl, _⟩ := h; rfl
  · obtain ⟨i, rfl, q⟩ := h
    refine ⟨_, (pss_one (ps_ret (pe_and (pe_callB call_isi (by rfl) T.n_isinstance (by decide +kernel) (pa_cons (pv 0) (pa_cons (pe_bltn (v := .ty "int") (by rfl) T.n_int (by decide +kernel) rfl) pa_nil))) (pe_one (pe_not (pe_callB call_isi (by rfl) T.n_isinstance (by decide +kernel) (pa_cons (pv 0) (pa_cons (pe_bltn (v := .ty "bool") (by rfl) T.n_bool (by decide +kernel) rfl) pa_nil)))))))), ?_⟩
    walk_at "rd"
    refine isiI (r := true) (by rfl) ⟨true, rfl, ?_⟩
    rw [if_pos rfl]
    exact isiI (r := false) (by rfl) ⟨false, rfl, q⟩
theorem isTup {H : Hp} {t : Addr} {xs : List V} {Q : VK} (ht : H t = some (.tup xs)) (q : Q (.bl true) H) : rIsi K [.ref t, .ty "tuple"] H Q := ⟨_, _, _, _, _, rfl, .ty "tuple", .base (.tup ht), by rfl, q⟩
theorem isLst {H : Hp} {t : Addr} {xs : List V} {Q : VK} (ht : H t = some (.lst xs)) (q : Q (.bl true) H) : rIsi K [.ref t, .ty "list"] H Q := ⟨_, _, _, _, _, rfl, .ty "list", .base (.lst ht), by rfl, q⟩
abbrev s__law_same : Stmt := top 64
abbrev sc__law_same_N : List Str := ["_law_actual", "_law_due", "_law_k"]
theorem sc__law_same : FnScope sc__law_same_N ["_law_actual", "_law_due"] (defScope s__law_same) := ⟨rfl, rfl, rfl, by decide +kernel, rfl, by decide +kernel, by decide +kernel⟩
-- 0 _law_actual, 1 _law_due, 2 _law_k
/-- two tuples of the same ints -/
def sp_same : Sp := fun vs H Q _ => ∃ (t u : Addr) (s : List Int), vs = [.ref t, .ref u] ∧ H t = some (.tup (s.map V.int)) ∧ H u = some (.tup (s.map V.int)) ∧ s.length ≤ 1000 ∧ Q (.bl true) H
theorem d_same (T : Nm mg) (D : TD K mg "_law_same" s__law_same) (d__law_is_number : Dn P w K mg base CX0 1 "_law_is_number" sp_isnum) : Dn P w K mg base CX0 2 "_law_same" sp_same := by
  refine D.dn sc__law_same (fun _ _ _ _ _ _ us hl => match us, hl with | [_, _], _ => rfl) (fun vs H Q E h => ?_) (fun f cdv A outer s H vs Q E hr h => ?_)
  · obtain ⟨t, u, s, rfl, _⟩ := h; rfl
  · obtain ⟨t, u, s0, rfl, ht, hu, hl, q⟩ := h
    refine ⟨_, (pss_cons (ps_if (pw_or (pt_not (pt_val (pe_callB call_isi (by rfl) T.n_isinstance (by decide +kernel) (pa_cons (pv 0) (pa_cons (pe_bltn (v := .ty "tuple") (by rfl) T.n_tuple (by decide +kernel) rfl) pa_nil))))) (pw_or1 (pt_cmpR (op_neA (hr.units)) (pe_callB call_lenA (by rfl) T.n_len (by decide +kernel) (pa_cons (pv 0) pa_nil)) (pe_callB call_lenA (by rfl) T.n_len (by decide +kernel) (pa_cons (pv 1) pa_nil)) (nomark _)))).pt (pss_one (ps_ret pe_bl)) pss_nil)
      (pss_cons (ps_for PassesOwn.never rfl (pi_range1 (by rfl) T.n_range (pa_cons (pe_callB call_lenA (by rfl) T.n_len (by decide +kernel) (pa_cons (pv 1) pa_nil)) pa_nil)) (pg_name (i := 2) sc__law_same.nd rfl (Or.inl rfl)) (pss_one (ps_if (pw_or (pt_not (pt_val (pe_d d__law_is_number hr (by decide) pass0 (by rfl) (pa_cons (pe_ix ix_seq (pv 0) (pv 2) (fun _ _ => rfl)) pa_nil)))) (pw_or1 (pt_cmpR (op_neA (hr.units)) (pe_ix ix_seq (pv 0) (pv 2) (fun _ _ => rfl)) (pe_ix ix_seq (pv 1) (pv 2) (fun _ _ => rfl)) (nomark _)))).pt (pss_one (ps_ret pe_bl)) pss_nil)))
      (pss_one (ps_ret pe_bl)))), ?_⟩
    walk_at "rd"
    refine isTup ht (q := ⟨true, rfl, ?_⟩)
    rw [if_neg (by decide)]
    refine lenT (.inl (.inl ht)) (lenT (.inl (.inl hu)) (neII.mpr ⟨_, rfl, ?_⟩))
    rw [if_neg (by simp)]
    refine lenT (.inl (.inl hu)) ⟨_, rfl, by omega, by rw [List.length_map]; omega, FJ.rangeI (fun i σ' H' => (∃ z, σ' = [some (.ref t), some (.ref u), z]) ∧ H' = H) (by omega) ⟨⟨_, rfl⟩, rfl⟩ (fun i σ' H' hi inv => ?_) fun σ' H' inv => ?_⟩
    · obtain ⟨⟨z, rfl⟩, rfl⟩ := inv
      walk_at "rd"
      rw [List.length_map] at hi
      have i1 : i < s0.length := by omega
      have e : (s0.map V.int)[i]? = some (V.int s0[i]) := by rw [List.getElem?_map, List.getElem?_eq_getElem i1]; rfl
      refine ixT (.inl (.inl ht)) (atN e) ⟨_, rfl, true, rfl, ?_⟩
      rw [if_neg (by decide)]
      refine ixT (.inl (.inl ht)) (atN e) (ixT (.inl (.inl hu)) (atN e) (neII.mpr ⟨_, rfl, ?_⟩))
      rw [if_neg (by simp)]
      exact ⟨⟨_, rfl⟩, rfl⟩
    · obtain ⟨⟨z, rfl⟩, rfl⟩ := inv
      walk_at "rd"
      exact q
abbrev s__law_flag : Stmt := top 47
abbrev sc__law_flag_N : List Str := ["_law_actual", "_law_due"]
theorem sc__law_flag : FnScope sc__law_flag_N ["_law_actual", "_law_due"] (defScope s__law_flag) := ⟨rfl, rfl, rfl, by decide +kernel, rfl, by decide +kernel, by decide +kernel⟩
-- 0 _law_actual, 1 _law_due
def sp_lflag : Sp := fun vs H Q _ => ∃ b : Bool, vs = [.bl b, .bl b] ∧ Q (.bl true) H
theorem d_lflag (T : Nm mg) (D : TD K mg "_law_flag" s__law_flag) : Dn P w K mg base CX0 1 "_law_flag" sp_lflag := by
  refine D.dn sc__law_flag (fun _ _ _ _ _ _ us hl => match us, hl with | [_, _], _ => rfl) (fun vs H Q E h => ?_) (fun f cdv A outer s H vs Q E hr h => ?_)
  · obtain ⟨b, rfl, _⟩ := h; rfl
  · obtain ⟨b, rfl, q⟩ := h
    refine ⟨_, (pss_one (ps_ret (pe_and (pe_callB call_isi (by rfl) T.n_isinstance (by decide +kernel) (pa_cons (pv 0) (pa_cons (pe_bltn (v := .ty "bool") (by rfl) T.n_bool (by decide +kernel) rfl) pa_nil))) (pe_one (pe_cmpR (op_eqA (hr.units)) (pv 0) (pv 1) (nomark _)))))), ?_⟩
    walk_at "rd"
    refine ⟨_, _, _, _, _, rfl, .ty "bool", .base (.bl b), by rfl, true, rfl, ?_⟩
    rw [if_pos rfl]
    exact UX.eqDD (.bl b) (.bl b) (UX.Sh.bl b) (UX.Sh.bl b) (q := by rw [UX.eqv_same (UX.Sh.bl b)]; exact q)
end
end U
set_option Elab.async false
set_option linter.all false
set_option maxRecDepth 100000
set_option maxHeartbeats 4000000
set_option pp.deepTerms true
set_option pp.maxSteps 400000
namespace U
open PySem PySem.Spec PyProof.Rows L2 UL UX
local macro_rules | `(tactic| walk_at "rd") => `(tactic| simp only [sMatch, tJs, tFmt, tBC, tMethA, tMakeL, iEnumS, tSeq, tAsg, tOp, tCB, tCons, tNil, tVar, tC, tB, tTest, tNot, tIfS, tNext, tYes, tUn, rU, tM0, tGFrom, tGThen, tG0, tYfLst, gcxK, tSubO, tProp, tListG, tMethG, tBMF, tFld, sFld, tMeth, tMake, tSl, tNoPart, tPart, tM1, gTup, gCons, gNil, tDrop, tFor_eq, tLc_eq, tLc2_eq, iRng1_eq, StX.tStar, iList, iTup, iStr, iAny_var, iZipB, tLenSetS, wipe, tVar, tAndV, tOrV, tNotV, tOr, tAnd, tLst, tTup, tBM, tBM0, tChain, tCall, cxK, noxK, addII, addSS, mulII, eqII, neII, neSS, cIntI, cAbsI, rI, rI0, rLt, rLe, rGt_, rGe_, rSub_, rMod, rPow, rDivW, rNeg, gName, tRet, L2.start, List.length_cons, List.length_nil, List.map_cons, List.map_nil, List.replicate, List.cons_append, List.nil_append, List.getElem?_cons_zero, List.getElem?_cons_succ, List.set_cons_zero, List.set_cons_succ, Option.some.injEq, exists_eq_left', exists_eq_left, V.int.injEq, V.bl.injEq, V.str.injEq, V.ref.injEq, V.ty.injEq, List.cons.injEq, and_true, true_and, reduceCtorEq, false_and, exists_false, or_false, false_or, exists_and_left, exists_and_right, List.append_nil, forall_eq, decide_eq_true_eq, Bool.not_eq_true, Nat.reduceAdd, Nat.reduceSub, List.replicate_zero, List.replicate_succ, Nat.zero_le, ite_true, ite_false, if_true, if_false])
section
variable {P : Program} {w : World} {K : PySem.W.Frag} {mg : Str → Option Value} {base : Heap}
open UV UW NdefX ClX
variable {R Wr B Pg Sy IC UC IS UP IP C Tu Wv TSx Ss : Addr}
/-! places and owners, as the law counts them -/
def NewP (H H' : Hp) (F : Hp → Prop) : Prop := ∀ H'', (∀ c o, H c = none → H' c = some o → H'' c = some o) → F H''
theorem NewP.here {H H' : Hp} {F : Hp → Prop} (h : NewP H H' F) : F H' := h H' fun _ _ _ e => e
/-- who the steps of a lane belong to -/
def ownOf (qs : List Rw) (L : List Nat) (m : Nat) : List Nat := (List.range m).flatMap fun k => List.replicate (stepsN qs (L[k]?.getD 0)) k
abbrev ownA (qs : List Rw) (L : List Nat) : List Nat := ownOf qs L L.length
def plO1 (l : Nat) (us : List Nat) (m : Nat) : List (Nat × Nat) := (List.range m).filterMap fun j => match us[j]?, us[j + 1]? with
  | some a, some b => if a = b then some (l, j + 1) else none
  | _, _ => none
def plO (O : List (List Nat)) (n : Nat) : List (Nat × Nat) := (List.range n).flatMap fun l => match O[l]? with
  | some us => plO1 l us (us.length - 1)
  | none => []
theorem flatMap_congr' {α β : Type} {f g : α → List β} : ∀ {l : List α}, (∀ x ∈ l, f x = g x) → l.flatMap f = l.flatMap g
  | [], _ => rfl
  | x :: l, h => by rw [List.flatMap_cons, List.flatMap_cons, h x List.mem_cons_self, flatMap_congr' fun y hy => h y (List.mem_cons_of_mem _ hy)]
theorem plcs_occ {TT : List (List Trn)} {n : Nat} : plcs TT n = plO (TT.map (List.map (·.occ))) n := by
  unfold plcs plO
  refine flatMap_congr' fun l _ => ?_
  rw [List.getElem?_map]
  cases TT[l]? with
  | none => rfl
  | some us =>
    show plcOf l us (us.length - 1) = plO1 l (us.map (·.occ)) ((us.map (·.occ)).length - 1)
    rw [List.length_map]
    unfold plcOf plO1
    congr 1
    funext j
    rw [List.getElem?_map, List.getElem?_map]
    cases us[j]? <;> cases us[j + 1]? <;> rfl
theorem nms_at {qs : List Rw} : ∀ {L : List Nat} {o : Nat}, (∀ v ∈ L, v < qs.length) → (nmsOf qs L)[o]? = L[o]?.bind fun v => (qs[v]?).map (·.n)
  | [], o, _ => by unfold nmsOf; simp
  | v :: L, o, h => by
    have vl := h v List.mem_cons_self
    have e1 : nmsOf qs (v :: L) = qs[v].n :: nmsOf qs L := by unfold nmsOf; rw [List.filterMap_cons, List.getElem?_eq_getElem vl]; rfl
    rw [e1]
    cases o with
    | zero => simp [List.getElem?_eq_getElem vl]
    | succ o => simpa using nms_at (o := o) fun x hx => h x (List.mem_cons_of_mem _ hx)
theorem nms_length {qs : List Rw} {L : List Nat} (h : ∀ v ∈ L, v < qs.length) : (nmsOf qs L).length = L.length := by
  unfold nmsOf
  induction L with
  | nil => rfl
  | cons v L ih =>
    rw [List.filterMap_cons, List.getElem?_eq_getElem (h v List.mem_cons_self)]
    show (_ :: _).length = _
    rw [List.length_cons, List.length_cons, ih fun x hx => h x (List.mem_cons_of_mem _ hx)]
theorem plTr_occ {qs : List Rw} {fS : Str → List Addr} {Ls : List (List Nat)} (h : ∀ q ∈ qs, (fS q.n).length = q.ks.length) (hv : ∀ L ∈ Ls, ∀ v ∈ L, v < qs.length) : (plTr fS (Ls.map (nmsOf qs))).map (List.map (·.occ)) = Ls.map (ownA qs) := by
  refine List.ext_getElem? fun i => ?_
  unfold plTr
  rw [List.getElem?_map, List.getElem?_map, List.length_map, List.getElem?_map]
  by_cases c : i < Ls.length
  · rw [List.getElem?_range c, List.getElem?_eq_getElem c]
    simp only [Option.map_some, List.getElem?_map, List.getElem?_eq_getElem c]
    have hL := hv _ (List.getElem_mem c)
    generalize Ls[i] = L at hL
    congr 1
    show _ = ownOf qs L L.length
    unfold trnN ownOf
    rw [List.map_flatMap, nms_length hL]
    refine flatMap_congr' fun o ho => ?_
    have ol := List.mem_range.mp ho
    rw [nms_at hL, List.getElem?_eq_getElem ol]
    have vl := hL _ (List.getElem_mem ol)
    generalize L[o] = v at vl
    show List.map _ (match (qs[v]?).map (·.n) with | some n => _ | none => _) = List.replicate (stepsN qs v) o
    unfold stepsN
    rw [List.getElem?_eq_getElem vl]
    show List.map _ ((fS qs[v].n).map _) = List.replicate (qs[v].ks.length) o
    rw [List.map_map, ← h _ (List.getElem_mem vl)]
    refine List.ext_getElem? fun j => ?_
    rw [List.getElem?_map, List.getElem?_replicate]
    by_cases cj : j < (fS qs[v].n).length
    · rw [if_pos cj, List.getElem?_eq_getElem cj]; rfl
    · rw [if_neg cj, List.getElem?_eq_none (by omega)]; rfl
  · rw [List.getElem?_eq_none (by rw [List.length_range]; omega), List.getElem?_eq_none (by omega)]
    rfl
theorem own_len {qs : List Rw} {L : List Nat} (hv : ∀ v ∈ L, v < qs.length) : (ownA qs L).length = lenN qs L := by
  have h : ∀ m, m ≤ L.length → (ownOf qs L m).length = lenN qs (L.take m) := fun m => by
    induction m with
    | zero => intro _; simp [ownOf, lenN]
    | succ m ih =>
      intro hm
      have e := List.getElem?_eq_getElem (show m < L.length by omega)
      have e1 : ownOf qs L (m + 1) = ownOf qs L m ++ List.replicate (stepsN qs (L[m]?.getD 0)) m := by unfold ownOf; rw [List.range_succ, List.flatMap_append]; simp
      rw [e1, List.length_append, ih (by omega), List.length_replicate, List.take_add_one, e]
      unfold lenN
      rw [List.map_append, List.sum_append]
      show _ + stepsN qs L[m] = _ + (stepsN qs L[m] + 0)
      rfl
  have := h L.length (Nat.le_refl _)
  rwa [List.take_length] at this
/-! the serial order -/
theorem atN'_at {wv : List Nat} {l c p : Nat} : ∀ m, m ≤ wv.length → ((atN' wv l m)[c]? = some p ↔ p < m ∧ wv[p]? = some l ∧ (wv.take p).count l = c)
  | 0, _ => by simp [atN']
  | m + 1, h => by
    have ih := atN'_at (wv := wv) (l := l) (c := c) (p := p) m (by omega)
    have hm : m < wv.length := by omega
    have e := List.getElem?_eq_getElem hm
    have len := atN'_len (wv := wv) (lane := l) m (by omega)
    rw [atN'_succ e]
    by_cases x : wv[m] = l
    · rw [if_pos x]
      by_cases cl : c < (atN' wv l m).length
      · rw [List.getElem?_append_left cl, ih]
        refine ⟨fun ⟨a, b, d⟩ => ⟨by omega, b, d⟩, fun ⟨a, b, d⟩ => ⟨?_, b, d⟩⟩
        rcases Nat.lt_or_ge p m with z | z
        · exact z
        · have : p = m := by omega
          subst this; omega
      · rw [List.getElem?_append_right (Nat.le_of_not_lt cl)]
        refine ⟨fun z => ?_, fun ⟨a, b, d⟩ => ?_⟩
        · have i0 : c - (atN' wv l m).length < 1 := (List.getElem?_eq_some_iff.mp z).1
          have i1 : c = (atN' wv l m).length := by omega
          rw [i1, Nat.sub_self] at z
          cases z
          exact ⟨by omega, by rw [e, x], by omega⟩
        · have pm : p = m := by
            rcases Nat.lt_or_ge p m with z | z
            · have c1 : (wv.take p).count l < (wv.take m).count l := by
                have e2 : (wv.take (p + 1)).count l = (wv.take p).count l + 1 := by rw [List.take_add_one, b, List.count_append]; simp
                have e3 : (wv.take (p + 1)).count l ≤ (wv.take m).count l := by
                  have : wv.take (p + 1) = (wv.take m).take (p + 1) := by rw [List.take_take, Nat.min_eq_left (by omega)]
                  rw [this]
                  exact (List.take_sublist _ _).count_le _
                omega
              omega
            · omega
          subst pm
          rw [show c = (atN' wv l p).length by omega, Nat.sub_self]; rfl
    · rw [if_neg x, List.append_nil, ih]
      refine ⟨fun ⟨a, b, d⟩ => ⟨by omega, b, d⟩, fun ⟨a, b, d⟩ => ⟨?_, b, d⟩⟩
      rcases Nat.lt_or_ge p m with z | z
      · exact z
      · have : p = m := by omega
        subst this
        rw [e] at b
        exact absurd (Option.some.inj b) x
theorem atA_at {wv : List Nat} {l c p : Nat} : (atA wv l)[c]? = some p ↔ wv[p]? = some l ∧ (wv.take p).count l = c := by
  rw [show atA wv l = atN' wv l wv.length from rfl, atN'_at _ (Nat.le_refl _)]
  exact ⟨fun h => h.2, fun h => ⟨(List.getElem?_eq_some_iff.mp h.1).1, h⟩⟩
/-- the step of a weaving at a place: its lane and its program -/
def ownAt (O : List (List Nat)) (wv : List Nat) (i : Nat) : Option (Nat × Nat) := wv[i]?.bind fun l => O[l]?.bind fun us => us[(wv.take i).count l]?.map fun k => (l, k)
/-- the program of a step is finished behind it -/
def finAt (O : List (List Nat)) (wv : List Nat) (i : Nat) : Bool := match wv[i]?, ownAt O wv i with
  | some l, some (_, k) => decide ((O[l]?.getD [])[(wv.take i).count l + 1]? ≠ some k)
  | _, _ => true
def badS (O : List (List Nat)) (wv : List Nat) : Nat → Bool
  | 0 => false
  | j + 1 => decide (ownAt O wv (j + 1) ≠ ownAt O wv j) && !finAt O wv j
def serB (O : List (List Nat)) (wv : List Nat) (n : Nat) : Bool := (List.range n).all fun i => !badS O wv i
theorem ownAt_ok {O : List (List Nat)} {wv : List Nat} (hok : OkN (O.map List.length) wv) {i l : Nat} (h : wv[i]? = some l) : ∃ us k, O[l]? = some us ∧ us[(wv.take i).count l]? = some k ∧ ownAt O wv i = some (l, k) := by
  obtain ⟨hl, hc⟩ := hok i l h
  rw [List.length_map] at hl
  rw [List.getElem?_map, List.getElem?_eq_getElem hl] at hc
  have e2 := List.getElem?_eq_getElem (l := O[l]) (show (wv.take i).count l < O[l].length from hc)
  exact ⟨O[l], _, List.getElem?_eq_getElem hl, e2, by unfold ownAt; simp [h, List.getElem?_eq_getElem hl, e2]⟩
theorem cnt_succ {wv : List Nat} {i l : Nat} (h : wv[i]? = some l) : (wv.take (i + 1)).count l = (wv.take i).count l + 1 := by
  rw [List.take_add_one, h, List.count_append]; simp
theorem cnt_mono {wv : List Nat} {l i j : Nat} (h : i ≤ j) : (wv.take i).count l ≤ (wv.take j).count l := by
  have : wv.take i = (wv.take j).take i := by rw [List.take_take, Nat.min_eq_left h]
  rw [this]
  exact (List.take_sublist _ _).count_le _
theorem plO_mem {O : List (List Nat)} {p : Nat × Nat} : p ∈ plO O O.length ↔ ∃ us j k, O[p.1]? = some us ∧ p.2 = j + 1 ∧ us[j]? = some k ∧ us[j + 1]? = some k := by
  unfold plO
  rw [List.mem_flatMap]
  constructor
  · rintro ⟨l, hl, h⟩
    cases e : O[l]? with
    | none => rw [e] at h; cases h
    | some us =>
      rw [e] at h
      unfold plO1 at h
      obtain ⟨j, hj, h⟩ := List.mem_filterMap.mp h
      cases e1 : us[j]? with
      | none => rw [e1] at h; cases h
      | some x =>
        cases e2 : us[j + 1]? with
        | none => rw [e1, e2] at h; cases h
        | some y =>
          rw [e1, e2] at h
          dsimp only at h
          split at h
          · rename_i hxy
            cases h
            exact ⟨us, j, x, e, rfl, e1, by rw [e2, hxy]⟩
          · cases h
  · rintro ⟨us, j, k, e, e0, e1, e2⟩
    refine ⟨p.1, List.mem_range.mpr (List.getElem?_eq_some_iff.mp e).1, ?_⟩
    rw [e]
    show p ∈ plO1 p.1 us (us.length - 1)
    unfold plO1
    refine List.mem_filterMap.mpr ⟨j, List.mem_range.mpr (by have := (List.getElem?_eq_some_iff.mp e2).1; omega), ?_⟩
    rw [e1, e2]
    simp [← e0]
theorem serial_iff {O : List (List Nat)} {wv : List Nat} (hok : OkN (O.map List.length) wv) (hl : wv.length = (O.map List.length).sum) : serB O wv wv.length = decide ((plO O O.length).filter (opnN wv) = []) := by
  have full : ∀ l us, O[l]? = some us → wv.count l = us.length := fun l us h => by
    have := okN_full hok hl l (by rw [List.length_map]; exact (List.getElem?_eq_some_iff.mp h).1)
    rw [this, List.getElem?_map, h]; rfl
  rw [Bool.eq_iff_iff, decide_eq_true_eq]
  unfold serB
  rw [List.all_eq_true, List.filter_eq_nil_iff]
  constructor
  · intro h p hp ho
    obtain ⟨us, c, k, e, e0, e1, e2⟩ := plO_mem.mp hp
    have la := atA_len (wv := wv) (lane := p.1)
    rw [full _ _ e] at la
    have c2 := (List.getElem?_eq_some_iff.mp e2).1
    obtain ⟨j, hj⟩ : ∃ j, (atA wv p.1)[c]? = some j := ⟨_, List.getElem?_eq_getElem (by omega)⟩
    obtain ⟨q, hq⟩ : ∃ q, (atA wv p.1)[c + 1]? = some q := ⟨_, List.getElem?_eq_getElem (by omega)⟩
    unfold opnN at ho
    rw [e0, Nat.add_sub_cancel, hj, hq] at ho
    have ho : j + 1 < q := by simpa using ho
    obtain ⟨j1, j2⟩ := atA_at.mp hj
    obtain ⟨q1, q2⟩ := atA_at.mp hq
    have ql := (List.getElem?_eq_some_iff.mp q1).1
    have hb := h (j + 1) (List.mem_range.mpr (by omega))
    have oj : ownAt O wv j = some (p.1, k) := by unfold ownAt; simp [j1, e, j2, e1]
    have fj : finAt O wv j = false := by unfold finAt; rw [j1, oj]; simp [e, j2, e2]
    have ne : ownAt O wv (j + 1) ≠ ownAt O wv j := fun z => by
      rw [oj] at z
      have e3 := List.getElem?_eq_getElem (show j + 1 < wv.length by omega)
      obtain ⟨us', k', _, _, o'⟩ := ownAt_ok hok e3
      rw [o'] at z
      have z1 : wv[j + 1] = p.1 := congrArg Prod.fst (Option.some.inj z)
      rw [z1] at e3
      have : (atA wv p.1)[c + 1]? = some (j + 1) := atA_at.mpr ⟨e3, by rw [cnt_succ j1, j2]⟩
      rw [hq] at this
      have := Option.some.inj this
      omega
    have hb : (!(decide (ownAt O wv (j + 1) ≠ ownAt O wv j) && !finAt O wv j)) = true := hb
    rw [decide_eq_true ne, fj] at hb
    cases hb
  · intro h i hi
    have hi := List.mem_range.mp hi
    cases i with
    | zero => rfl
    | succ j =>
      cases hb : badS O wv (j + 1) with
      | false => rfl
      | true =>
        exfalso
        unfold badS at hb
        rw [Bool.and_eq_true, decide_eq_true_eq, Bool.not_eq_true'] at hb
        obtain ⟨ne, fj⟩ := hb
        have ej := List.getElem?_eq_getElem (show j < wv.length by omega)
        generalize wv[j] = l at ej
        obtain ⟨us, k, u1, u2, oj⟩ := ownAt_ok hok ej
        unfold finAt at fj
        rw [ej, oj] at fj
        have fj : us[(wv.take j).count l + 1]? = some k := by simpa [u1] using fj
        have hp : (l, (wv.take j).count l + 1) ∈ plO O O.length := plO_mem.mpr ⟨us, _, k, u1, rfl, u2, fj⟩
        have la := atA_len (wv := wv) (lane := l)
        rw [full _ _ u1] at la
        have c2 := (List.getElem?_eq_some_iff.mp fj).1
        obtain ⟨q, hq⟩ : ∃ q, (atA wv l)[(wv.take j).count l + 1]? = some q := ⟨_, List.getElem?_eq_getElem (by omega)⟩
        obtain ⟨q1, q2⟩ := atA_at.mp hq
        have hj : (atA wv l)[(wv.take j).count l]? = some j := atA_at.mpr ⟨ej, rfl⟩
        refine h _ hp ?_
        unfold opnN
        show decide ((atA wv l)[(wv.take j).count l + 1 - 1]?.getD 0 + 1 < (atA wv l)[(wv.take j).count l + 1]?.getD 0) = true
        rw [Nat.add_sub_cancel, hj, hq]
        show decide (j + 1 < q) = true
        rw [decide_eq_true_eq]
        have q3 : j < q := by
          rcases Nat.lt_or_ge j q with z | z
          · exact z
          · have := cnt_mono (wv := wv) (l := l) z; omega
        rcases Nat.lt_or_ge (j + 1) q with z | z
        · exact z
        · exfalso
          have : q = j + 1 := by omega
          subst this
          obtain ⟨us', k', v1, v2, o'⟩ := ownAt_ok hok q1
          rw [u1] at v1
          cases v1
          rw [q2, fj] at v2
          cases v2
          exact ne (by rw [o', oj])
end
end U
set_option Elab.async false
set_option linter.all false
set_option maxRecDepth 100000
set_option maxHeartbeats 4000000
set_option pp.deepTerms true
set_option pp.maxSteps 400000
namespace U
open PySem PySem.Spec PyProof.Rows L2 UL UX
local macro_rules | `(tactic| walk_at "rd") => `(tactic| simp only [sMatch, tJs, tFmt, tBC, tMethA, tMakeL, iEnumS, tSeq, tAsg, tOp, tCB, tCons, tNil, tVar, tC, tB, tTest, tNot, tIfS, tNext, tYes, tUn, rU, tM0, tGFrom, tGThen, tG0, tYfLst, gcxK, tSubO, tProp, tListG, tMethG, tBMF, tFld, sFld, tMeth, tMake, tSl, tNoPart, tPart, tM1, gTup, gCons, gNil, tDrop, tFor_eq, tLc_eq, tLc2_eq, iRng1_eq, StX.tStar, iList, iTup, iStr, iAny_var, iZipB, tLenSetS, wipe, tVar, tAndV, tOrV, tNotV, tOr, tAnd, tLst, tTup, tBM, tBM0, tChain, tCall, cxK, noxK, addII, addSS, mulII, eqII, neII, neSS, cIntI, cAbsI, rI, rI0, rLt, rLe, rGt_, rGe_, rSub_, rMod, rPow, rDivW, rNeg, gName, tRet, L2.start, List.length_cons, List.length_nil, List.map_cons, List.map_nil, List.replicate, List.cons_append, List.nil_append, List.getElem?_cons_zero, List.getElem?_cons_succ, List.set_cons_zero, List.set_cons_succ, Option.some.injEq, exists_eq_left', exists_eq_left, V.int.injEq, V.bl.injEq, V.str.injEq, V.ref.injEq, V.ty.injEq, List.cons.injEq, and_true, true_and, reduceCtorEq, false_and, exists_false, or_false, false_or, exists_and_left, exists_and_right, List.append_nil, forall_eq, decide_eq_true_eq, Bool.not_eq_true, Nat.reduceAdd, Nat.reduceSub, List.replicate_zero, List.replicate_succ, Nat.zero_le, ite_true, ite_false, if_true, if_false])
section
variable {P : Program} {w : World} {K : PySem.W.Frag} {mg : Str → Option Value} {base : Heap}
open UV UW NdefX ClX
variable {R Wr B Pg Sy IC UC IS UP IP C Tu Wv TSx Ss : Addr}
/-! owners, places, opened places and the serial order, as the law works them out -/
def TS3 (H : Hp) (ts : List Addr) (X : List (List Int)) : Prop := Paired (fun (t : Addr) (s : List Int) => H t = some (.tup (s.map V.int))) ts X
def natW (ls : List Nat) : List V := ls.map fun (n : Nat) => V.int n
theorem natW_at {ls : List Nat} {i x : Nat} (h : ls[i]? = some x) : (natW ls)[i]? = some (V.int (x : Nat)) := by unfold natW; rw [List.getElem?_map, h]; rfl
theorem natW_len {ls : List Nat} : (natW ls).length = ls.length := by unfold natW; rw [List.length_map]
theorem pairedR3 {α β : Type} {F : α → β → Prop} : ∀ {xs : List α} {ys : List β} {i : Nat} {y : β}, Paired F xs ys → ys[i]? = some y → ∃ x, xs[i]? = some x ∧ F x y
  | _, _, i, y, .nil, h => by simp at h
  | _, _, 0, y, .cons a _, h => by simp at h; subst h; exact ⟨_, rfl, a⟩
  | _, _, i + 1, y, .cons _ b, h => by
    obtain ⟨x, h1, h2⟩ := pairedR3 b (i := i) (by simpa using h)
    exact ⟨x, by simpa using h1, h2⟩
abbrev s__law_same_pairs : Stmt := top 69
abbrev sc__law_same_pairs_N : List Str := ["_law_actual", "_law_due", "_law_k"]
theorem sc__law_same_pairs : FnScope sc__law_same_pairs_N ["_law_actual", "_law_due"] (defScope s__law_same_pairs) := ⟨rfl, rfl, rfl, by decide +kernel, rfl, by decide +kernel, by decide +kernel⟩
-- 0 _law_actual, 1 _law_due, 2 _law_k
def sp_lalls : Sp := fun vs H Q _ => ∃ (a b : Addr) (ws us : List Addr) (X : List (List Int)), vs = [.ref a, .ref b] ∧ H a = some (.lst (ws.map V.ref)) ∧ H b = some (.lst (us.map V.ref)) ∧ TS3 H ws X ∧ TS3 H us X ∧ X.length ≤ 1000 ∧ (∀ s ∈ X, s.length ≤ 1000) ∧ Q (.bl true) H
theorem d_lalls (T : Nm mg) (D : TD K mg "_law_same_pairs" s__law_same_pairs) (d__law_same : Dn P w K mg base CX0 2 "_law_same" sp_same) : Dn P w K mg base CX0 3 "_law_same_pairs" sp_lalls := by
  refine D.dn sc__law_same_pairs (fun _ _ _ _ _ _ us hl => match us, hl with | [_, _], _ => rfl) (fun vs H Q E h => ?_) (fun f cdv A outer s H vs Q E hr h => ?_)
  · obtain ⟨a, b, ws, us, X, rfl, _⟩ := h; rfl
  · obtain ⟨a, b, ws, us, X, rfl, ha, hb, hws, hus, xl, x1, q⟩ := h
    have lw := plenQ hws
    have lu := plenQ hus
    refine ⟨_, (pss_cons (ps_if (pw_or (pt_not (pt_val (pe_callB call_isi (by rfl) T.n_isinstance (by decide +kernel) (pa_cons (pv 0) (pa_cons (pe_bltn (v := .ty "list") (by rfl) T.n_list (by decide +kernel) rfl) pa_nil))))) (pw_or1 (pt_cmpR (op_neA (hr.units)) (pe_callB call_lenA (by rfl) T.n_len (by decide +kernel) (pa_cons (pv 0) pa_nil)) (pe_callB call_lenA (by rfl) T.n_len (by decide +kernel) (pa_cons (pv 1) pa_nil)) (nomark _)))).pt (pss_one (ps_ret pe_bl)) pss_nil)
      (pss_cons (ps_for PassesOwn.never rfl (pi_range1 (by rfl) T.n_range (pa_cons (pe_callB call_lenA (by rfl) T.n_len (by decide +kernel) (pa_cons (pv 1) pa_nil)) pa_nil)) (pg_name (i := 2) sc__law_same_pairs.nd rfl (Or.inl rfl)) (pss_one (ps_if (pt_not (pt_val (pe_d d__law_same hr (by decide) pass0 (by rfl) (pa_cons (pe_ix ix_seq (pv 0) (pv 2) (fun _ _ => rfl)) (pa_cons (pe_ix ix_seq (pv 1) (pv 2) (fun _ _ => rfl)) pa_nil))))) (pss_one (ps_ret pe_bl)) pss_nil)))
      (pss_one (ps_ret pe_bl)))), ?_⟩
    walk_at "rd"
    refine isLst ha (q := ⟨true, rfl, ?_⟩)
    rw [if_neg (by decide)]
    refine lenL (.inl (.inl ha)) (lenL (.inl (.inl hb)) (neII.mpr ⟨_, rfl, ?_⟩))
    rw [List.length_map, List.length_map, if_neg (by simp; omega)]
    refine lenL (.inl (.inl hb)) ⟨_, rfl, by omega, by rw [List.length_map]; omega, FJ.rangeI (fun i σ' H' => (∃ z, σ' = [some (.ref a), some (.ref b), z]) ∧ H' = H) (by omega) ⟨⟨_, rfl⟩, rfl⟩ (fun i σ' H' hi inv => ?_) fun σ' H' inv => ?_⟩
    · obtain ⟨⟨z, rfl⟩, rfl⟩ := inv
      walk_at "rd"
      rw [List.length_map] at hi
      have hx : X[i]? = some X[i] := List.getElem?_eq_getElem (by omega)
      generalize X[i] = s at hx
      obtain ⟨g, hg, eg⟩ := pairedR hws hx
      obtain ⟨g2, hg2, eg2⟩ := pairedR hus hx
      refine ixL (.inl (.inl ha)) (atN (v := .ref g) (by rw [List.getElem?_map, hg]; rfl)) (ixL (.inl (.inl hb)) (atN (v := .ref g2) (by rw [List.getElem?_map, hg2]; rfl)) ⟨g, g2, s, rfl, eg, eg2, x1 s (List.mem_of_getElem? hx), true, rfl, ?_⟩)
      rw [if_neg (by decide)]
      exact ⟨⟨_, rfl⟩, rfl⟩
    · obtain ⟨⟨z, rfl⟩, rfl⟩ := inv
      walk_at "rd"
      exact q
theorem paired_mapL {α β γ : Type} {F : α → β → Prop} {G : α → γ → Prop} {f : β → γ} : ∀ {xs : List α} {ys : List β}, Paired F xs ys → (∀ a b, F a b → G a (f b)) → Paired G xs (ys.map f)
  | _, _, .nil, _ => .nil
  | _, _, .cons a b, h => .cons (h _ _ a) (paired_mapL b h)
abbrev s__law_owners : Stmt := top 65
abbrev sc__law_owners_N : List Str := ["_law_programs_here", "_law_lanes_here", "_law_owners_here", "_law_lane", "_law_row", "_law_k", ".0", "_law_step_here"]
theorem sc__law_owners : FnScope sc__law_owners_N ["_law_programs_here", "_law_lanes_here"] (defScope s__law_owners) := ⟨rfl, rfl, rfl, by decide +kernel, rfl, by decide +kernel, by decide +kernel⟩
-- 0 _law_programs_here, 1 _law_lanes_here, 2 _law_owners_here, 3 _law_lane, 4 _law_row, 5 _law_k, 6 .0, 7 _law_step_here
/-- lists of numbers in a list -/
def OwnH (H : Hp) (a : Addr) (O : List (List Nat)) : Prop := ∃ ts : List Addr, H a = some (.lst (ts.map V.ref)) ∧ Paired (fun t L => H t = some (.lst (natW L))) ts O
def sp_lowners : Sp := fun vs H Q _ => ∃ (r la : Addr) (qs : List Rw) (Ls : List (List Nat)), vs = [.ref r, .ref la] ∧ PrL H r qs ∧ LanH H la Ls ∧ LanOk qs Ls ∧ (∀ q ∈ qs, q.ks.length ≤ 4) ∧
  ∀ a H', H a = none → NewP H H' (fun G => OwnH G a (Ls.map (ownA qs))) → Same H H' → Q (.ref a) H'
theorem d_lowners (T : Nm mg) (D : TD K mg "_law_owners" s__law_owners) : Dn P w K mg base CX0 1 "_law_owners" sp_lowners := by
  refine D.dn sc__law_owners (fun _ _ _ _ _ _ us hl => match us, hl with | [_, _], _ => rfl) (fun vs H Q E h => ?_) (fun f cdv A outer s H vs Q E hr h => ?_)
  · obtain ⟨r, la, qs, Ls, rfl, _⟩ := h; rfl
  · obtain ⟨r, la, qs, Ls, rfl, hq, hla, hlo, hq4, q⟩ := h
    refine ⟨_, (pss_cons (ps_set (i := 2) sc__law_owners.nd rfl (Or.inl rfl) (pe_lst pa_nil))
      (pss_cons (ps_for PassesOwn.never rfl (pi_list (pv 1)) (pg_name (i := 3) sc__law_owners.nd rfl (Or.inl rfl)) (pss_cons (ps_set (i := 4) sc__law_owners.nd rfl (Or.inl rfl) (pe_lst pa_nil))
      (pss_cons (ps_for PassesOwn.never rfl (pi_range1 (by rfl) T.n_range (pa_cons (pe_callB call_lenA (by rfl) T.n_len (by decide +kernel) (pa_cons (pv 3) pa_nil)) pa_nil)) (pg_name (i := 5) sc__law_owners.nd rfl (Or.inr rfl)) (pss_one (ps_set (i := 4) sc__law_owners.nd rfl (Or.inl rfl) (pe_op op_addA (pv 4) (pe_lc (own := [(".0", 6), ("_law_step_here", 7)]) (g := (gName 7)) (tt := tYes) rfl sc__law_owners.nd (pi_list (pe_ix (ix_seqK K rfl) (pe_ix (ix_seqK K rfl) (pv 0) (pe_ix (ix_seqK K rfl) (pv 3) (pv 5) (fun _ _ => rfl)) (fun _ _ => rfl)) pe_int (fun _ _ => rfl))) (blkOk_by (N := sc__law_owners_N) (sc := defScope s__law_owners) (by decide +kernel)) (fun _ _ _ _ _ => pg_name (i := 7) sc__law_owners.nd rfl (Or.inl rfl)) (fun _ _ _ _ _ => pts_nil) (fun _ _ _ _ _ => (pv 5)))))))
      (pss_one (ps_expr (pe_bm PySem.F.plainAttrs_list PySem.F.slot_list_append PySem.F.type_list_append mt_append (pv 2) (pa_cons (pv 4) pa_nil)))))))
      (pss_one (ps_ret (pv 2))))), ?_⟩
    walk_at "rd"
    have hrk : ∀ q ∈ qs, q.rs.length = q.ks.length := fun q0 h0 => plenW (hq.2 q0 h0).2.2
    obtain ⟨lt, hla1, hla2⟩ := id hla
    have llt := plenW hla2
    have l3 := hlo.1
    intro x hx0
    have s0 : Same H (upd H x (.lst [])) := UL.Same.new hx0
    refine ⟨⟨_, .inl (.inl (s0 _ _ hla1))⟩, FJ.list (xs := lt.map V.ref) (fun i σ' H' => ∃ (us : List Addr) (z3 z4 z5 : Option V), σ' = [some (.ref r), some (.ref la), some (.ref x), z3, z4, z5, none, none] ∧ H' x = some (.lst (us.map V.ref)) ∧ Paired (fun (t : Addr) (L : List Nat) => t ≠ x ∧ H t = none ∧ H' t = some (.lst (natW (ownA qs L)))) us (Ls.take i) ∧ Same H H') ⟨[], _, _, _, rfl, upd_same, .nil, s0⟩ (fun i σ' H' _ inv => ?_) (fun i y σ' H' hx inv => ?_) fun σ' H1 inv => ?_⟩
    · obtain ⟨us, z3, z4, z5, _, _, _, sm⟩ := inv
      exact .inl (.inl (sm _ _ hla1))
    · obtain ⟨us, z3, z4, z5, rfl, e1, pu, sm⟩ := inv
      obtain ⟨t, hti, rfl⟩ := ratW hx
      obtain ⟨L, hLi, ht⟩ := patW hla2 hti
      have hLm := List.mem_of_getElem? hLi
      obtain ⟨l4, lq⟩ := hlo.2 L hLm
      have ht' := sm _ _ ht
      walk_at "rd"
      intro y hy
      have s2 : Same H' (upd H' y (.lst [])) := UL.Same.new hy
      refine lenL (.inl (.inl (s2 _ _ ht'))) ⟨_, rfl, by omega, by rw [List.length_map]; omega, ?_⟩
      refine FJ.rangeI (fun j σ' H3 => ∃ (y : Addr) (z5 : Option V), σ' = [some (.ref r), some (.ref la), some (.ref x), some (.ref t), some (.ref y), z5, none, none] ∧ y ≠ x ∧ H y = none ∧ H3 y = some (.lst (natW (ownOf qs L j))) ∧ Same H' H3) (by omega) ⟨y, _, rfl, Ne.symm (ne_of_none e1 hy), Same.free sm hy, upd_same, s2⟩ (fun j σ' H3 hj inv => ?_) fun σ' H3 inv => ?_
      · obtain ⟨y, z5, rfl, nyx, yn, ey, s3⟩ := inv
        rw [List.length_map] at hj
        have hjl : j < L.length := by omega
        have hv : L[j]? = some L[j] := List.getElem?_eq_getElem hjl
        generalize L[j] = v at hv
        have hvq := lq v (List.mem_of_getElem? hv)
        have sm3 := Same.tr sm s3
        have hq3 := hq.same sm3
        have e0 : (qs.map fun q => V.ref q.r)[v]? = some (V.ref qs[v].r) := by rw [List.getElem?_map, List.getElem?_eq_getElem hvq]; rfl
        have qm := List.getElem_mem hvq
        have g1 := hq3.2 qs[v] qm
        have en : ownOf qs L (j + 1) = ownOf qs L j ++ List.replicate qs[v].rs.length j := by
          unfold ownOf
          rw [List.range_succ, List.flatMap_append, hrk _ qm]
          simp [hv, stepsN, List.getElem?_eq_getElem hvq]
        have q4 := hq4 _ qm
        rw [← hrk _ qm] at q4
        generalize qs[v] = q0 at e0 g1 en q4
        have ln : ∀ m, (ownOf qs L m).length ≤ 4 * m := fun m => by
          induction m with
          | zero => exact Nat.zero_le _
          | succ m ih =>
            have e : ownOf qs L (m + 1) = ownOf qs L m ++ List.replicate (stepsN qs (L[m]?.getD 0)) m := by unfold ownOf; rw [List.range_succ, List.flatMap_append]; simp
            rw [e, List.length_append, List.length_replicate]
            have : stepsN qs (L[m]?.getD 0) ≤ 4 := by
              unfold stepsN
              cases hu : qs[L[m]?.getD 0]? with
              | none => exact Nat.zero_le _
              | some q0 => exact hq4 q0 (List.mem_of_getElem? hu)
            omega
        have l1 := ln j
        walk_at "rd"
        refine ixL (.inl (.inl (s3 _ _ ht'))) (atN (by rw [List.getElem?_map, hv]; rfl)) (ixL (.inl (.inl hq3.1)) (atN e0) (ixT (.inl (.inl g1.1)) (show atI _ ((1 : Nat) : Int) = some (V.ref q0.sl) from atN rfl) ⟨q0.sl, rfl, ⟨_, .inl (.inl g1.2.1)⟩, fun D hD => ?_⟩))
        refine LJ.it (walk_list (xs := q0.rs.map V.ref)) (fun m H7 => H7 D = some (.lst (natW (List.replicate m j))) ∧ Same H3 H7) ⟨upd_same, UL.Same.new hD⟩ (fun m H7 _ inv => .inl (.inl (inv.2 _ _ g1.2.1))) (fun m z H7 H8 hm inv yy => ?_) fun H7 inv => ?_
        · obtain ⟨rfl, hz⟩ := yy
          obtain ⟨eD, s7⟩ := inv
          rw [List.length_map] at hm
          refine ⟨rfl, ?_⟩
          walk_at "rd"
          refine ⟨_, eD, by rw [natW_len, List.length_replicate, sizeLine_eq]; omega, ?_, UL.Same.put s7 hD⟩
          rw [upd_same]
          unfold natW
          rw [← List.replicate_succ, List.replicate_succ', List.map_append]; rfl
        · obtain ⟨eD, s7⟩ := inv
          rw [List.length_map] at eD
          refine catL (s7 _ _ ey) eD (by rw [natW_len, natW_len, List.length_replicate, sizeLine_eq]; omega) fun p2 hp2 => ⟨p2, ⟨rfl, _, rfl⟩, Ne.symm (ne_of_none (s7 _ _ (s3 _ _ e1)) hp2), Same.free (Same.tr sm3 s7) hp2, ?_, Same.tr s3 (Same.tr s7 (UL.Same.new hp2))⟩
          rw [upd_same, en]
          unfold natW
          rw [List.map_append]
      · obtain ⟨y, z5, rfl, nyx, yn, ey, s3⟩ := inv
        rw [List.length_map, Int.toNat_natCast] at ey
        walk_at "rd"
        have lus := plenW pu
        have il : i < Ls.length := (List.getElem?_eq_some_iff.mp hLi).1
        rw [List.length_take] at lus
        have e13 := s3 _ _ e1
        refine ⟨.inl ⟨rfl, _, .inl (.inl e13)⟩, x, _, _, rfl, rfl, e13, by rw [List.length_map, sizeLine_eq]; omega, ⟨_, rfl⟩, us ++ [y], by rw [upd_same, List.map_append]; rfl, ?_, ?_⟩
        · rw [List.take_add_one, hLi]
          exact pappW (L2.Paired.mapP pu fun _ _ g => ⟨g.1, g.2.1, (upd_ne g.1).trans (s3 _ _ g.2.2)⟩) (.cons ⟨nyx, yn, (upd_ne nyx).trans ey⟩ .nil)
        · exact fun b o e => (upd_ne (ne_of_none e hx0)).trans (s3 _ _ (sm _ _ e))
    · obtain ⟨us, z3, z4, z5, rfl, e1, pu, sm⟩ := inv
      rw [List.length_map, llt, List.take_length] at pu
      walk_at "rd"
      refine q x H1 hx0 (fun G hG => ⟨us, hG _ _ hx0 e1, ?_⟩) sm
      exact paired_mapL pu fun t L g => hG _ _ g.2.1 g.2.2
theorem plO1_succ {lane : Nat} {us : List Nat} {m x y : Nat} (hx : us[m]? = some x) (hy : us[m + 1]? = some y) : plO1 lane us (m + 1) = plO1 lane us m ++ (if x = y then [(lane, m + 1)] else []) := by
  unfold plO1
  rw [List.range_succ, List.filterMap_append]
  by_cases c : x = y
  · rw [if_pos c]; simp [hx, hy, c]
  · rw [if_neg c]; simp [hx, hy, c]
theorem plO1_len {lane : Nat} {us : List Nat} {m : Nat} : (plO1 lane us m).length ≤ m := by
  unfold plO1
  exact Nat.le_trans (List.length_filterMap_le _ _) (by rw [List.length_range]; exact Nat.le_refl _)
theorem plO_succ {O : List (List Nat)} {i : Nat} {us : List Nat} (h : O[i]? = some us) : plO O (i + 1) = plO O i ++ plO1 i us (us.length - 1) := by
  unfold plO
  rw [List.range_succ, List.flatMap_append]
  simp [h]
theorem plO_len {O : List (List Nat)} (h : ∀ us ∈ O, us.length ≤ 100) : ∀ i, (plO O i).length ≤ 100 * i
  | 0 => Nat.zero_le _
  | i + 1 => by
    have ih := plO_len h i
    cases e : O[i]? with
    | none =>
      have e2 : plO O (i + 1) = plO O i := by unfold plO; rw [List.range_succ, List.flatMap_append]; simp [e]
      rw [e2]; omega
    | some us =>
      have h1 := h us (List.mem_of_getElem? e)
      have h2 := plO1_len (lane := i) (us := us) (m := us.length - 1)
      rw [plO_succ e, List.length_append]
      omega
abbrev s__law_places : Stmt := top 66
abbrev sc__law_places_N : List Str := ["_law_owners_here", "_law_places_here", "_law_lane", "_law_k"]
theorem sc__law_places : FnScope sc__law_places_N ["_law_owners_here"] (defScope s__law_places) := ⟨rfl, rfl, rfl, by decide +kernel, rfl, by decide +kernel, by decide +kernel⟩
-- 0 _law_owners_here, 1 _law_places_here, 2 _law_lane, 3 _law_k
def sp_lplaces : Sp := fun vs H Q _ => ∃ (a : Addr) (O : List (List Nat)), vs = [.ref a] ∧ OwnH H a O ∧ O.length ≤ 3 ∧ (∀ us ∈ O, us.length ≤ 100) ∧ ∀ l ts H', H l = none → NewP H H' (fun G => G l = some (.lst (ts.map V.ref)) ∧ PlcH G ts (plO O O.length)) → Same H H' → Q (.ref l) H'
theorem d_lplaces (T : Nm mg) (D : TD K mg "_law_places" s__law_places) : Dn P w K mg base CX0 1 "_law_places" sp_lplaces := by
  refine D.dn sc__law_places (fun _ _ _ _ _ _ us hl => match us, hl with | [_], _ => rfl) (fun vs H Q E h => ?_) (fun f cdv A outer s H vs Q E hr h => ?_)
  · obtain ⟨a, O, rfl, _⟩ := h; rfl
  · obtain ⟨a, O, rfl, ⟨os, ha, hos⟩, h3, hU, q⟩ := h
    have lo := plenW hos
    refine ⟨_, (pss_cons (ps_set (i := 1) sc__law_places.nd rfl (Or.inl rfl) (pe_lst pa_nil))
      (pss_cons (ps_for PassesOwn.never rfl (pi_range1 (by rfl) T.n_range (pa_cons (pe_callB call_lenA (by rfl) T.n_len (by decide +kernel) (pa_cons (pv 0) pa_nil)) pa_nil)) (pg_name (i := 2) sc__law_places.nd rfl (Or.inl rfl)) (pss_one (ps_for PassesOwn.never rfl (pi_range2 (by rfl) T.n_range (pa_cons pe_int (pa_cons (pe_callB call_lenA (by rfl) T.n_len (by decide +kernel) (pa_cons (pe_ix ix_seq (pv 0) (pv 2) (fun _ _ => rfl)) pa_nil)) pa_nil))) (pg_name (i := 3) sc__law_places.nd rfl (Or.inl rfl)) (pss_one (ps_if (pt_cmpR (op_eqA (hr.units)) (pe_ix ix_seq (pe_ix ix_seq (pv 0) (pv 2) (fun _ _ => rfl)) (pe_op op_subA (pv 3) pe_int) (fun _ _ => rfl)) (pe_ix ix_seq (pe_ix ix_seq (pv 0) (pv 2) (fun _ _ => rfl)) (pv 3) (fun _ _ => rfl)) (nomark _)) (pss_one (ps_expr (pe_bm PySem.F.plainAttrs_list PySem.F.slot_list_append PySem.F.type_list_append mt_append (pv 1) (pa_cons (pe_tup (pa_cons (pv 2) (pa_cons (pv 3) pa_nil))) pa_nil)))) pss_nil)))))
      (pss_one (ps_ret (pv 1))))), ?_⟩
    walk_at "rd"
    intro l hl0
    have s0 : Same H (upd H l (.lst [])) := UL.Same.new hl0
    refine lenL (.inl (.inl (s0 _ _ ha))) ⟨_, rfl, by omega, by rw [List.length_map]; omega, FJ.rangeI (fun i σ' H' => ∃ (ts : List Addr) (z2 z3 : Option V), σ' = [some (.ref a), some (.ref l), z2, z3] ∧ H' l = some (.lst (ts.map V.ref)) ∧ Paired (fun t p => H t = none ∧ H' t = some (.tup [.int ((p : Nat × Nat).1 : Nat), .int (p.2 : Nat)])) ts (plO O i) ∧ Same H H') (by omega) ⟨[], _, _, rfl, upd_same, .nil, s0⟩ (fun i σ' H' hi inv => ?_) fun σ' H' inv => ?_⟩
    · obtain ⟨ts, z2, z3, rfl, el, hts, sm⟩ := inv
      rw [List.length_map] at hi
      obtain ⟨us, hus⟩ : ∃ us, O[i]? = some us := ⟨O[i]'(by omega), List.getElem?_eq_getElem (by omega)⟩
      obtain ⟨t, ht, het⟩ := pairedR3 hos hus
      have u100 := hU us (List.mem_of_getElem? hus)
      walk_at "rd"
      simp only [iRng2]
      walk_at "rd"
      have pl := plO_len hU i
      have ao : atI (os.map V.ref) ((i : Nat) : Int) = some (V.ref t) := atN (by rw [List.getElem?_map, ht]; rfl)
      refine ixL (.inl (.inl (sm _ _ ha))) ao (lenL (.inl (.inl (sm _ _ het))) ⟨1, _, ⟨rfl, rfl⟩, ⟨by decide, by decide, by omega, by rw [natW_len]; omega⟩, ?_⟩)
      have en : (((natW us).length : Int) - 1).toNat = us.length - 1 := by rw [natW_len]; omega
      rw [en]
      refine FJ.range (fun m σ' H3 => ∃ (rs : List Addr) (z4 : Option V), σ' = [some (.ref a), some (.ref l), some (.int (i : Nat)), z4] ∧ H3 l = some (.lst (rs.map V.ref)) ∧ Paired (fun t p => H t = none ∧ H3 t = some (.tup [.int ((p : Nat × Nat).1 : Nat), .int (p.2 : Nat)])) rs (plO O i ++ plO1 i us m) ∧ Same H H3) ⟨ts, _, rfl, el, by simpa [plO1] using hts, sm⟩ (fun m σ' H3 hm inv => ?_) fun σ' H3 inv => ?_
      · obtain ⟨rs, z4, rfl, e3, hrs, s3⟩ := inv
        have m1 : m < us.length := by omega
        have m2 : m + 1 < us.length := by omega
        have h1 := List.getElem?_eq_getElem m1
        have h2 := List.getElem?_eq_getElem m2
        generalize us[m] = x1 at h1
        generalize us[m + 1] = x2 at h2
        have i1 : (1 : Int) + m - 1 = (m : Nat) := by omega
        have i2 : (1 : Int) + m = ((m + 1 : Nat) : Int) := by omega
        have lq := plenW hrs
        rw [List.length_append] at lq
        have pm := plO1_len (lane := i) (us := us) (m := m)
        have es := plO1_succ (lane := i) h1 h2
        walk_at "rd"
        rw [i1, i2]
        refine ixL (.inl (.inl (s3 _ _ ha))) ao (ixL (.inl (.inl (s3 _ _ het))) (atN (natW_at h1)) (ixL (.inl (.inl (s3 _ _ ha))) ao (ixL (.inl (.inl (s3 _ _ het))) (atN (natW_at h2)) (eqII.mpr ⟨_, rfl, ?_⟩))))
        by_cases c : x1 = x2
        · rw [if_pos (by simp [c])]
          rw [if_pos c] at es
          refine ⟨.inl ⟨rfl, _, .inl (.inl e3)⟩, by rw [sizeLine_eq]; decide, fun p hp => ?_⟩
          have s4 : Same H3 (upd H3 p (.tup [.int (i : Nat), .int ((m + 1 : Nat) : Int)])) := UL.Same.new hp
          have ep : upd H3 p (.tup [.int (i : Nat), .int ((m + 1 : Nat) : Int)]) p = some (.tup [.int (i : Nat), .int ((m + 1 : Nat) : Int)]) := upd_same
          generalize upd H3 p (.tup [.int (i : Nat), .int ((m + 1 : Nat) : Int)]) = H4 at s4 ep ⊢
          have e4 := s4 _ _ e3
          have kt : ∀ {b : Addr} {xs : List V} {o : HO}, H4 b = some (.tup xs) → upd H4 l o b = some (.tup xs) := fun e => (upd_ne (ne_of e e4 fun z => nomatch z)).trans e
          refine ⟨l, _, _, rfl, rfl, e4, by rw [List.length_map, sizeLine_eq]; omega, rs ++ [p], by rw [upd_same, List.map_append]; rfl, ?_, fun b o e => (upd_ne (ne_of_none e hl0)).trans (s4 _ _ (s3 _ _ e))⟩
          rw [es, ← List.append_assoc]
          exact pappW (L2.Paired.mapP hrs fun _ _ g => ⟨g.1, kt (s4 _ _ g.2)⟩) (.cons ⟨Same.free s3 hp, kt ep⟩ .nil)
        · rw [if_neg (by simp; omega)]
          rw [if_neg c, List.append_nil] at es
          rw [es]
          exact ⟨rs, e3, hrs, s3⟩
      · obtain ⟨rs, z4, rfl, e3, hrs, s3⟩ := inv
        rw [← plO_succ hus] at hrs
        exact ⟨⟨_, _, rfl⟩, rs, e3, hrs, s3⟩
    · obtain ⟨ts, z2, z3, rfl, el, hts, sm⟩ := inv
      rw [List.length_map, Int.toNat_natCast, lo] at hts
      walk_at "rd"
      exact q l ts H' hl0 (fun G hG => ⟨hG _ _ hl0 el, L2.Paired.mapP hts fun _ _ g => hG _ _ g.1 g.2⟩) sm
abbrev s__law_opened : Stmt := top 67
abbrev sc__law_opened_N : List Str := ["_law_places_here", "_law_weaving_here", "_law_count", "_law_spots", "_law_lane", "_law_opened_here", "_law_place", ".0", "_law_at"]
theorem sc__law_opened : FnScope sc__law_opened_N ["_law_places_here", "_law_weaving_here", "_law_count"] (defScope s__law_opened) := ⟨rfl, rfl, rfl, by decide +kernel, rfl, by decide +kernel, by decide +kernel⟩
-- 0 _law_places_here, 1 _law_weaving_here, 2 _law_count, 3 _law_spots, 4 _law_lane, 5 _law_opened_here, 6 _law_place, 7 .0, 8 _law_at
def sp_lopened : Sp := fun vs H Q _ => ∃ (l w : Addr) (ts : List Addr) (ps : List (Nat × Nat)) (wv : List Nat) (n : Nat), vs = [.ref l, .ref w, .int (n : Nat)] ∧ H l = some (.lst (ts.map V.ref)) ∧ PlcH H ts ps ∧ H w = some (.lst ((nI wv).map V.int)) ∧ wv.length ≤ 8 ∧ n ≤ 3 ∧ ps.length ≤ 1000 ∧ (∀ p ∈ ps, p.1 < n ∧ 1 ≤ p.2 ∧ p.2 < wv.count p.1) ∧
  ∀ d us H', H d = none → H' d = some (.lst (us.map V.ref)) → PlcH H' us (ps.filter (opnN wv)) → Same H H' → Q (.ref d) H'
theorem atN'_asc {wv : List Nat} {l : Nat} : ∀ m, (atN' wv l m).Pairwise (· < ·) := fun m => (List.pairwise_lt_range (n := m)).filter _
theorem opnN_ne {wv : List Nat} {p : Nat × Nat} {x y : Nat} (h1 : 1 ≤ p.2) (hx : (atA wv p.1)[p.2]? = some x) (hy : (atA wv p.1)[p.2 - 1]? = some y) : opnN wv p = decide (x ≠ y + 1) := by
  unfold opnN
  rw [hx, hy]
  show decide (y + 1 < x) = _
  have := List.pairwise_iff_getElem.mp (atN'_asc (wv := wv) (l := p.1) wv.length) (p.2 - 1) p.2 (List.getElem?_eq_some_iff.mp hy).1 (List.getElem?_eq_some_iff.mp hx).1 (by omega)
  rw [(List.getElem?_eq_some_iff.mp hx).2, (List.getElem?_eq_some_iff.mp hy).2] at this
  exact decide_eq_decide.mpr (by omega)
theorem d_lopened (T : Nm mg) (D : TD K mg "_law_opened" s__law_opened) : Dn P w K mg base CX0 1 "_law_opened" sp_lopened := by
  refine D.dn sc__law_opened (fun _ _ _ _ _ _ us hl => match us, hl with | [_, _, _], _ => rfl) (fun vs H Q E h => ?_) (fun f cdv A outer s H vs Q E hr h => ?_)
  · obtain ⟨l, w, ts, ps, wv, n, rfl, _⟩ := h; rfl
  · obtain ⟨l, w, ts, ps, wv, n, rfl, hl, hps, hw, w8, n3, p1000, hp, q⟩ := h
    refine ⟨_, (pss_cons (ps_set (i := 3) sc__law_opened.nd rfl (Or.inl rfl) (pe_lst pa_nil))
      (pss_cons (ps_for PassesOwn.never rfl (pi_range1 (by rfl) T.n_range (pa_cons (pv 2) pa_nil)) (pg_name (i := 4) sc__law_opened.nd rfl (Or.inr rfl)) (pss_one (ps_expr (pe_bm PySem.F.plainAttrs_list PySem.F.slot_list_append PySem.F.type_list_append mt_append (pv 3) (pa_cons (pe_lc (own := [(".0", 7), ("_law_at", 8)]) (g := (gName 8)) (tt := _) rfl sc__law_opened.nd (pi_range1 (by rfl) T.n_range (pa_cons (pe_callB (call_lenK K rfl) (by rfl) T.n_len (by decide +kernel) (pa_cons (pv 1) pa_nil)) pa_nil)) (blkOk_by (N := sc__law_opened_N) (sc := defScope s__law_opened) (by decide +kernel)) (fun _ _ _ _ _ => pg_name (i := 8) sc__law_opened.nd rfl (Or.inl rfl)) (fun _ _ _ _ _ => pts_one (pt_cmpR (op_eqK K rfl (hr.units)) (pe_ix (ix_seqK K rfl) (pv 1) (pv 8) (fun _ _ => rfl)) (pv 4) (nomark _))) (fun _ _ _ _ _ => (pv 8))) pa_nil)))))
      (pss_cons (ps_set (i := 5) sc__law_opened.nd rfl (Or.inl rfl) (pe_lst pa_nil))
      (pss_cons (ps_for PassesOwn.never rfl (pi_list (pv 0)) (pg_name (i := 6) sc__law_opened.nd rfl (Or.inl rfl)) (pss_one (ps_if (pt_cmpR (op_neA (hr.units)) (pe_ix ix_seq (pe_ix ix_seq (pv 3) (pe_ix ix_seq (pv 6) pe_int (fun _ _ => rfl)) (fun _ _ => rfl)) (pe_ix ix_seq (pv 6) pe_int (fun _ _ => rfl)) (fun _ _ => rfl)) (pe_op op_addA (pe_ix ix_seq (pe_ix ix_seq (pv 3) (pe_ix ix_seq (pv 6) pe_int (fun _ _ => rfl)) (fun _ _ => rfl)) (pe_op op_subA (pe_ix ix_seq (pv 6) pe_int (fun _ _ => rfl)) pe_int) (fun _ _ => rfl)) pe_int) (nomark _)) (pss_one (ps_expr (pe_bm PySem.F.plainAttrs_list PySem.F.slot_list_append PySem.F.type_list_append mt_append (pv 5) (pa_cons (pv 6) pa_nil)))) pss_nil)))
      (pss_one (ps_ret (pv 5))))))), ?_⟩
    walk_at "rd"
    have lts := plenW hps
    intro x hx0
    have s0 : Same H (upd H x (.lst [])) := UL.Same.new hx0
    refine ⟨by omega, by omega, FJ.rangeI (fun i σ' H' => ∃ (us : List Addr) (z4 : Option V), σ' = [some (.ref l), some (.ref w), some (.int (n : Nat)), some (.ref x), z4, none, none, none, none] ∧ H' x = some (.lst (us.map V.ref)) ∧ Paired (fun t j => t ≠ x ∧ H' t = some (.lst (natW (atA wv j)))) us (List.range i) ∧ Same H H') (by omega) ⟨[], _, rfl, upd_same, .nil, s0⟩ (fun i σ' H' hi inv => ?_) fun σ' H1 inv => ?_⟩
    · obtain ⟨us, z4, rfl, ex, pu, sm⟩ := inv
      have lus := plenW pu
      rw [List.length_range] at lus
      walk_at "rd"
      refine ⟨.inl ⟨rfl, _, .inl (.inl ex)⟩, lenL (.inl (.inl (sm _ _ hw))) ⟨_, rfl, by omega, by rw [nI_len]; omega, fun D hD => ?_⟩⟩
      have Dx : D ≠ x := Ne.symm (ne_of_none ex hD)
      refine LJ.it walk_range (fun j H7 => H7 D = some (.lst (natW (atN' wv i j))) ∧ Same H' H7) ⟨upd_same, UL.Same.new hD⟩ (fun _ _ _ _ => trivial) (fun j z H7 H8 hj inv yy => ?_) fun H7 inv => ?_
      · obtain ⟨rfl, hz⟩ := yy
        obtain ⟨eD, s7⟩ := inv
        refine ⟨rfl, ?_⟩
        walk_at "rd"
        obtain rfl : z = V.int ((j : Nat) : Int) := by simpa using hz
        rw [nI_len] at hj
        have hjl : j < wv.length := by omega
        have hy := List.getElem?_eq_getElem hjl
        generalize wv[j] = y at hy
        have ea := atN'_succ (lane := i) hy
        have lx := atN'_len (wv := wv) (lane := i) j (by omega)
        have lc := Nat.le_trans (List.count_le_length (a := i) (l := wv.take j)) (by rw [List.length_take]; exact Nat.min_le_right _ _)
        have ay : ((nI wv).map V.int)[j]? = some (V.int (y : Nat)) := by unfold nI; rw [List.map_map, List.getElem?_map, hy]; rfl
        refine ixL (.inl (.inl (s7 _ _ (sm _ _ hw)))) (atN ay) (eqII.mpr ⟨_, rfl, ?_⟩)
        by_cases c : y = i
        · rw [if_pos (by simp [c])]
          rw [if_pos c] at ea
          refine ⟨_, eD, by rw [natW_len, sizeLine_eq]; omega, ?_, UL.Same.put s7 hD⟩
          rw [upd_same, ea]
          unfold natW
          rw [List.map_append]; rfl
        · rw [if_neg (by simp; omega)]
          rw [if_neg c, List.append_nil] at ea
          rw [ea]
          exact ⟨eD, s7⟩
      · obtain ⟨eD, s7⟩ := inv
        rw [nI_len, Int.toNat_natCast] at eD
        have ex7 := s7 _ _ ex
        refine ⟨x, _, _, rfl, rfl, ex7, by rw [List.length_map, sizeLine_eq]; omega, us ++ [D], by rw [upd_same, List.map_append]; rfl, ?_, fun b o e => (upd_ne (ne_of_none e hx0)).trans (s7 _ _ (sm _ _ e))⟩
        rw [List.range_succ]
        exact pappW (L2.Paired.mapP pu fun _ _ g => ⟨g.1, (upd_ne g.1).trans (s7 _ _ g.2)⟩) (.cons ⟨Dx, (upd_ne Dx).trans eD⟩ .nil)
    · obtain ⟨us, z4, rfl, ex, pu, sm⟩ := inv
      rw [Int.toNat_natCast] at pu
      walk_at "rd"
      intro d hd
      have s1 : Same H1 (upd H1 d (.lst [])) := UL.Same.new hd
      refine ⟨⟨_, .inl (.inl (s1 _ _ (sm _ _ hl)))⟩, FJ.list (xs := ts.map V.ref) (fun i σ' H' => ∃ (vs : List Addr) (z6 : Option V), σ' = [some (.ref l), some (.ref w), some (.int (n : Nat)), some (.ref x), z4, some (.ref d), z6, none, none] ∧ H' d = some (.lst (vs.map V.ref)) ∧ PlcH H' vs ((ps.take i).filter (opnN wv)) ∧ vs.length ≤ i ∧ Same H1 H') ⟨[], _, rfl, upd_same, .nil, Nat.le_refl _, s1⟩ (fun i σ' H' _ inv => ?_) (fun i y σ' H' hy inv => ?_) fun σ' H' inv => ?_⟩
      · obtain ⟨_, _, _, _, _, _, s⟩ := inv
        exact .inl (.inl (s _ _ (sm _ _ hl)))
      · obtain ⟨vs, z6, rfl, ed, hvs, vl, s2⟩ := inv
        obtain ⟨t, ht, rfl⟩ := ratW hy
        obtain ⟨p0, hp0, et⟩ := patW hps ht
        obtain ⟨b1, b2, b3⟩ := hp p0 (List.mem_of_getElem? hp0)
        have la := atA_len (wv := wv) (lane := p0.1)
        obtain ⟨xx, hxx⟩ : ∃ xx, (atA wv p0.1)[p0.2]? = some xx := ⟨_, List.getElem?_eq_getElem (by omega)⟩
        obtain ⟨yy, hyy⟩ : ∃ yy, (atA wv p0.1)[p0.2 - 1]? = some yy := ⟨_, List.getElem?_eq_getElem (by omega)⟩
        have eo := opnN_ne b2 hxx hyy
        obtain ⟨u, hu, _, eu⟩ := pairedR3 pu (show (List.range n)[p0.1]? = some p0.1 from List.getElem?_range b1)
        have il := (List.getElem?_eq_some_iff.mp ht).1
        have et' := s2 _ _ (sm _ _ et)
        have ex' := s2 _ _ ex
        have eu' := s2 _ _ eu
        have at0 : atI [V.int (p0.1 : Nat), V.int (p0.2 : Nat)] 0 = some (V.int (p0.1 : Nat)) := show atI _ ((0 : Nat) : Int) = _ from atN rfl
        have at1 : atI [V.int (p0.1 : Nat), V.int (p0.2 : Nat)] 1 = some (V.int (p0.2 : Nat)) := show atI _ ((1 : Nat) : Int) = _ from atN rfl
        have au : atI (us.map V.ref) ((p0.1 : Nat) : Int) = some (V.ref u) := atN (by rw [List.getElem?_map, hu]; rfl)
        have i1 : ((p0.2 : Nat) : Int) - 1 = ((p0.2 - 1 : Nat) : Int) := by omega
        walk_at "rd"
        refine ixT (.inl (.inl et')) at0 (ixL (.inl (.inl ex')) au (ixT (.inl (.inl et')) at1 (ixL (.inl (.inl eu')) (atN (natW_at hxx)) (ixT (.inl (.inl et')) at0 (ixL (.inl (.inl ex')) au (ixT (.inl (.inl et')) at1 ⟨_, rfl, ?_⟩))))))
        rw [i1]
        refine ixL (.inl (.inl eu')) (atN (natW_at hyy)) (addII.mpr (neII.mpr ⟨_, rfl, ?_⟩))
        have etk : (ps.take (i + 1)).filter (opnN wv) = (ps.take i).filter (opnN wv) ++ if opnN wv p0 = true then [p0] else [] := by
          rw [List.take_add_one, hp0, List.filter_append]
          congr 1
          by_cases c : opnN wv p0 = true <;> simp [c]
        by_cases c : xx = yy + 1
        · rw [if_neg (by simp [c])]
          rw [eo, if_neg (by simp [c]), List.append_nil] at etk
          rw [etk]
          exact ⟨vs, ed, hvs, by omega, s2⟩
        · rw [if_pos (by simp; omega)]
          rw [eo, if_pos (by simp [c])] at etk
          refine ⟨.inl ⟨rfl, _, .inl (.inl ed)⟩, d, _, _, rfl, rfl, ed, by rw [List.length_map, sizeLine_eq]; omega, vs ++ [t], by rw [upd_same, List.map_append]; rfl, ?_, by rw [List.length_append]; exact Nat.succ_le_succ vl, UL.Same.put s2 hd⟩
          rw [etk]
          exact pappW (hvs.put ed) (PlcH.put (.cons et' .nil) ed)
      · obtain ⟨vs, z6, rfl, ed, hvs, vl, s2⟩ := inv
        rw [List.length_map, lts, List.take_length] at hvs
        walk_at "rd"
        exact q d vs H' (Same.free sm hd) ed hvs (Same.tr sm s2)
end
end U
set_option Elab.async false
set_option linter.all false
set_option maxRecDepth 100000
set_option maxHeartbeats 4000000
set_option pp.deepTerms true
set_option pp.maxSteps 400000
namespace U
open PySem PySem.Spec PyProof.Rows L2 UL UX
local macro_rules | `(tactic| walk_at "rd") => `(tactic| simp only [sMatch, tJs, tFmt, tBC, tMethA, tMakeL, iEnumS, tSeq, tAsg, tOp, tCB, tCons, tNil, tVar, tC, tB, tTest, tNot, tIfS, tNext, tYes, tUn, rU, tM0, tGFrom, tGThen, tG0, tYfLst, gcxK, tSubO, tProp, tListG, tMethG, tBMF, tFld, sFld, tMeth, tMake, tSl, tNoPart, tPart, tM1, gTup, gCons, gNil, tDrop, tFor_eq, tLc_eq, tLc2_eq, iRng1_eq, StX.tStar, iList, iTup, iStr, iAny_var, iZipB, tLenSetS, wipe, tVar, tAndV, tOrV, tNotV, tOr, tAnd, tLst, tTup, tBM, tBM0, tChain, tCall, cxK, noxK, addII, addSS, mulII, eqII, neII, neSS, cIntI, cAbsI, rI, rI0, rLt, rLe, rGt_, rGe_, rSub_, rMod, rPow, rDivW, rNeg, gName, tRet, L2.start, List.length_cons, List.length_nil, List.map_cons, List.map_nil, List.replicate, List.cons_append, List.nil_append, List.getElem?_cons_zero, List.getElem?_cons_succ, List.set_cons_zero, List.set_cons_succ, Option.some.injEq, exists_eq_left', exists_eq_left, V.int.injEq, V.bl.injEq, V.str.injEq, V.ref.injEq, V.ty.injEq, List.cons.injEq, and_true, true_and, reduceCtorEq, false_and, exists_false, or_false, false_or, exists_and_left, exists_and_right, List.append_nil, forall_eq, decide_eq_true_eq, Bool.not_eq_true, Nat.reduceAdd, Nat.reduceSub, List.replicate_zero, List.replicate_succ, Nat.zero_le, ite_true, ite_false, if_true, if_false])
section
variable {P : Program} {w : World} {K : PySem.W.Frag} {mg : Str → Option Value} {base : Heap}
open UV UW NdefX ClX
variable {R Wr B Pg Sy IC UC IS UP IP C Tu Wv TSx Ss : Addr}
/-! the serial order, step by step -/
abbrev s__law_serial : Stmt := top 68
abbrev sc__law_serial_N : List Str := ["_law_owners_here", "_law_weaving_here", "_law_done", "_law_before", "_law_finished", "_law_lane", "_law_owner", "_law_rest", ".0", "_law_row"]
theorem sc__law_serial : FnScope sc__law_serial_N ["_law_owners_here", "_law_weaving_here"] (defScope s__law_serial) := ⟨rfl, rfl, rfl, by decide +kernel, rfl, by decide +kernel, by decide +kernel⟩
-- 0 _law_owners_here, 1 _law_weaving_here, 2 _law_done, 3 _law_before, 4 _law_finished, 5 _law_lane, 6 _law_owner, 7 _law_rest, 8 .0, 9 _law_row
def SerH (O : List (List Nat)) (wv : List Nat) (H : Hp) (i : Nat) (bf fn : V) : Prop := (i = 0 ∧ bf = .non ∧ fn = .bl true) ∨ ∃ j t l k, i = j + 1 ∧ bf = .ref t ∧ H t = some (.tup [.int ((l : Nat) : Nat), .int ((k : Nat) : Nat)]) ∧ ownAt O wv j = some (l, k) ∧ fn = .bl (finAt O wv j)
theorem SerH.same {O : List (List Nat)} {wv : List Nat} {H H' : Hp} {i : Nat} {bf fn : V} (h : SerH O wv H i bf fn) (s : Same H H') : SerH O wv H' i bf fn := h.imp (fun h => h) fun ⟨j, t, l, k, h1, h2, h3, h4⟩ => ⟨j, t, l, k, h1, h2, s _ _ h3, h4⟩
def sp_lserial : Sp := fun vs H Q _ => ∃ (a w : Addr) (O : List (List Nat)) (wv : List Nat), vs = [.ref a, .ref w] ∧ OwnH H a O ∧ O.length ≤ 3 ∧ (∀ us ∈ O, us.length ≤ 100) ∧ H w = some (.lst ((nI wv).map V.int)) ∧ wv.length ≤ 8 ∧ OkN (O.map List.length) wv ∧ ∀ H', Same H H' → Q (.bl (serB O wv wv.length)) H'
theorem serB_no {O : List (List Nat)} {wv : List Nat} {i : Nat} (hi : i < wv.length) (h : badS O wv i = true) : serB O wv wv.length = false := by
  unfold serB
  rw [List.all_eq_false]
  exact ⟨i, List.mem_range.mpr hi, by rw [h]; decide⟩
theorem serB_yes {O : List (List Nat)} {wv : List Nat} (h : ∀ i, i < wv.length → badS O wv i = false) : serB O wv wv.length = true := by
  unfold serB
  rw [List.all_eq_true]
  exact fun i hi => by rw [h i (List.mem_range.mp hi)]; rfl
theorem d_lserial (T : Nm mg) (D : TD K mg "_law_serial" s__law_serial) : Dn P w K mg base CX0 1 "_law_serial" sp_lserial := by
  refine D.dn sc__law_serial (fun _ _ _ _ _ _ us hl => match us, hl with | [_, _], _ => rfl) (fun vs H Q E h => ?_) (fun f cdv A outer s H vs Q E hr h => ?_)
  · obtain ⟨a, w, O, wv, rfl, _⟩ := h; rfl
  · obtain ⟨a, w, O, wv, rfl, ⟨os, ha, hos⟩, h3, hU, hw, w8, hok, q⟩ := h
    have lo := plenW hos
    refine ⟨_, (pss_cons (ps_setLc (i := 2) (own := [(".0", 8), ("_law_row", 9)]) (g := (gName 9)) (tt := tYes) rfl sc__law_serial.nd rfl rfl (sw_true rfl rfl rfl (by decide +kernel)) (pi_list (pv 0)) (blkOk_by (N := sc__law_serial_N) (sc := defScope s__law_serial) (by decide +kernel)) (fun _ _ _ _ _ => pg_name (i := 9) sc__law_serial.nd rfl (Or.inl rfl)) (fun _ _ _ _ _ => pts_nil) (fun _ _ _ _ _ => pe_int))
      (pss_cons (ps_set (i := 3) sc__law_serial.nd rfl (Or.inl rfl) pe_non)
      (pss_cons (ps_set (i := 4) sc__law_serial.nd rfl (Or.inl rfl) pe_bl)
      (pss_cons (ps_for PassesOwn.never rfl (pi_list (pv 1)) (pg_name (i := 5) sc__law_serial.nd rfl (Or.inl rfl)) (pss_cons (ps_set (i := 6) sc__law_serial.nd rfl (Or.inl rfl) (pe_tup (pa_cons (pv 5) (pa_cons (pe_ix ix_seq (pe_ix ix_seq (pv 0) (pv 5) (fun _ _ => rfl)) (pe_ix ix_seq (pv 2) (pv 5) (fun _ _ => rfl)) (fun _ _ => rfl)) pa_nil))))
      (pss_cons (ps_if (pw_and (pt_cmpR (op_neA (hr.units)) (pv 6) (pv 3) (nomark _)) (pw_and1 (pt_not (pt_val (pv 4))))).pt (pss_one (ps_ret pe_bl)) pss_nil)
      (pss_cons (ps_asg (pe_op op_addA (pe_ix ix_seq (pv 2) (pv 5) (fun _ _ => rfl)) pe_int) (pg_sub (pv 2) (pv 5) set_list))
      (pss_cons (ps_set (i := 7) sc__law_serial.nd rfl (Or.inl rfl) (pe_slice sl_list (pe_ix ix_seq (pv 0) (pv 5) (fun _ _ => rfl)) (po_some (pe_ix ix_seq (pv 2) (pv 5) (fun _ _ => rfl))) po_none))
      (pss_cons (ps_set (i := 4) sc__law_serial.nd rfl (Or.inl rfl) (pe_or (pe_cmpR (op_eqA (hr.units)) (pv 7) (pe_lst pa_nil) (nomark _)) (pe_one (pe_cmpR (op_neA (hr.units)) (pe_ix ix_seq (pv 7) pe_int (fun _ _ => rfl)) (pe_ix ix_seq (pv 6) pe_int (fun _ _ => rfl)) (nomark _)))))
      (pss_one (ps_set (i := 3) sc__law_serial.nd rfl (Or.inl rfl) (pv 6)))))))))
      (pss_one (ps_ret pe_bl)))))), ?_⟩
    walk_at "rd"
    refine ⟨⟨_, .inl (.inl ha)⟩, fun N hN => ?_⟩
    refine LJ.it (walk_list (xs := os.map V.ref)) (fun j H7 => H7 N = some (.lst (natW (List.replicate j 0))) ∧ Same H H7) ⟨upd_same, UL.Same.new hN⟩ (fun j H7 _ inv => .inl (.inl (inv.2 _ _ ha))) (fun j z H7 H8 hj inv yy => ?_) fun H1 inv => ?_
    · obtain ⟨rfl, hz⟩ := yy
      obtain ⟨eN, s8⟩ := inv
      rw [List.length_map] at hj
      refine ⟨rfl, ?_⟩
      walk_at "rd"
      refine ⟨_, eN, by rw [natW_len, List.length_replicate, sizeLine_eq]; omega, ?_, UL.Same.put s8 hN⟩
      rw [upd_same]
      unfold natW
      rw [← List.replicate_succ, List.replicate_succ', List.map_append]; rfl
    · obtain ⟨eN, s1⟩ := inv
      rw [List.length_map, lo] at eN
      refine ⟨⟨_, .inl (.inl (s1 _ _ hw))⟩, FJ.list (xs := (nI wv).map V.int) (fun i σ' H' => ∃ (bf fn : V) (z5 z6 z7 : Option V), σ' = [some (.ref a), some (.ref w), some (.ref N), some bf, some fn, z5, z6, z7, none, none] ∧ H' N = some (.lst (natW ((List.range O.length).map fun l => (wv.take i).count l))) ∧ SerH O wv H' i bf fn ∧ (∀ j, j < i → badS O wv j = false) ∧ Same H H') ⟨.non, .bl true, _, _, _, rfl, ?_, .inl ⟨rfl, rfl, rfl⟩, fun j h => (by omega), s1⟩ (fun i σ' H' _ inv => ?_) (fun i x σ' H' hx inv => ?_) fun σ' H' inv => ?_⟩
      · rw [eN]
        congr 2
        unfold natW
        congr 1
        refine List.ext_getElem? fun j => ?_
        by_cases c : j < O.length
        · rw [List.getElem?_replicate, if_pos c, List.getElem?_map, List.getElem?_range c]; rfl
        · rw [List.getElem?_eq_none (by rw [List.length_replicate]; omega), List.getElem?_eq_none (by rw [List.length_map, List.length_range]; omega)]
      · obtain ⟨_, _, _, _, _, _, _, _, _, s⟩ := inv
        exact .inl (.inl (s _ _ hw))
      · obtain ⟨bf, fn, z5, z6, z7, rfl, eN', hS, hbad, s1'⟩ := inv
        obtain ⟨l, hl', rfl⟩ := nI_at hx
        have il := (List.getElem?_eq_some_iff.mp hl').1
        obtain ⟨us, k, u1, u2, u3⟩ := ownAt_ok hok hl'
        obtain ⟨t, ht, het⟩ := pairedR3 hos u1
        have lT := (List.getElem?_eq_some_iff.mp u1).1
        have ul := (List.getElem?_eq_some_iff.mp u2).1
        have u100 := hU us (List.mem_of_getElem? u1)
        have etn : (natW ((List.range O.length).map fun l => (wv.take i).count l))[l]? = some (V.int ((wv.take i).count l : Nat)) := natW_at (by rw [List.getElem?_map, List.getElem?_range lT]; rfl)
        have ao : atI (os.map V.ref) ((l : Nat) : Int) = some (V.ref t) := atN (by rw [List.getElem?_map, ht]; rfl)
        have t3 : ∀ {a b : Nat}, [V.int (a : Nat), V.int (b : Nat)].all fl3 = true := fun {a b} => rfl
        refine UX.seq_cut2 (fun σ2 H2 => ∃ T1 : Addr, σ2 = [some (.ref a), some (.ref w), some (.ref N), some bf, some fn, some (.int (l : Nat)), some (.ref T1), z7, none, none] ∧ H2 T1 = some (.tup [.int (l : Nat), .int (k : Nat)]) ∧ badS O wv i = false ∧ Same H' H2) (fun tl htl => ?_) fun σ2 H2 hm => ?_
        · walk_at "rd"
          refine ixL (.inl (.inl (s1' _ _ ha))) ao (ixL (.inl (.inl eN')) (atN etn) (ixL (.inl (.inl (s1' _ _ het))) (atN (natW_at u2)) ⟨by rw [sizeLine_eq]; decide, fun T1 hT1 => ?_⟩))
          have s2 : Same H' (upd H' T1 (.tup [.int (l : Nat), .int (k : Nat)])) := UL.Same.new hT1
          have eT : upd H' T1 (.tup [.int (l : Nat), .int (k : Nat)]) T1 = some (.tup [.int (l : Nat), .int (k : Nat)]) := upd_same
          generalize upd H' T1 (.tup [.int (l : Nat), .int (k : Nat)]) = H2 at s2 eT ⊢
          rcases hS with ⟨rfl, rfl, rfl⟩ | ⟨j, t0, l0, k0, rfl, rfl, et0, o0, rfl⟩
          · refine UX.neDD (.tup (.inl (.inl eT)) (.cons (.int _) (.cons (.int _) .nil))) .non (UX.Sh.tup (n := 0) fun d hd => ?_) UX.Sh.non (q := ⟨_, rfl, ?_⟩)
            · simp only [List.mem_cons, List.not_mem_nil, or_false] at hd
              rcases hd with rfl | rfl <;> exact UX.Sh.int _
            · have e : PyData.eqv (.tuple [.int ((l : Nat) : Int), .int ((k : Nat) : Int)]) .none = false := by rfl
              rw [e, if_pos (by decide)]
              refine ⟨true, rfl, ?_⟩
              rw [if_neg (by decide)]
              exact htl _ _ ⟨T1, rfl, eT, rfl, s2⟩
          · refine neT3 t3 t3 (.inl (.inl eT)) (.inl (.inl (s2 _ _ et0))) ⟨_, rfl, ?_⟩
            by_cases c : ([V.int ((l : Nat) : Int), V.int ((k : Nat) : Int)] : List V) = [V.int ((l0 : Nat) : Int), V.int ((k0 : Nat) : Int)]
            · rw [if_neg (by simp only [decide_eq_true c]; decide)]
              refine htl _ _ ⟨T1, rfl, eT, ?_, s2⟩
              have e1 : l = l0 ∧ k = k0 := by
                injection c with c1 c2
                injection c1 with c1
                injection c2 with c2 _
                injection c2 with c2
                omega
              show (decide (ownAt O wv (j + 1) ≠ ownAt O wv j) && !finAt O wv j) = false
              rw [u3, o0, e1.1, e1.2]
              simp
            · rw [if_pos (by simp only [decide_eq_false c]; decide)]
              have ne : ownAt O wv (j + 1) ≠ ownAt O wv j := fun z => by
                rw [u3, o0] at z
                cases z
                exact c rfl
              refine ⟨_, rfl, ?_⟩
              cases hf : finAt O wv j with
              | true =>
                rw [if_neg (by decide)]
                refine htl _ _ ⟨T1, by rw [hf], eT, ?_, s2⟩
                show (decide (ownAt O wv (j + 1) ≠ ownAt O wv j) && !finAt O wv j) = false
                rw [hf]; simp
              | false =>
                rw [if_pos (by decide)]
                have hb : badS O wv (j + 1) = true := by
                  show (decide (ownAt O wv (j + 1) ≠ ownAt O wv j) && !finAt O wv j) = true
                  rw [hf, decide_eq_true ne]; rfl
                have := q H2 (Same.tr s1' s2)
                rwa [serB_no il hb] at this
        · obtain ⟨T1, rfl, eT, hb, s2⟩ := hm
          have s12 := Same.tr s1' s2
          have eN2 := s2 _ _ eN'
          walk_at "rd"
          refine ixL (.inl (.inl eN2)) (atN etn) (addII.mpr ?_)
          simp only [gSub]
          walk_at "rd"
          have nlen : (natW ((List.range O.length).map fun l => (wv.take i).count l)).length = O.length := by rw [natW_len, List.length_map, List.length_range]
          refine ⟨N, _, _, l, rfl, rfl, eN2, ?_, ?_⟩
          · unfold ixN
            rw [if_pos (by omega), if_pos (by rw [nlen]; omega), Int.toNat_natCast]
          have cnt : ∀ j, (wv.take (i + 1)).count j = (wv.take i).count j + if j = l then 1 else 0 := fun j => by
            rw [List.take_add_one, hl', List.count_append]
            by_cases e : j = l
            · rw [if_pos e, e]; simp
            · rw [if_neg e]; simp [Ne.symm e]
          have eset : (natW ((List.range O.length).map fun l => (wv.take i).count l)).set l (V.int (((wv.take i).count l : Nat) + 1)) = natW ((List.range O.length).map fun l => (wv.take (i + 1)).count l) := by
            refine List.ext_getElem? fun j => ?_
            by_cases c : j < O.length
            · have e2 : (natW ((List.range O.length).map fun l => (wv.take (i + 1)).count l))[j]? = some (V.int ((wv.take (i + 1)).count j : Nat)) := natW_at (by rw [List.getElem?_map, List.getElem?_range c]; rfl)
              rw [e2, cnt]
              by_cases e : j = l
              · subst e
                rw [List.getElem?_set_self (by rw [nlen]; exact c), if_pos rfl]
                simp
              · rw [List.getElem?_set_ne (Ne.symm e), if_neg e]
                exact natW_at (by rw [List.getElem?_map, List.getElem?_range c]; rfl)
            · rw [List.getElem?_eq_none (by rw [List.length_set, nlen]; omega), List.getElem?_eq_none (by rw [natW_len, List.length_map, List.length_range]; omega)]
          rw [eset]
          have etn2 : (natW ((List.range O.length).map fun l => (wv.take (i + 1)).count l))[l]? = some (V.int (((wv.take i).count l + 1 : Nat) : Int)) := natW_at (by rw [List.getElem?_map, List.getElem?_range lT]; show some ((wv.take (i + 1)).count l) = _; rw [cnt, if_pos rfl])
          have kN : ∀ {b : Addr} {o : HO}, H b = some o → upd H2 N (.lst (natW ((List.range O.length).map fun l => (wv.take (i + 1)).count l))) b = some o := fun e => (upd_ne (ne_of_none e hN)).trans (s12 _ _ e)
          have kt : ∀ {b : Addr} {xs : List V}, H2 b = some (.tup xs) → upd H2 N (.lst (natW ((List.range O.length).map fun l => (wv.take (i + 1)).count l))) b = some (.tup xs) := fun e => (upd_ne (ne_of e eN2 fun z => nomatch z)).trans e
          have eT3 := kt eT
          have eN3 : upd H2 N (.lst (natW ((List.range O.length).map fun l => (wv.take (i + 1)).count l))) N = some (.lst (natW ((List.range O.length).map fun l => (wv.take (i + 1)).count l))) := upd_same
          generalize upd H2 N (.lst (natW ((List.range O.length).map fun l => (wv.take (i + 1)).count l))) = H3 at kN eT3 eN3 ⊢
          refine ixL (.inl (.inl (kN ha))) ao (ixL (.inl (.inl eN3)) (atN etn2) ?_)
          have hfin : finAt O wv i = decide (us[(wv.take i).count l + 1]? ≠ some k) := by
            unfold finAt
            rw [hl', u3]
            simp [u1]
          have fin : ∀ {H4 : Hp} {x : V}, Same H3 H4 → (∃ bf fn, (V.ref T1 = bf ∧ V.bl (finAt O wv i) = fn ∧ ∃ x_2, some x = x_2) ∧ H4 N = some (HO.lst (natW (List.map (fun l => List.count l (List.take (i + 1) wv)) (List.range O.length)))) ∧ SerH O wv H4 (i + 1) bf fn ∧ (∀ (j : Nat), j < i + 1 → badS O wv j = false) ∧ Same H H4) := fun {H4 x} s => by
            refine ⟨.ref T1, .bl (finAt O wv i), ⟨rfl, rfl, _, rfl⟩, s _ _ eN3, .inr ⟨i, T1, l, k, rfl, rfl, s _ _ eT3, u3, rfl⟩, fun j hj => ?_, fun b o e => s _ _ (kN e)⟩
            rcases Nat.lt_or_ge j i with z | z
            · exact hbad j z
            · rw [show j = i by omega]; exact hb
          refine ⟨_, rfl, t, _, rfl, .inl (.inl (kN het)), fun rs hrs => ?_⟩
          have ec : cutV (natW us) (some (((wv.take i).count l + 1 : Nat) : Int)) none = natW (us.drop ((wv.take i).count l + 1)) := by rw [UX.cut_from]; unfold natW; rw [List.map_drop]
          rw [ec]
          intro p0 hp0
          have s4 : Same H3 (upd H3 rs (.lst (natW (us.drop ((wv.take i).count l + 1))))) := UL.Same.new hrs
          have e4 : upd H3 rs (.lst (natW (us.drop ((wv.take i).count l + 1)))) rs = some (.lst (natW (us.drop ((wv.take i).count l + 1)))) := upd_same
          generalize upd H3 rs (.lst (natW (us.drop ((wv.take i).count l + 1)))) = H4 at s4 e4 hp0 ⊢
          have s5 : Same H4 (upd H4 p0 (.lst [])) := UL.Same.new hp0
          have s35 := Same.tr s4 s5
          have hfl : (natW (us.drop ((wv.take i).count l + 1))).all fl2 = true := by
            rw [List.all_eq_true]
            intro v hv
            unfold natW at hv
            obtain ⟨n, _, rfl⟩ := List.mem_map.mp hv
            rfl
          refine eqL0 hfl (.inl (.inl (s5 _ _ e4))) (.inl (.inl upd_same)) ⟨_, rfl, ?_⟩
          cases hd : us[(wv.take i).count l + 1]? with
          | none =>
            have : us.drop ((wv.take i).count l + 1) = [] := List.drop_eq_nil_of_le (List.getElem?_eq_none_iff.mp hd)
            rw [this, if_pos (by rfl)]
            have hf : finAt O wv i = true := by rw [hfin, hd]; simp
            have := fin (x := .ref rs) s35
            rwa [hf] at this
          | some y =>
            have hlt := (List.getElem?_eq_some_iff.mp hd).1
            have : us.drop ((wv.take i).count l + 1) = y :: us.drop ((wv.take i).count l + 1 + 1) := by
              rw [List.drop_eq_getElem_cons hlt]
              congr 1
              exact (List.getElem?_eq_some_iff.mp hd).2
            rw [this] at e4
            rw [this, if_neg (by simp [natW])]
            refine ixL (.inl (.inl (s5 _ _ e4))) (show atI _ ((0 : Nat) : Int) = some (V.int (y : Nat)) from atN rfl) (ixT (.inl (.inl (s35 _ _ eT3))) (show atI _ ((1 : Nat) : Int) = some (V.int (k : Nat)) from atN rfl) (neII.mpr ?_))
            have hf : finAt O wv i = !decide (((y : Nat) : Int) = ((k : Nat) : Int)) := by
              rw [hfin, hd]
              by_cases c : y = k
              · simp [c]
              · have : ((y : Nat) : Int) ≠ ((k : Nat) : Int) := by omega
                simp [c, this]
            have := fin (x := .ref rs) s35
            rwa [hf] at this
      · obtain ⟨bf, fn, z5, z6, z7, rfl, eN', hS, hbad, s1'⟩ := inv
        rw [nI_len] at hbad
        walk_at "rd"
        have := q H' s1'
        rwa [serB_yes hbad] at this
end
end U
set_option Elab.async false
set_option linter.all false
set_option maxRecDepth 100000
set_option maxHeartbeats 4000000
set_option pp.deepTerms true
set_option pp.maxSteps 400000
namespace U
open PySem PySem.Spec PyProof.Rows L2 UL UX
local macro_rules | `(tactic| walk_at "rd") => `(tactic| simp only [sMatch, tJs, tFmt, tBC, tMethA, tMakeL, iEnumS, tSeq, tAsg, tOp, tCB, tCons, tNil, tVar, tC, tB, tTest, tNot, tIfS, tNext, tYes, tUn, rU, tM0, tGFrom, tGThen, tG0, tYfLst, gcxK, tSubO, tProp, tListG, tMethG, tBMF, tFld, sFld, tMeth, tMake, tSl, tNoPart, tPart, tM1, gTup, gCons, gNil, tDrop, tFor_eq, tLc_eq, tLc2_eq, iRng1_eq, StX.tStar, iList, iTup, iStr, iAny_var, iZipB, tLenSetS, wipe, tVar, tAndV, tOrV, tNotV, tOr, tAnd, tLst, tTup, tBM, tBM0, tChain, tCall, cxK, noxK, addII, addSS, mulII, eqII, neII, neSS, cIntI, cAbsI, rI, rI0, rLt, rLe, rGt_, rGe_, rSub_, rMod, rPow, rDivW, rNeg, gName, tRet, L2.start, List.length_cons, List.length_nil, List.map_cons, List.map_nil, List.replicate, List.cons_append, List.nil_append, List.getElem?_cons_zero, List.getElem?_cons_succ, List.set_cons_zero, List.set_cons_succ, Option.some.injEq, exists_eq_left', exists_eq_left, V.int.injEq, V.bl.injEq, V.str.injEq, V.ref.injEq, V.ty.injEq, List.cons.injEq, and_true, true_and, reduceCtorEq, false_and, exists_false, or_false, false_or, exists_and_left, exists_and_right, List.append_nil, forall_eq, decide_eq_true_eq, Bool.not_eq_true, Nat.reduceAdd, Nat.reduceSub, List.replicate_zero, List.replicate_succ, Nat.zero_le, ite_true, ite_false, if_true, if_false])
section
variable {P : Program} {w : World} {K : PySem.W.Frag} {mg : Str → Option Value} {base : Heap}
open UV UW NdefX ClX
variable {R Wr B Pg Sy IC UC IS UP WE IP C Tu Wv TsA : Addr}
/-- the lanes of the law and the plan's -/
theorem nmsOf_eq {qs : List Rw} : ∀ {L : List Nat}, (∀ v ∈ L, v < qs.length) → ∀ n ∈ nmsOf qs L, ∃ q ∈ qs, q.n = n := fun {L} h n hn => by
  unfold nmsOf at hn
  obtain ⟨v, _, e⟩ := List.mem_filterMap.mp hn
  obtain ⟨q, hq, rfl⟩ := Option.map_eq_some_iff.mp e
  exact ⟨q, List.mem_of_getElem? hq, rfl⟩
theorem val_ms {ms : List (Addr × Rw)} {n : Str} (h : ∃ m ∈ ms, m.2.n = n) : ∃ m ∈ ms, m.2.n = n ∧ valA (ms.map fun q => (q.2.n, q.1)) n = some m.1 := by
  obtain ⟨m, hm, e⟩ := h
  unfold valA
  cases hf : (ms.map fun q => (q.2.n, q.1)).find? (fun q => decide (q.1 = n)) with
  | none =>
    have := List.find?_eq_none.mp hf (m.2.n, m.1) (List.mem_map.mpr ⟨m, hm, rfl⟩)
    exact absurd (decide_eq_true e) this
  | some q =>
    have h1 := List.find?_some hf
    obtain ⟨m', hm', rfl⟩ := List.mem_map.mp (List.mem_of_find?_eq_some hf)
    exact ⟨m', hm', of_decide_eq_true h1, rfl⟩
/-- the steps by a program's name -/
def FSo (R Wr B Pg : Addr) (H : Hp) (ms : List (Addr × Rw)) (fS : Str → List Addr) : Prop := ∀ m ∈ ms, ∃ dx p, H m.1 = some (.ins Pg dx (fsP m.2.n p)) ∧ FT H p ((fS m.2.n).map V.ref) ∧ Paired (fun t k => StA H R Wr B t k) (fS m.2.n) m.2.ks
theorem fso_ex {H : Hp} {ms : List (Addr × Rw)} (nd : (ms.map (·.2.n)).Nodup) (h : ∀ m ∈ ms, PgA H R Wr B Pg m.1 m.2.n m.2.ks) : ∃ fS, FSo R Wr B Pg H ms fS := by
  have ex : ∀ n : Str, ∃ ts : List Addr, ∀ m ∈ ms, m.2.n = n → ∃ dx p, H m.1 = some (.ins Pg dx (fsP m.2.n p)) ∧ FT H p (ts.map V.ref) ∧ Paired (fun t k => StA H R Wr B t k) ts m.2.ks := fun n => by
    by_cases c : ∃ m ∈ ms, m.2.n = n
    · obtain ⟨m, hm, e⟩ := c
      obtain ⟨dx, p, ts, g1, g2, g3⟩ := h m hm
      refine ⟨ts, fun m' hm' e' => ?_⟩
      have : m' = m := by
        obtain ⟨i, hi, rfl⟩ := List.mem_iff_getElem.mp hm'
        obtain ⟨j, hj, rfl⟩ := List.mem_iff_getElem.mp hm
        have hij : i = j := (List.getElem_inj (h₀ := by rw [List.length_map]; exact hi) (h₁ := by rw [List.length_map]; exact hj) nd).mp (by rw [List.getElem_map, List.getElem_map, e, e'])
        subst hij; rfl
      subst this
      exact ⟨dx, p, g1, g2, g3⟩
    · exact ⟨[], fun m hm e => absurd ⟨m, hm, e⟩ c⟩
  obtain ⟨fS, hf⟩ := Classical.axiomOfChoice ex
  exact ⟨fS, fun m hm => hf m.2.n m hm rfl⟩
theorem trnN_len {fS : Str → List Addr} {lane : Nat} {ns : List Str} : ∀ k, k ≤ ns.length → (trnN fS lane ns k).length = ((ns.take k).map fun n => (fS n).length).sum
  | 0, _ => by simp [trnN]
  | k + 1, h => by
    have hk := List.getElem?_eq_getElem (show k < ns.length by omega)
    rw [trnN_succ hk, List.length_append, trnN_len k (by omega), List.length_map, List.take_add_one, hk, List.map_append, List.sum_append]
    simp
theorem nms_len {qs : List Rw} {fS : Str → List Addr} (h : ∀ q ∈ qs, (fS q.n).length = q.ks.length) : ∀ {L : List Nat}, (∀ v ∈ L, v < qs.length) → ((nmsOf qs L).map fun n => (fS n).length).sum = lenN qs L
  | [], _ => by simp [nmsOf, lenN]
  | v :: L, hv => by
    have ih := nms_len h (L := L) fun u hu => hv u (List.mem_cons_of_mem _ hu)
    have hvl : v < qs.length := hv v List.mem_cons_self
    have hq := List.getElem?_eq_getElem hvl
    have e : nmsOf qs (v :: L) = qs[v].n :: nmsOf qs L := by unfold nmsOf; simp [hq]
    have e2 : lenN qs (v :: L) = stepsN qs v + lenN qs L := by unfold lenN; simp
    rw [e, e2, List.map_cons, List.sum_cons, ih, stepsN_at hq, h _ (List.getElem_mem hvl)]
/-- the lanes' lengths -/
theorem plTr_lens {qs : List Rw} {fS : Str → List Addr} {Ls : List (List Nat)} (h : ∀ q ∈ qs, (fS q.n).length = q.ks.length) (hv : ∀ L ∈ Ls, ∀ v ∈ L, v < qs.length) : (plTr fS (Ls.map (nmsOf qs))).map List.length = Ls.map (lenN qs) := by
  refine List.ext_getElem? fun i => ?_
  unfold plTr
  rw [List.getElem?_map, List.getElem?_map, List.length_map, List.getElem?_map]
  by_cases c : i < Ls.length
  · rw [List.getElem?_range c, List.getElem?_eq_getElem c]
    simp only [Option.map_some, List.getElem?_map, List.getElem?_eq_getElem c]
    rw [trnN_len _ (Nat.le_refl _), List.take_length, nms_len h (hv _ (List.getElem_mem c))]
  · rw [List.getElem?_eq_none (by rw [List.length_range]; omega), List.getElem?_eq_none (by omega)]
    rfl
theorem trk_len {qs : List Rw} (h : ∀ q ∈ qs, q.rs.length = q.ks.length) : ∀ {L : List Nat}, (trkOf qs L).length = lenN qs L
  | [] => by simp [trkOf, lenN]
  | v :: L => by
    have ih := trk_len h (L := L)
    have e : trkOf qs (v :: L) = (((qs[v]?).map (·.rs)).getD []) ++ trkOf qs L := rfl
    have e2 : lenN qs (v :: L) = stepsN qs v + lenN qs L := by unfold lenN; simp
    rw [e, List.length_append, ih, e2]
    congr 1
    unfold stepsN
    cases hq : qs[v]? with
    | none => rfl
    | some q => exact h q (List.mem_of_getElem? hq)
/-- a weave that has been made and does not stand at p -/
def WvP (Wv Tu : Addr) (H : Hp) (p x tu ln fd : Addr) (TT : List (List Trn)) : Prop := ∃ dx ts, H x = some (.ins Wv dx (fsWv tu ln fd (TT.map List.length).sum)) ∧ H tu = some (.lst (ts.map V.ref)) ∧ tu ≠ p ∧ Paired (fun (t : Addr) us => t ≠ p ∧ ∃ as : List Addr, H t = some (.lst (as.map V.ref)) ∧ TuS Tu H as us) ts TT ∧ H ln = some (.tup (TT.map fun us => V.int (us.length : Nat)))
theorem WvP.wv {H : Hp} {p x tu ln fd : Addr} {TT : List (List Trn)} (h : WvP Wv Tu H p x tu ln fd TT) : WvA Wv Tu H x tu ln fd TT := let ⟨dx, ts, h1, h2, _, h4, h5⟩ := h; ⟨dx, ts, h1, h2, L2.Paired.mapP h4 fun _ _ g => g.2, h5⟩
theorem WvP.kp {H H' : Hp} {p x tu ln fd : Addr} {TT : List (List Trn)} (h : WvP Wv Tu H p x tu ln fd TT) (np : ∀ o, H p = some o → ∃ ms : List V, o = .lst ms) (s : ∀ b o, H b = some o → (∀ ps, o ≠ .tbl ps) → b ≠ p → H' b = some o) : WvP Wv Tu H' p x tu ln fd TT := by
  have nop : ∀ {b : Addr} {o : HO}, H b = some o → (∀ ms, o ≠ .lst ms) → b ≠ p := fun e n z => by
    rw [z] at e
    obtain ⟨ms, rfl⟩ := np _ e
    exact n _ rfl
  obtain ⟨dx, ts, h1, h2, h3, h4, h5⟩ := h
  exact ⟨dx, ts, s _ _ h1 (fun _ z => nomatch z) (nop h1 fun _ z => nomatch z), s _ _ h2 (fun _ z => nomatch z) h3, h3, L2.Paired.mapP h4 fun t us ⟨n, as, g1, g2⟩ => ⟨n, as, s _ _ g1 (fun _ z => nomatch z) n, L2.Paired.mapP g2 fun _ _ ⟨dx, e⟩ => ⟨dx, s _ _ e (fun _ z => nomatch z) (nop e fun _ z => nomatch z)⟩⟩, s _ _ h5 (fun _ z => nomatch z) (nop h5 fun _ z => nomatch z)⟩
theorem paired_inL {α β : Type} {F : α → β → Prop} {G : α → Prop} : ∀ {xs : List α} {ys : List β}, Paired F xs ys → (∀ a ∈ xs, G a) → Paired (fun a b => G a ∧ F a b) xs ys
  | _, _, .nil, _ => .nil
  | _, _, .cons a b, h => .cons ⟨h _ List.mem_cons_self, a⟩ (paired_inL b fun x m => h x (List.mem_cons_of_mem _ m))
/-- F stands, whatever becomes of p -/
def Off (p : Addr) (H : Hp) (F : Hp → Prop) : Prop := ∀ G, (∀ c o, H c = some o → c ≠ p → G c = some o) → F G
theorem Off.but {p : Addr} {H H' : Hp} {F : Hp → Prop} (h : Off p H F) (b : But p H H') : Off p H' F := fun G g => h G fun c o e n => g _ _ (b _ _ e n) n
theorem Off.same {p : Addr} {H H' : Hp} {F : Hp → Prop} (h : Off p H F) (s : Same H H') : Off p H' F := fun G g => h G fun c o e n => g _ _ (s _ _ e) n
theorem Off.here {p : Addr} {H : Hp} {F : Hp → Prop} (h : Off p H F) : F H := h H fun _ _ e _ => e
theorem npl {H : Hp} {p l : Addr} (pl : Pl H p) (h : H l = none) : l ≠ p := fun e => by obtain ⟨ms, z⟩ := pl; rw [e, z] at h; cases h
theorem wv_ready {H0 H : Hp} {qs : List Rw} {cs fs : List Str} {ms : List (Addr × Rw)} {fS : Str → List Addr} {Ls : List (List Nat)} {zs : Ln} (hg : ∀ q ∈ qs, RwG cs fs q) (hms : ms.map (·.2) = qs) (hfS : FSo R Wr B Pg H0 ms fS) (s : Same H0 H) (lo : LanOk qs Ls) (ez : zs.map (·.2) = Ls.map (nmsOf qs)) :
    (∀ q ∈ qs, (fS q.n).length = q.ks.length) ∧ ∀ l ∈ zs, l.2.length ≤ 4 ∧ ∀ n ∈ l.2, n.length ≤ 1000 ∧ StpH Pg H (ms.map fun q => (q.2.n, q.1)) fS n := by
  have hfl : ∀ q ∈ qs, (fS q.n).length = q.ks.length := fun q0 hq0 => by
    rw [← hms] at hq0
    obtain ⟨m, hm, rfl⟩ := List.mem_map.mp hq0
    obtain ⟨_, _, _, _, g⟩ := hfS m hm
    exact plenW g
  refine ⟨hfl, fun l hl => ?_⟩
  have hm : l.2 ∈ Ls.map (nmsOf qs) := ez ▸ List.mem_map_of_mem (f := (·.2)) hl
  obtain ⟨L, hL, e⟩ := List.mem_map.mp hm
  obtain ⟨l4, lv⟩ := lo.2 L hL
  refine ⟨?_, fun n hn => ?_⟩
  · rw [← e]
    unfold nmsOf
    exact Nat.le_trans (List.length_filterMap_le _ _) l4
  · rw [← e] at hn
    obtain ⟨q0, hq0, rfl⟩ := nmsOf_eq lv n hn
    refine ⟨Nat.le_trans (nm_len (hg q0 hq0).1) (by decide), ?_⟩
    have hq0' := hq0
    rw [← hms] at hq0'
    obtain ⟨m0, hm0, e0⟩ := List.mem_map.mp hq0'
    obtain ⟨m, hm, en, ev⟩ := val_ms (ms := ms) (n := q0.n) ⟨m0, hm0, by rw [e0]⟩
    obtain ⟨dx1, p1, g1, g2, g3⟩ := hfS m hm
    rw [en] at g1 g2
    exact ⟨m.1, dx1, p1, ev, s _ _ g1, ftSame g2 s, by rw [hfl q0 hq0]; have := (hg q0 hq0).2.2.2; omega⟩
structure LwX (K : PySem.W.Frag) (mg : Str → Option Value) (R Wr B Pg Sy IS UC UP Wv C TsA Tu IP : Addr) : Prop extends SyX K mg R Wr B Pg Sy IS UC UP where
  n_sum : mg "sum" = none
  n_any : mg "any" = none
  cWv : Cls K Wv
  cC : Cls K C
  cTu : Cls K Tu
  p_lanes : NoAttr K C "lanes"
  w_turns : NoAttr K Wv "_turns"
  w_lengths : NoAttr K Wv "lengths"
  w_number : NoAttr K Wv "_number"
  w_found : NoAttr K Wv "_found"
  t_lane : NoAttr K Tu "lane"
  t_occurrence : NoAttr K Tu "occurrence"
  t_name : NoAttr K Tu "name"
  t_step : NoAttr K Tu "step"
  cvS : UX.CVn K mg "Weave" "MOST_STEPS" (.int 8)
  cvL : UX.CVn K mg "Plan" "MOST_LANES" (.int 3)
  cvN : UX.CVn K mg "Plan" "MOST_NAMES" (.int 4)
  naT : PySem.W.findIn K (.ref TsA) "number" = some none
  c_Plan : ∃ u, mg "Plan" = some u ∧ RelV (.ref C) u
theorem LwX.wu (X : LwX K mg R Wr B Pg Sy IS UC UP Wv C TsA Tu IP) : WvU K mg Wv C TsA Tu :=
  { toNm := X.toNm, n_enumerate := X.n_enumerate, n_sum := X.n_sum, n_any := X.n_any, cls := X.cWv, clsC := X.cC, a_lanes := X.p_lanes, a_turns := X.w_turns, a_lengths := X.w_lengths, a_number := X.w_number, a_found := X.w_found, cv_MOST_STEPS := X.cvS, naT := X.naT, clsT := X.cTu, b_occurrence := X.t_occurrence }
theorem LwX.tu (X : LwX K mg R Wr B Pg Sy IS UC UP Wv C TsA Tu IP) : TuT K mg Tu :=
  { toNm := X.toNm, n_enumerate := X.n_enumerate, cls := X.cTu, a_lane := X.t_lane, a_occurrence := X.t_occurrence, a_name := X.t_name, a_step := X.t_step }
theorem LwX.pn (X : LwX K mg R Wr B Pg Sy IS UC UP Wv C TsA Tu IP) : PnT K mg C :=
  { toNm := X.toNm, n_any := X.n_any, c_Plan := X.c_Plan, cls := X.cC, a_lanes := X.p_lanes, cv_MOST_LANES := X.cvL, cv_MOST_NAMES := X.cvN }
end
end U
set_option Elab.async false
set_option linter.all false
set_option maxRecDepth 100000
set_option maxHeartbeats 4000000
set_option pp.deepTerms true
set_option pp.maxSteps 400000
namespace U
open PySem PySem.Spec PyProof.Rows L2 UL UX
local macro_rules | `(tactic| walk_at "rd") => `(tactic| simp only [sMatch, tJs, tFmt, tBC, tMethA, tMakeL, iEnumS, tSeq, tAsg, tOp, tCB, tCons, tNil, tVar, tC, tB, tTest, tNot, tIfS, tNext, tYes, tUn, rU, tM0, tGFrom, tGThen, tG0, tYfLst, gcxK, tSubO, tProp, tListG, tMethG, tBMF, tFld, sFld, tMeth, tMake, tSl, tNoPart, tPart, tM1, gTup, gCons, gNil, tDrop, tFor_eq, tLc_eq, tLc2_eq, iRng1_eq, StX.tStar, iList, iTup, iStr, iAny_var, iZipB, tLenSetS, wipe, tVar, tAndV, tOrV, tNotV, tOr, tAnd, tLst, tTup, tBM, tBM0, tChain, tCall, cxK, noxK, addII, addSS, mulII, eqII, neII, neSS, cIntI, cAbsI, rI, rI0, rLt, rLe, rGt_, rGe_, rSub_, rMod, rPow, rDivW, rNeg, gName, tRet, L2.start, List.length_cons, List.length_nil, List.map_cons, List.map_nil, List.replicate, List.cons_append, List.nil_append, List.getElem?_cons_zero, List.getElem?_cons_succ, List.set_cons_zero, List.set_cons_succ, Option.some.injEq, exists_eq_left', exists_eq_left, V.int.injEq, V.bl.injEq, V.str.injEq, V.ref.injEq, V.ty.injEq, List.cons.injEq, and_true, true_and, reduceCtorEq, false_and, exists_false, or_false, false_or, exists_and_left, exists_and_right, List.append_nil, forall_eq, decide_eq_true_eq, Bool.not_eq_true, Nat.reduceAdd, Nat.reduceSub, List.replicate_zero, List.replicate_succ, Nat.zero_le, ite_true, ite_false, if_true, if_false])
section
variable {P : Program} {w : World} {K : PySem.W.Frag} {mg : Str → Option Value} {base : Heap}
open UV UW NdefX ClX
/-! weavings as laws draw and execute them -/
abbrev s__law_weaving : Stmt := top 59
abbrev sc__law_weaving_N : List Str := ["_law_pool_here", "_law_lengths", "_law_left", "_law_weaving_here", "_law_k", "_law_lane", "_law_ready", ".0"]
theorem sc__law_weaving : FnScope sc__law_weaving_N ["_law_pool_here", "_law_lengths"] (defScope s__law_weaving) := ⟨rfl, rfl, rfl, by decide +kernel, rfl, by decide +kernel, by decide +kernel⟩
-- 0 _law_pool_here, 1 _law_lengths, 2 _law_left, 3 _law_weaving_here, 4 _law_k, 5 _law_lane, 6 _law_ready, 7 .0
def natV (ls : List Nat) : List V := ls.map fun (n : Nat) => V.int n
theorem natV_eq {ls : List Nat} : natV ls = (nI ls).map V.int := by unfold natV nI; rw [List.map_map]; rfl
theorem natV_at {ls : List Nat} {i x : Nat} (h : ls[i]? = some x) : (natV ls)[i]? = some (V.int (x : Nat)) := by unfold natV; rw [List.getElem?_map, h]; rfl
theorem nI_sum {ls : List Nat} : (nI ls).sum = (ls.sum : Nat) := by
  induction ls with
  | nil => rfl
  | cons x r ih =>
    unfold nI at ih ⊢
    rw [List.map_cons, List.sum_cons, List.sum_cons, ih]; omega
theorem pos_of_sum {ls : List Nat} (h : 0 < ls.sum) : ∃ (j x : Nat), ls[j]? = some x ∧ 0 < x := by
  induction ls with
  | nil => simp at h
  | cons x r ih =>
    by_cases c : 0 < x
    · exact ⟨0, x, rfl, c⟩
    · rw [List.sum_cons] at h
      obtain ⟨j, y, h1, h2⟩ := ih (by omega)
      exact ⟨j + 1, y, by simpa using h1, h2⟩
theorem sum_set {ls : List Nat} {j x : Nat} (h : ls[j]? = some x) (hx : 0 < x) : (ls.set j (x - 1)).sum + 1 = ls.sum := by
  induction ls generalizing j with
  | nil => simp at h
  | cons y r ih =>
    cases j with
    | zero =>
      have h : y = x := by simpa using h
      subst h
      rw [List.set_cons_zero, List.sum_cons, List.sum_cons]; omega
    | succ j =>
      have := ih (j := j) (by simpa using h)
      rw [List.set_cons_succ, List.sum_cons, List.sum_cons]; omega
theorem okN_snoc {ls wv : List Nat} {l : Nat} (h : OkN ls wv) (hl : l < ls.length) (hc : wv.count l < ls[l]?.getD 0) : OkN ls (wv ++ [l]) := fun i x hx => by
  by_cases c : i < wv.length
  · rw [List.getElem?_append_left c] at hx
    rw [List.take_append_of_le_length (by omega)]
    exact h i x hx
  · rw [List.getElem?_append_right (by omega)] at hx
    have e0 : i - wv.length = 0 := by
      cases e : i - wv.length with
      | zero => rfl
      | succ n => rw [e] at hx; simp at hx
    rw [e0] at hx
    cases hx
    have ei : i = wv.length := by omega
    rw [ei, List.take_left' rfl]
    exact ⟨hl, hc⟩
def sp_lwv : Sp := fun vs H Q _ => ∃ (p l : Addr) (ls : List Nat), vs = [.ref p, .ref l] ∧ Pl H p ∧ H l = some (.lst (natV ls)) ∧ l ≠ p ∧ ls.length ≤ 3 ∧ ls.sum ≤ 100 ∧ ∀ w wv H', H w = none → H' w = some (.lst ((nI wv).map V.int)) → OkN ls wv → wv.length = ls.sum → Pl H' p → But p H H' → Q (.ref w) H'
variable {Wv C TSx : Addr}
theorem d_lwv (T : WvT K mg Wv C TSx) (D : TD K mg "_law_weaving" s__law_weaving) (d__law_draw : Dn P w K mg base CX0 1 "_law_draw" sp_draw) : Dn P w K mg base CX0 2 "_law_weaving" sp_lwv := by
  refine D.dn sc__law_weaving (fun _ _ _ _ _ _ us hl => match us, hl with | [_, _], _ => rfl) (fun vs H Q E h => ?_) (fun f cdv A outer s H vs Q E hr h => ?_)
  · obtain ⟨p, l, ls, rfl, _⟩ := h; rfl
  · obtain ⟨p, l, ls, rfl, hp, hl, lp, l3, l8, q⟩ := h
    refine ⟨_, (pss_cons (ps_set (i := 2) sc__law_weaving.nd rfl (Or.inr rfl) (pe_callTy call_listA (by rfl) T.n_list (by decide +kernel) (pa_cons (pv 1) pa_nil)))
      (pss_cons (ps_set (i := 3) sc__law_weaving.nd rfl (Or.inl rfl) (pe_lst pa_nil))
      (pss_cons (ps_for PassesOwn.never rfl (pi_range1 (by rfl) T.n_range (pa_cons (pe_callB (cr_sum rfl) (by rfl) T.n_sum (by decide +kernel) (pa_cons (pv 1) pa_nil)) pa_nil)) (pg_name (i := 4) sc__law_weaving.nd rfl (Or.inl rfl)) (pss_cons (ps_setLc (i := 6) (own := [(".0", 7), ("_law_lane", 5)]) (g := (gName 5)) (tt := _) rfl sc__law_weaving.nd rfl rfl (sw_true rfl rfl rfl (by decide +kernel)) (pi_range1 (by rfl) T.n_range (pa_cons (pe_callB (call_lenK K rfl) (by rfl) T.n_len (by decide +kernel) (pa_cons (pv 2) pa_nil)) pa_nil)) (blkOk_by (N := sc__law_weaving_N) (sc := defScope s__law_weaving) (by decide +kernel)) (fun _ _ _ _ _ => pg_name (i := 5) sc__law_weaving.nd rfl (Or.inl rfl)) (fun _ _ _ _ _ => pts_one (pt_cmpR op_gtA (pe_ix (ix_seqK K rfl) (pv 2) (pv 5) (fun _ _ => rfl)) pe_int (nomark _))) (fun _ _ _ _ _ => (pv 5)))
      (pss_cons (ps_set (i := 5) sc__law_weaving.nd rfl (Or.inl rfl) (pe_ix ix_seq (pv 6) (pe_op op_modA (pe_callTy call_intA (by rfl) T.n_int (by decide +kernel) (pa_cons (pe_op op_addA (pe_d d__law_draw hr (by decide) pass0 (by rfl) (pa_cons (pv 0) (pa_cons (pe_callB call_lenA (by rfl) T.n_len (by decide +kernel) (pa_cons (pv 6) pa_nil)) pa_nil))) (pv 4)) pa_nil)) (pe_callB call_lenA (by rfl) T.n_len (by decide +kernel) (pa_cons (pv 6) pa_nil))) (fun _ _ => rfl)))
      (pss_cons (ps_asg (pe_op op_subA (pe_ix ix_seq (pv 2) (pv 5) (fun _ _ => rfl)) pe_int) (pg_sub (pv 2) (pv 5) set_list))
      (pss_one (ps_expr (pe_bm PySem.F.plainAttrs_list PySem.F.slot_list_append PySem.F.type_list_append mt_append (pv 3) (pa_cons (pv 5) pa_nil))))))))
      (pss_one (ps_ret (pv 3)))))), ?_⟩
    walk_at "rd"
    refine ⟨l, _, rfl, .inl (.inl (.inl hl)), fun L hL => ?_⟩
    have Lp := hp.ne hL
    have nL : ∀ {b : Addr} {o : HO}, H b = some o → b ≠ L := fun e => ne_of_none e hL
    have s1 : Same H (upd H L (.lst (natV ls))) := UL.Same.new hL
    have eL : upd H L (.lst (natV ls)) L = some (.lst (natV ls)) := upd_same
    have p1 := hp.same s1
    generalize upd H L (.lst (natV ls)) = H1 at s1 eL p1 ⊢
    intro W hW
    have s2 : Same H1 (upd H1 W (.lst [])) := UL.Same.new hW
    have eW : upd H1 W (.lst []) W = some (.lst []) := upd_same
    have nW : W ≠ L := fun z => by rw [z, eL] at hW; cases hW
    have Wp := p1.ne hW
    have p2 := p1.same s2
    have hW0 : H W = none := Same.free s1 hW
    generalize upd H1 W (.lst []) = H2 at s2 eW p2 ⊢
    have s02 := Same.tr s1 s2
    refine ⟨l, nI ls, rfl, .inl (.inl (by rw [← natV_eq]; exact s02 _ _ hl)), ?_⟩
    rw [nI_sum]
    refine ⟨_, rfl, ?_⟩
    refine ⟨by omega, by omega, FJ.rangeI (fun k σ' H' => (∃ z4 z5 z6 z7, σ' = [some (.ref p), some (.ref l), some (.ref L), some (.ref W), z4, z5, z6, z7]) ∧ ∃ lf wv : List Nat, H' L = some (.lst (natV lf)) ∧ H' W = some (.lst (natV wv)) ∧ wv.length = k ∧ OkN ls wv ∧ lf.length = ls.length ∧ (∀ (j x : Nat), lf[j]? = some x → x + wv.count j = ls[j]?.getD 0) ∧ lf.sum + k = ls.sum ∧ Pl H' p ∧ But p H H') (by omega) ⟨⟨_, _, _, _, rfl⟩, ls, [], s2 _ _ eL, eW, rfl, (fun i x h => by simp at h), rfl, (fun j x h => by rw [h]; rfl), rfl, p2, UL.Same.but s02⟩ (fun k σ' H3 hk inv => ?_) fun σ' H3 inv => ?_⟩
    · obtain ⟨⟨z4, z5, z6, z7, rfl⟩, lf, wv, eL3, eW3, wl, hok, lfl, hcn, hsm, p3, b3⟩ := inv
      walk_at "rd"
      have lfn : (natV lf).length = lf.length := by unfold natV; rw [List.length_map]
      refine lenL (.inl (.inl eL3)) ⟨_, rfl, ?_⟩
      rw [lfn]
      refine ⟨by omega, by omega, fun D hD => ?_⟩
      have Dp := p3.ne hD
      have nD : ∀ {b : Addr} {o : HO}, H3 b = some o → b ≠ D := fun e => ne_of_none e hD
      refine LJ.it walk_range (fun j H7 => ∃ rd : List Nat, H7 D = some (.lst (natV rd)) ∧ (∀ x ∈ rd, ∃ y, lf[x]? = some y ∧ 0 < y) ∧ (∀ (x y : Nat), x < j → lf[x]? = some y → 0 < y → x ∈ rd) ∧ rd.length ≤ j ∧ Same H3 H7) ⟨[], upd_same, (fun x h => nomatch h), (fun x y h => by omega), Nat.le_refl _, UL.Same.new hD⟩ (fun _ _ _ _ => trivial) (fun j z H7 H8 hj inv yy => ?_) fun H7 inv => ?_
      · obtain ⟨rfl, hz⟩ := yy
        obtain ⟨rd, e7, r1, r2, r3, s7⟩ := inv
        have hz0 := hz
        refine ⟨rfl, ?_⟩
        walk_at "rd"
        obtain rfl : z = V.int ((j : Nat) : Int) := by simpa using hz
        have hj : j < lf.length := by omega
        have hx : lf[j]? = some lf[j] := List.getElem?_eq_getElem hj
        generalize lf[j] = y at hx
        have rdn : (natV rd).length = rd.length := by unfold natV; rw [List.length_map]
        refine ixL (.inl (.inl (s7 _ _ eL3))) (atN (natV_at hx)) ⟨_, rfl, ?_⟩
        by_cases c : (0 : Int) < ((y : Nat) : Int)
        · rw [if_pos c]
          refine ⟨_, e7, by rw [rdn, sizeLine_eq]; omega, rd ++ [j], ?_, fun x hx' => ?_, fun x y' hx' h1 h2 => ?_, by rw [List.length_append]; exact Nat.succ_le_succ r3, UL.Same.put s7 hD⟩
          · rw [upd_same]
            unfold natV
            rw [List.map_append]; rfl
          · rcases List.mem_append.mp hx' with h | h
            · exact r1 x h
            · rw [List.mem_singleton.mp h]; exact ⟨y, hx, by omega⟩
          · by_cases e : x = j
            · exact List.mem_append_right _ (by simp [e])
            · exact List.mem_append_left _ (r2 x y' (by omega) h1 h2)
        · rw [if_neg c]
          refine ⟨rd, e7, r1, fun x y' hx' h1 h2 => ?_, by omega, s7⟩
          by_cases e : x = j
          · rw [e, hx] at h1
            cases h1
            omega
          · exact r2 x y' (by omega) h1 h2
      · obtain ⟨rd, e7, r1, r2, r3, s7⟩ := inv
        rw [Int.toNat_natCast] at r2 r3
        have rdn : (natV rd).length = rd.length := by unfold natV; rw [List.length_map]
        obtain ⟨j0, x0, h1, h2⟩ := pos_of_sum (ls := lf) (by omega)
        have hm0 := r2 j0 x0 (List.getElem?_eq_some_iff.mp h1).1 h1 h2
        have rp := List.length_pos_of_mem hm0
        have p7 : Pl H7 p := p3.same s7
        refine lenL (.inl (.inl e7)) (drawI (by rw [rdn]; omega) p7 fun r H8 r0 r1' p8 b8 => addII.mpr (cIntI.mpr ?_))
        have e8 := b8 _ _ e7 (Ne.symm Dp)
        have b38 : But p H3 H8 := But.tr (UL.Same.but s7) b8
        have eL8 := b38 _ _ eL3 (Ne.symm Lp)
        have eW8 := b38 _ _ eW3 (Ne.symm Wp)
        refine lenL (.inl (.inl e8)) ⟨_, rfl, _, rfl, by rw [rdn]; omega, ?_⟩
        rw [rdn]
        have m0 : 0 ≤ (r + (k : Int)) % ((rd.length : Nat) : Int) := Int.emod_nonneg _ (by omega)
        have m1 : (r + (k : Int)) % ((rd.length : Nat) : Int) < ((rd.length : Nat) : Int) := Int.emod_lt_of_pos _ (by omega)
        obtain ⟨m, hm⟩ := Int.eq_ofNat_of_zero_le m0
        rw [hm] at m1 ⊢
        have hr : rd[m]? = some rd[m] := List.getElem?_eq_getElem (by omega)
        generalize rd[m] = x at hr
        obtain ⟨y, hy, y0⟩ := r1 x (List.mem_of_getElem? hr)
        have xl := (List.getElem?_eq_some_iff.mp hy).1
        refine ixL (.inl (.inl e8)) (atN (natV_at hr)) (ixL (.inl (.inl eL8)) (atN (natV_at hy)) ⟨_, rfl, ?_⟩)
        simp only [gSub]
        walk_at "rd"
        have eset : (natV lf).set x (V.int (((y : Nat) : Int) - 1)) = natV (lf.set x (y - 1)) := by
          unfold natV
          rw [List.map_set]
          congr 2
          omega
        refine ⟨L, _, _, x, rfl, rfl, eL8, ?_, ?_⟩
        · unfold ixN
          rw [if_pos (by omega), if_pos (by rw [lfn]; omega), Int.toNat_natCast]
        rw [eset]
        have nLW : W ≠ L := nW
        have eW9 : upd H8 L (.lst (natV (lf.set x (y - 1)))) W = some (.lst (natV wv)) := (upd_ne nLW).trans eW8
        have hcx := hcn x y hy
        refine ⟨.inl ⟨rfl, _, .inl (.inl eW9)⟩, W, _, _, rfl, rfl, eW9, by unfold natV; rw [List.length_map, sizeLine_eq]; omega, ⟨_, rfl⟩, lf.set x (y - 1), (upd_ne (Ne.symm nLW)).trans upd_same, wv ++ [x], ?_, by rw [List.length_append, wl]; rfl, okN_snoc hok (by omega) (by omega), by rw [List.length_set]; exact lfl, fun j z hj => ?_, ?_, ?_, ?_⟩
        · rw [upd_same]
          unfold natV
          rw [List.map_append]; rfl
        · rw [List.count_append]
          by_cases e : j = x
          · subst e
            rw [List.getElem?_set_self xl] at hj
            cases hj
            simp
            omega
          · rw [List.getElem?_set_ne (Ne.symm e)] at hj
            have : [x].count j = 0 := by simp [Ne.symm e]
            rw [this]
            exact hcn j z hj
        · have := sum_set hy y0
          omega
        · obtain ⟨ms, e⟩ := p8
          exact ⟨ms, (upd_ne Wp).trans ((upd_ne Lp).trans e)⟩
        · exact fun b o e n => (upd_ne (ne_of_none e hW0)).trans ((upd_ne (nL e)).trans (b38 _ _ (b3 _ _ e n) n))
    · obtain ⟨⟨z4, z5, z6, z7, rfl⟩, lf, wv, eL3, eW3, wl, hok, lfl, hcn, hsm, p3, b3⟩ := inv
      walk_at "rd"
      rw [natV_eq] at eW3
      exact q W wv H3 hW0 eW3 hok (by omega) p3 b3
end
end U
set_option Elab.async false
set_option linter.all false
set_option maxRecDepth 100000
set_option maxHeartbeats 4000000
set_option pp.deepTerms true
set_option pp.maxSteps 400000
namespace U
open PySem PySem.Spec PyProof.Rows L2 UL UX
local macro_rules | `(tactic| walk_at "rd") => `(tactic| simp only [sMatch, tJs, tFmt, tBC, tMethA, tMakeL, iEnumS, tSeq, tAsg, tOp, tCB, tCons, tNil, tVar, tC, tB, tTest, tNot, tIfS, tNext, tYes, tUn, rU, tM0, tGFrom, tGThen, tG0, tYfLst, gcxK, tSubO, tProp, tListG, tMethG, tBMF, tFld, sFld, tMeth, tMake, tSl, tNoPart, tPart, tM1, gTup, gCons, gNil, tDrop, tFor_eq, tLc_eq, tLc2_eq, iRng1_eq, StX.tStar, iList, iTup, iStr, iAny_var, iZipB, tLenSetS, wipe, tVar, tAndV, tOrV, tNotV, tOr, tAnd, tLst, tTup, tBM, tBM0, tChain, tCall, cxK, noxK, addII, addSS, mulII, eqII, neII, neSS, cIntI, cAbsI, rI, rI0, rLt, rLe, rGt_, rGe_, rSub_, rMod, rPow, rDivW, rNeg, gName, tRet, L2.start, List.length_cons, List.length_nil, List.map_cons, List.map_nil, List.replicate, List.cons_append, List.nil_append, List.getElem?_cons_zero, List.getElem?_cons_succ, List.set_cons_zero, List.set_cons_succ, Option.some.injEq, exists_eq_left', exists_eq_left, V.int.injEq, V.bl.injEq, V.str.injEq, V.ref.injEq, V.ty.injEq, List.cons.injEq, and_true, true_and, reduceCtorEq, false_and, exists_false, or_false, false_or, exists_and_left, exists_and_right, List.append_nil, forall_eq, decide_eq_true_eq, Bool.not_eq_true, Nat.reduceAdd, Nat.reduceSub, List.replicate_zero, List.replicate_succ, Nat.zero_le, ite_true, ite_false, if_true, if_false])
section
variable {P : Program} {w : World} {K : PySem.W.Frag} {mg : Str → Option Value} {base : Heap}
open UV UW NdefX ClX
variable {R Wr B Pg Sy IC UC IS UP WE IP C Tu Wv TsA Ss : Addr}
/-! the law of places -/
abbrev s_law : Stmt := top 70
abbrev sc_law_N : List Str := ["_law_script", "_law_pool_here", "_law_cells_here", "_law_programs_here", "_law_lanes_here", "_law_lengths", "_law_system", "_law_weave", "_law_serial_here", "_law_owners_here", "_law_places_here", "_law_k", "_law_weaving_here", "_law_lane", "_law_due", "_law_found", "_law_passed", ".0", "_law_track", "_law_j"]
theorem sc_law : FnScope sc_law_N ["_law_script"] (defScope s_law) := ⟨rfl, rfl, rfl, by decide +kernel, rfl, by decide +kernel, by decide +kernel⟩
-- 0 _law_script, 1 _law_pool_here, 2 _law_cells_here, 3 _law_programs_here, 4 _law_lanes_here, 5 _law_lengths, 6 _law_system, 7 _law_weave, 8 _law_serial_here, 9 _law_owners_here, 10 _law_places_here, 11 _law_k, 12 _law_weaving_here, 13 _law_lane, 14 _law_due, 15 _law_found, 16 _law_passed, 17 .0, 18 _law_track, 19 _law_j
/-- what the law holds when all is made -/
structure K17 (Wv Tu Ss : Addr) (H : Hp) (p le x ss ow pc : Addr) (ls : List Nat) (TT : List (List Trn)) (O : List (List Nat)) (ts : List Addr) : Prop where
  pl : Pl H p
  hle : NatL H le ls
  lep : le ≠ p
  hx : ∃ tu ln fd, WvP Wv Tu H p x tu ln fd TT
  hss : ∃ dx w d tu ln fd, H ss = some (.ins Ss dx (fsSs w d)) ∧ WvP Wv Tu H p w tu ln fd TT
  eq : TT.map List.length = ls
  t3 : TT.length ≤ 3
  s8 : ls.sum ≤ 8
  oc : TT.map (List.map (·.occ)) = O
  how : Off p H fun G => OwnH G ow O
  hpc : Off p H fun G => G pc = some (.lst (ts.map V.ref)) ∧ PlcH G ts (plO O O.length)
section
variable {H H' : Hp} {p le x ss ow pc : Addr} {ls : List Nat} {TT : List (List Trn)} {O : List (List Nat)} {ts : List Addr}
theorem K17.np (h : K17 Wv Tu Ss H p le x ss ow pc ls TT O ts) : ∀ o, H p = some o → ∃ ms : List V, o = .lst ms := fun o e => by obtain ⟨ms, z⟩ := h.pl; rw [z] at e; exact ⟨_, (Option.some.inj e).symm⟩
theorem K17.but (h : K17 Wv Tu Ss H p le x ss ow pc ls TT O ts) (b : But p H H') (pl : Pl H' p) : K17 Wv Tu Ss H' p le x ss ow pc ls TT O ts := by
  have np := h.np
  refine { h with pl := pl, hle := b _ _ h.hle h.lep, hx := ?_, hss := ?_, how := h.how.but b, hpc := h.hpc.but b }
  · obtain ⟨tu, ln, fd, g⟩ := h.hx
    exact ⟨tu, ln, fd, g.kp np fun c o e _ n => b _ _ e n⟩
  · obtain ⟨dx, w, d, tu, ln, fd, e, g⟩ := h.hss
    exact ⟨dx, w, d, tu, ln, fd, b _ _ e (fun z => by rw [z] at e; obtain ⟨_, z⟩ := np _ e; cases z), g.kp np fun c o e _ n => b _ _ e n⟩
theorem K17.same (h : K17 Wv Tu Ss H p le x ss ow pc ls TT O ts) (s : Same H H') : K17 Wv Tu Ss H' p le x ss ow pc ls TT O ts := h.but (fun c o e _ => s _ _ e) (let ⟨ms, e⟩ := h.pl; ⟨ms, s _ _ e⟩)
end
theorem wvp_of {H0 H : Hp} {p x tu ln fd : Addr} {TT : List (List Trn)} (h : WvA Wv Tu H x tu ln fd TT) (pl : Pl H0 p) (nw : WvNew H0 H tu) : WvP Wv Tu H p x tu ln fd TT := by
  obtain ⟨dx, ts, h1, h2, h3, h4⟩ := h
  exact ⟨dx, ts, h1, h2, npl pl nw.1, paired_inL h3 fun t ht => npl pl (nw.2 ts h2 t ht), h4⟩
theorem off_new {H0 H : Hp} {p : Addr} {F : Hp → Prop} (pl : Pl H0 p) (h : NewP H0 H F) : Off p H F := fun G g => h G fun c o e0 e => g _ _ e (npl pl e0)
theorem natW_eq {ls : List Nat} : natW ls = (nI ls).map V.int := by unfold natW nI; rw [List.map_map]; rfl
theorem nI_fl {wv : List Nat} : ((nI wv).map V.int).all fl2 = true := by
  rw [List.all_eq_true]
  intro v hv
  obtain ⟨n, _, rfl⟩ := List.mem_map.mp hv
  rfl
theorem ts3_of {H : Hp} {ts : List Addr} {ps : List (Nat × Nat)} (h : PlcH H ts ps) : TS3 H ts (ps.map fun q => [(q.1 : Int), (q.2 : Int)]) := paired_mapL h fun _ _ g => g
theorem ts3_len {ps : List (Nat × Nat)} : ∀ s ∈ ps.map fun q => [(q.1 : Int), (q.2 : Int)], s.length ≤ 1000 := fun s hs => by
  obtain ⟨q, _, rfl⟩ := List.mem_map.mp hs
  show 2 ≤ 1000
  decide
def plD (q : Nat × Nat) : PyData := .tuple [.int (q.1 : Nat), .int (q.2 : Nat)]
theorem eqP0 {H : Hp} {us : List Addr} {ps : List (Nat × Nat)} {d e0 : Addr} {Q : VK} (h : PlcH H us ps) (ed : H d = some (.lst (us.map V.ref))) (ee : H e0 = some (.lst [])) (q : Q (.bl (decide (ps = []))) H) : rEqA K (.ref d) (.ref e0) H Q := by
  have hd : ∀ {us : List Addr} {ps : List (Nat × Nat)}, PlcH H us ps → DpAll K H (us.map V.ref) (ps.map plD) := fun {us ps} h => by
    induction h with
    | nil => exact .nil
    | cons a b ih => exact .cons (.tup (.inl (.inl a)) (.cons (.int _) (.cons (.int _) .nil))) ih
  have sh : UX.Sh 2 (.list (ps.map plD)) := UX.Sh.lst fun x hx => by
    obtain ⟨q, _, rfl⟩ := List.mem_map.mp hx
    refine UX.Sh.tup fun y hy => ?_
    simp only [List.mem_cons, List.not_mem_nil, or_false] at hy
    rcases hy with rfl | rfl <;> exact UX.Sh.int _
  refine UX.eqDD (.lst (.inl (.inl ed)) (hd h)) (.lst (.inl (.inl ee)) .nil) sh (UX.Sh.lst (n := 0) fun x hx => by cases hx) (q := ?_)
  have e : PyData.eqv (.list (ps.map plD)) (.list []) = decide (ps = []) := by
    cases ps <;> simp [PyData.eqv, PyData.eqvAll]
  rw [e]; exact q
/-- the lanes one after another -/
def blk (ls os : List Nat) : List Nat := os.flatMap fun l => List.replicate (ls[l]?.getD 0) l
theorem blk_app {ls os : List Nat} {l : Nat} : blk ls (os ++ [l]) = blk ls os ++ List.replicate (ls[l]?.getD 0) l := by unfold blk; rw [List.flatMap_append]; simp
theorem blk_cons {ls os : List Nat} {l : Nat} : blk ls (l :: os) = List.replicate (ls[l]?.getD 0) l ++ blk ls os := rfl
theorem blk_length {ls os : List Nat} : (blk ls os).length = (os.map fun l => ls[l]?.getD 0).sum := by
  induction os with
  | nil => rfl
  | cons l os ih => rw [blk_cons, List.length_append, List.length_replicate, ih, List.map_cons, List.sum_cons]
theorem blk_sum {ls : List Nat} : (blk ls (List.range ls.length)).length = ls.sum := by rw [blk_length, yGet]
theorem blk_len {ls : List Nat} {n : Nat} (h : n ≤ ls.length) : (blk ls (List.range n)).length ≤ ls.sum := by
  have e : List.range ls.length = List.range n ++ (List.range (ls.length - n)).map (n + ·) := by rw [← List.range_add]; congr 1; omega
  have := blk_sum (ls := ls)
  rw [blk_length, e, List.map_append, List.sum_append] at this
  rw [blk_length]; omega
theorem blk_rev {ls os : List Nat} : (blk ls os.reverse).length = (blk ls os).length := by
  rw [blk_length, blk_length, List.map_reverse, List.sum_reverse]
theorem okN_rep {ls pre : List Nat} {l : Nat} (h : OkN ls pre) (hl : l < ls.length) (h0 : pre.count l = 0) : ∀ k, k ≤ ls[l]?.getD 0 → OkN ls (pre ++ List.replicate k l)
  | 0, _ => by simpa using h
  | k + 1, hk => by
    rw [List.replicate_succ', ← List.append_assoc]
    refine okN_snoc (okN_rep h hl h0 k (by omega)) hl ?_
    rw [List.count_append, h0, List.count_replicate_self]
    omega
theorem blk_okP {ls : List Nat} : ∀ {os : List Nat} {pre : List Nat}, os.Nodup → (∀ l ∈ os, l < ls.length) → OkN ls pre → (∀ l ∈ os, pre.count l = 0) → OkN ls (pre ++ blk ls os)
  | [], pre, _, _, h, _ => by simpa [blk] using h
  | l :: os, pre, nd, hl, h, h0 => by
    rw [blk_cons, ← List.append_assoc]
    have nd := List.nodup_cons.mp nd
    refine blk_okP nd.2 (fun x hx => hl x (List.mem_cons_of_mem _ hx)) (okN_rep h (hl l List.mem_cons_self) (h0 l List.mem_cons_self) _ (Nat.le_refl _)) fun x hx => ?_
    rw [List.count_append, h0 x (List.mem_cons_of_mem _ hx), List.count_replicate]
    have : x ≠ l := fun e => nd.1 (e ▸ hx)
    simp [Ne.symm this]
theorem blk_ok {ls os : List Nat} (nd : os.Nodup) (hl : ∀ l ∈ os, l < ls.length) : OkN ls (blk ls os) := by
  have := blk_okP (ls := ls) (pre := []) nd hl (fun i l h => by simp at h) (fun l _ => rfl)
  simpa using this
def sp_law : PySem.W.Frag → Sp := fun K vs H Q _ => ∃ (a : Addr) (ns : List Int), vs = [.ref a] ∧ SqL K H a (ns.map V.int) ∧ ns.length ≤ 63 ∧ ∀ H', Q (.bl true) H'
theorem ok_law (X : WvU K mg Wv C TsA Tu) (XS : SsT K mg Ss) {f0 : Addr} {fd0 : FuncData} (F0 : Fun K "law" "law" s_law f0 fd0) (d__law_pool : Dn P w K mg base CX0 2 "_law_pool" (sp_pool K)) (d__law_cells : Dn P w K mg base CX0 3 "_law_cells" sp_cellsN) (d__law_functions : Dn P w K mg base CX0 3 "_law_functions" sp_funsN)
    (d__law_programs : Dn P w K mg base CX0 4 "_law_programs" sp_lprogs) (d__law_lanes : Dn P w K mg base CX0 2 "_law_lanes" sp_llanes) (d__law_tracks : Dn P w K mg base CX0 2 "_law_tracks" sp_ltracks) (d__law_made : Dn P w K mg base CX0 12 "_law_made" (sp_lmade R Wr B Pg Sy)) (d__law_plan : Dn P w K mg base CX0 9 "_law_plan" (sp_lplan C))
    (k_Weave : Kn P w K mg base (L2.CX P w) 7 Wv "Weave" (sp_wvinit Pg Sy Tu Wv C TsA)) (k_SerialScheduler : Kn P w K mg base CX0 9 Ss "SerialScheduler" (sp_ssinit Pg Sy Tu Wv C Ss)) (d__law_owners : Dn P w K mg base CX0 1 "_law_owners" sp_lowners) (d__law_places : Dn P w K mg base CX0 1 "_law_places" sp_lplaces) (d__law_weaving : Dn P w K mg base CX0 2 "_law_weaving" sp_lwv)
    (d__law_opened : Dn P w K mg base CX0 1 "_law_opened" sp_lopened) (d__law_serial : Dn P w K mg base CX0 1 "_law_serial" sp_lserial) (d__law_same_pairs : Dn P w K mg base CX0 3 "_law_same_pairs" sp_lalls) (d__law_flag : Dn P w K mg base CX0 1 "_law_flag" sp_lflag) (m_places : Mn P w K mg base CX0 1 Wv "places" (sp_places Tu Wv)) (m_opened : Mn P w K mg base CX0 3 Wv "opened" (sp_openedN Tu Wv)) (m_lets : Mn P w K mg base CX0 4 Ss "lets" (sp_sslets Tu Wv Ss)) :
    FnOk P w K mg base CX0 30 f0 fd0 ["_law_script"] (sp_law K) := by
  have T := X
  have cW := X.cls
  have cS := XS.cls
  refine F0.ok sc_law (fun vs H Q E h => ?_) (fun cdv A outer s H vs Q E hr h => ?_)
  · obtain ⟨a, ns, rfl, _⟩ := h; rfl
  · obtain ⟨a, ns, rfl, ha, hn, q⟩ := h
    refine ⟨_, (pss_cons (ps_set (i := 1) sc_law.nd rfl (Or.inl rfl) (pe_d d__law_pool hr (by decide) pass0 (by rfl) (pa_cons (pv 0) pa_nil)))
      (pss_cons (ps_set (i := 2) sc_law.nd rfl (Or.inl rfl) (pe_d d__law_cells hr (by decide) pass0 (by rfl) (pa_cons (pv 1) pa_nil)))
      (pss_cons (ps_set (i := 3) sc_law.nd rfl (Or.inl rfl) (pe_d d__law_programs hr (by decide) pass0 (by rfl) (pa_cons (pv 1) (pa_cons (pv 2) (pa_cons (pe_d d__law_functions hr (by decide) pass0 (by rfl) (pa_cons (pv 1) pa_nil)) (pa_cons (pe_lst (pa_cons pe_int (pa_cons pe_int (pa_cons pe_int (pa_cons pe_int (pa_cons pe_int pa_nil)))))) pa_nil))))))
      (pss_cons (ps_set (i := 4) sc_law.nd rfl (Or.inl rfl) (pe_d d__law_lanes hr (by decide) pass0 (by rfl) (pa_cons (pv 1) (pa_cons (pv 3) (pa_cons pe_int pa_nil)))))
      (pss_cons (ps_setLc (i := 5) (own := [(".0", 17), ("_law_track", 18)]) (g := (gName 18)) (tt := tYes) rfl sc_law.nd rfl rfl (sw_true rfl rfl rfl (by decide +kernel)) (pi_list (pe_d d__law_tracks hr (by decide) pass0 (by rfl) (pa_cons (pv 3) (pa_cons (pv 4) pa_nil)))) (blkOk_by (N := sc_law_N) (sc := defScope s_law) (by decide +kernel)) (fun _ _ _ _ _ => pg_name (i := 18) sc_law.nd rfl (Or.inl rfl)) (fun _ _ _ _ _ => pts_nil) (fun _ _ _ _ _ => (pe_callB (call_lenK K rfl) (by rfl) T.n_len (by decide +kernel) (pa_cons (pv 18) pa_nil))))
      (pss_cons (ps_set (i := 6) sc_law.nd rfl (Or.inl rfl) (pe_d d__law_made hr (by decide) pass0 (by rfl) (pa_cons (pv 2) (pa_cons (pv 3) pa_nil))))
      (pss_cons (ps_set (i := 7) sc_law.nd rfl (Or.inl rfl) (pe_k k_Weave hr (by decide) passL (by rfl) (pa_cons (pv 6) (pa_cons (pe_d d__law_plan hr (by decide) pass0 (by rfl) (pa_cons (pv 3) (pa_cons (pv 4) pa_nil))) pa_nil))))
      (pss_cons (ps_set (i := 8) sc_law.nd rfl (Or.inl rfl) (pe_k k_SerialScheduler hr (by decide) pass0 (by rfl) (pa_cons (pv 6) (pa_cons (pe_d d__law_plan hr (by decide) pass0 (by rfl) (pa_cons (pv 3) (pa_cons (pv 4) pa_nil))) pa_nil))))
      (pss_cons (ps_set (i := 9) sc_law.nd rfl (Or.inl rfl) (pe_d d__law_owners hr (by decide) pass0 (by rfl) (pa_cons (pv 3) (pa_cons (pv 4) pa_nil))))
      (pss_cons (ps_set (i := 10) sc_law.nd rfl (Or.inl rfl) (pe_d d__law_places hr (by decide) pass0 (by rfl) (pa_cons (pv 9) pa_nil)))
      (pss_cons (ps_for PassesOwn.never rfl (pi_range1 (by rfl) T.n_range (pa_cons pe_int pa_nil)) (pg_name (i := 11) sc_law.nd rfl (Or.inl rfl)) (pss_cons (ps_set (i := 12) sc_law.nd rfl (Or.inl rfl) (pe_d d__law_weaving hr (by decide) pass0 (by rfl) (pa_cons (pv 1) (pa_cons (pv 5) pa_nil))))
      (pss_cons (ps_if (pt_cmpR (op_eqA (hr.units)) (pv 11) pe_int (nomark _)) (pss_cons (ps_set (i := 12) sc_law.nd rfl (Or.inl rfl) (pe_lst pa_nil))
      (pss_one (ps_for PassesOwn.never rfl (pi_range1 (by rfl) T.n_range (pa_cons (pe_callB call_lenA (by rfl) T.n_len (by decide +kernel) (pa_cons (pv 5) pa_nil)) pa_nil)) (pg_name (i := 13) sc_law.nd rfl (Or.inr rfl)) (pss_one (ps_set (i := 12) sc_law.nd rfl (Or.inl rfl) (pe_op op_addA (pv 12) (pe_lc (own := [(".0", 17), ("_law_j", 19)]) (g := (gName 19)) (tt := tYes) rfl sc_law.nd (pi_range1 (by rfl) T.n_range (pa_cons (pe_ix (ix_seqK K rfl) (pv 5) (pv 13) (fun _ _ => rfl)) pa_nil)) (blkOk_by (N := sc_law_N) (sc := defScope s_law) (by decide +kernel)) (fun _ _ _ _ _ => pg_name (i := 19) sc_law.nd rfl (Or.inl rfl)) (fun _ _ _ _ _ => pts_nil) (fun _ _ _ _ _ => (pv 13))))))))) pss_nil)
      (pss_cons (ps_if (pt_cmpR (op_eqA (hr.units)) (pv 11) pe_int (nomark _)) (pss_cons (ps_set (i := 12) sc_law.nd rfl (Or.inl rfl) (pe_lst pa_nil))
      (pss_one (ps_for PassesOwn.never rfl (pi_range1 (by rfl) T.n_range (pa_cons (pe_callB call_lenA (by rfl) T.n_len (by decide +kernel) (pa_cons (pv 5) pa_nil)) pa_nil)) (pg_name (i := 13) sc_law.nd rfl (Or.inr rfl)) (pss_one (ps_set (i := 12) sc_law.nd rfl (Or.inl rfl) (pe_op op_addA (pe_lc (own := [(".0", 17), ("_law_j", 19)]) (g := (gName 19)) (tt := tYes) rfl sc_law.nd (pi_range1 (by rfl) T.n_range (pa_cons (pe_ix (ix_seqK K rfl) (pv 5) (pv 13) (fun _ _ => rfl)) pa_nil)) (blkOk_by (N := sc_law_N) (sc := defScope s_law) (by decide +kernel)) (fun _ _ _ _ _ => pg_name (i := 19) sc_law.nd rfl (Or.inl rfl)) (fun _ _ _ _ _ => pts_nil) (fun _ _ _ _ _ => (pv 13))) (pv 12))))))) pss_nil)
      (pss_cons (ps_set (i := 14) sc_law.nd rfl (Or.inl rfl) (pe_d d__law_opened hr (by decide) pass0 (by rfl) (pa_cons (pv 10) (pa_cons (pv 12) (pa_cons (pe_callB call_lenA (by rfl) T.n_len (by decide +kernel) (pa_cons (pv 5) pa_nil)) pa_nil)))))
      (pss_cons (ps_if (pt_cmpR (op_neA (hr.units)) (pe_cmpR (op_eqA (hr.units)) (pv 14) (pe_lst pa_nil) (nomark _)) (pe_d d__law_serial hr (by decide) pass0 (by rfl) (pa_cons (pv 9) (pa_cons (pv 12) pa_nil))) (nomark _)) (pss_one (ps_ret pe_bl)) pss_nil)
      (pss_cons (ps_set (i := 15) sc_law.nd rfl (Or.inl rfl) (pe_m' m_places T.cls hr (by decide) pass0 (pv 7)))
      (pss_cons (ps_if (pt_not (pt_val (pe_d d__law_same_pairs hr (by decide) pass0 (by rfl) (pa_cons (pv 15) (pa_cons (pv 10) pa_nil))))) (pss_one (ps_ret pe_bl)) pss_nil)
      (pss_cons (ps_expr (pe_bm PySem.F.plainAttrs_list PySem.F.slot_list_append PySem.F.type_list_append mt_append (pv 15) (pa_cons (pe_tup (pa_cons pe_int (pa_cons pe_int pa_nil))) pa_nil)))
      (pss_cons (ps_set (i := 16) sc_law.nd rfl (Or.inl rfl) (pe_callTy call_listA (by rfl) T.n_list (by decide +kernel) (pa_cons (pv 12) pa_nil)))
      (pss_cons (ps_if (pw_or (pt_not (pt_val (pe_d d__law_same_pairs hr (by decide) pass0 (by rfl) (pa_cons (pe_m m_opened cW hr (by decide) pass0 (pv 7) (pa_cons (pv 16) pa_nil)) (pa_cons (pv 14) pa_nil))))) (pw_or1 (pt_cmpR (op_neA (hr.units)) (pv 16) (pv 12) (nomark _)))).pt (pss_one (ps_ret pe_bl)) pss_nil)
      (pss_cons (ps_if (pt_not (pt_val (pe_d d__law_same_pairs hr (by decide) pass0 (by rfl) (pa_cons (pe_m m_opened cW hr (by decide) pass0 (pv 7) (pa_cons (pe_callTy call_tupA (by rfl) T.n_tuple (by decide +kernel) (pa_cons (pv 12) pa_nil)) pa_nil)) (pa_cons (pv 14) pa_nil))))) (pss_one (ps_ret pe_bl)) pss_nil)
      (pss_cons (ps_if (pt_not (pt_val (pe_d d__law_flag hr (by decide) pass0 (by rfl) (pa_cons (pe_m m_lets cS hr (by decide) pass0 (pv 8) (pa_cons (pe_callTy call_tupA (by rfl) T.n_tuple (by decide +kernel) (pa_cons (pv 12) pa_nil)) pa_nil)) (pa_cons (pe_cmpR (op_eqA (hr.units)) (pv 14) (pe_lst pa_nil) (nomark _)) pa_nil))))) (pss_one (ps_ret pe_bl)) pss_nil)
      (pss_one (ps_if (pt_not (pt_val (pe_d d__law_flag hr (by decide) pass0 (by rfl) (pa_cons (pe_m m_lets cS hr (by decide) pass0 (pv 8) (pa_cons (pe_callTy call_listA (by rfl) T.n_list (by decide +kernel) (pa_cons (pv 12) pa_nil)) pa_nil)) (pa_cons (pe_cmpR (op_eqA (hr.units)) (pv 14) (pe_lst pa_nil) (nomark _)) pa_nil))))) (pss_one (ps_ret pe_bl)) pss_nil)))))))))))))))
      (pss_one (ps_ret pe_bl))))))))))))), ?_⟩
    refine UX.seq_cut4 (fun σ1 H1 => ∃ (p ca r la : Addr) (cs fs : List Str) (qs : List Rw) (Ls : List (List Nat)), σ1 = [some (.ref a), some (.ref p), some (.ref ca), some (.ref r), some (.ref la), none, none, none, none, none, none, none, none, none, none, none, none, none, none, none] ∧ Pl H1 p ∧ H1 ca = some (.lst (cs.map V.str)) ∧ PrL H1 r qs ∧ LanH H1 la Ls ∧ LanOk qs Ls ∧ totN qs Ls ≤ 8 ∧ 1 ≤ cs.length ∧ cs.length ≤ 3 ∧ (∀ z ∈ cs, isNm z) ∧ cs.Nodup ∧ fs.Nodup ∧ (∀ q ∈ qs, RwG cs fs q) ∧ qs.length ≤ 4 ∧ (qs.map (·.n)).Nodup) (fun tl htl => ?_) fun σ1 H1 hm => ?_
    · walk_at "rd"
      refine ⟨a, ns, rfl, ha, hn, fun p H1 hp0 hp1 s1 => ⟨p, rfl, hp1, fun ca H2 cs c1 c3 icn cnd hca0 hca hp2 b2 => ⟨p, rfl, hp2, fun fa H3 fs f2 f5 ifn fnd hfa0 hfa hp3 b3 => ⟨by rw [sizeLine_eq]; decide, fun m hm => ?_⟩⟩⟩⟩
      have npc : p ≠ ca := hp1.ne hca0
      have npf : p ≠ fa := hp2.ne hfa0
      have npm : p ≠ m := hp3.ne hm
      have hca3 := b3 _ _ hca (Ne.symm npc)
      refine ⟨p, ca, fa, m, cs, fs, [2, 3, 1, 0, 4], rfl, hp3.put npm, UL.Same.new hm _ _ hca3, UL.Same.new hm _ _ hfa, upd_same, npc, npf, npm, by simp, by decide, c1, c3, f2, f5, icn, ifn, fun r qs H4 hr0 hr hq hql hqn hp4 b4 => ?_⟩
      have hca4 := b4 _ _ (UL.Same.new hm _ _ hca3) (Ne.symm npc)
      have rp : r ≠ p := Ne.symm ((hp3.put npm).ne hr0)
      have pr4 : PrL H4 r qs := ⟨hr, fun q hq0 => (hq q hq0).1⟩
      refine ⟨p, r, 8, qs, rfl, hp4, pr4, rp, fun q hq0 => ⟨fun e => (hq q hq0).2.2 (by simp [e]), (hq q hq0).2.1.1, (hq q hq0).2.1.2.1, (hq q hq0).2.1.2.2.2⟩, hql, by decide, fun la Ls H5 ⟨hla0, _⟩ hla hlok htot hp5 b5 => ?_⟩
      refine htl _ _ ⟨p, ca, r, la, cs, fs, qs, Ls, rfl, hp5, b5 _ _ hca4 (Ne.symm npc), ⟨b5 _ _ hr rp, fun q hq0 => ((hq q hq0).1).but hp4 (fun e => (hq q hq0).2.2 (by simp [e])) b5⟩, hla, hlok, htot, c1, c3, icn, cnd, fnd, fun q hq0 => (hq q hq0).2.1, hql, hqn⟩
    obtain ⟨p, ca, r, la, cs, fs, qs, Ls, rfl, hp, hca, hr0, hla, hlok, htot, c1, c3, icn, cnd, fnd, hqg, hql, hqn⟩ := hm
    refine UX.seq_cut6 (fun σ2 H2 => ∃ (le y x ss ow pc : Addr) (TT : List (List Trn)) (ts : List Addr), σ2 = [some (.ref a), some (.ref p), some (.ref ca), some (.ref r), some (.ref la), some (.ref le), some (.ref y), some (.ref x), some (.ref ss), some (.ref ow), some (.ref pc), none, none, none, none, none, none, none, none, none] ∧ K17 Wv Tu Ss H2 p le x ss ow pc (Ls.map (lenN qs)) TT (Ls.map (ownA qs)) ts) (fun tl htl => ?_) fun σ2 H2 hm => ?_
    · walk_at "rd"
      have hq4 : ∀ q ∈ qs, q.rs.length ≤ 4 := fun q0 hq0 => by
        have := plenW (hr0.2 q0 hq0).2.2
        have := (hqg q0 hq0).2.2.2
        omega
      have hrk : ∀ q ∈ qs, q.rs.length = q.ks.length := fun q0 hq0 => plenW (hr0.2 q0 hq0).2.2
      refine ⟨r, la, qs, Ls, rfl, hr0, hq4, hla, hlok, fun xt ts H2 xt0 ext pts s2 => ⟨xt, rfl, ⟨_, .inl (.inl ext)⟩, fun D hD => LJ.it (walk_list (xs := ts.map V.ref)) (fun i H3 => H3 D = some (.lst (((Ls.map (lenN qs)).take i).map fun (n : Nat) => V.int n)) ∧ Same H2 H3) ⟨upd_same, UL.Same.new hD⟩ (fun i H3 _ inv => .inl (.inl (inv.2 _ _ ext))) (fun i y H3 H4 hi inv yy => ?_) fun H3 inv => ?_⟩⟩
      · obtain ⟨rfl, hx⟩ := yy
        obtain ⟨eD, s3⟩ := inv
        obtain ⟨t, hti, rfl⟩ := ratW hx
        obtain ⟨S, hS, _, ht⟩ := patW pts hti
        rw [List.getElem?_map] at hS
        obtain ⟨L, hL, rfl⟩ := Option.map_eq_some_iff.mp hS
        refine ⟨rfl, ?_⟩
        walk_at "rd"
        have l3 := hlok.1
        refine lenL (.inl (.inl (s3 _ _ ht))) ⟨_, eD, by rw [List.length_map, List.length_take, List.length_map, sizeLine_eq]; omega, ?_, UL.Same.put s3 hD⟩
        rw [upd_same, List.take_add_one, List.getElem?_map, hL, List.map_append, List.length_map, trk_len hrk]
        rfl
      obtain ⟨eD, s3⟩ := inv
      have lt : (ts.map V.ref).length = (Ls.map (lenN qs)).length := by rw [List.length_map, plenW pts, List.length_map, List.length_map]
      rw [lt, List.take_length] at eD
      have s13 : Same H1 H3 := Same.tr s2 s3
      have hr3 := hr0.same s13
      refine ⟨ca, r, cs, fs, qs, rfl, s13 _ _ hca, hr3, c1, c3, icn, cnd, fnd, hqg, hql, hqn, fun y pd ad nn ccl dy ms H4 hms hpg hy yo hft _ s4 hy0 => ?_⟩
      have hr4 := hr3.same s4
      have hla4 := (hla.same s13).same s4
      refine ⟨r, la, qs, Ls, rfl, hr4, hla4, hlok, fun pl zs H5 hpl hzs s5 => fun x dx hx hdx nx => ?_⟩
      have hp5 : Pl H5 p := let ⟨ms, e⟩ := hp; ⟨ms, s5 _ _ (s4 _ _ (s13 _ _ e))⟩
      have s56 : Same H5 (upd (upd H5 dx (.own x)) x (.ins Wv dx [])) := Same.tr (UL.Same.new hdx) (UL.Same.new (by rw [upd_ne (Ne.symm nx)]; exact hx))
      have ex : upd (upd H5 dx (.own x)) x (.ins Wv dx []) x = some (.ins Wv dx []) := upd_same
      generalize upd (upd H5 dx (.own x)) x (.ins Wv dx []) = H6 at s56 ex ⊢
      have s46 := Same.tr s5 s56
      obtain ⟨fS, hfS⟩ := fso_ex (by
        have e : ms.map (·.2.n) = (ms.map (·.2)).map (·.n) := by rw [List.map_map]; rfl
        rw [e, hms]; exact hqn) hpg
      obtain ⟨hfl, rdy⟩ := wv_ready hqg hms hfS s46 hlok hzs
      have lens := plTr_lens hfl fun L hL => (hlok.2 L hL).2
      have occ := plTr_occ hfl fun L hL => (hlok.2 L hL).2
      have z3 : ∀ {zs : Ln}, zs.map (·.2) = Ls.map (nmsOf qs) → zs.length ≤ 3 := fun e => by
        have := congrArg List.length e
        rw [List.length_map, List.length_map] at this
        have := hlok.1
        omega
      have lens2 := lens
      have lTT : (plTr fS (Ls.map (nmsOf qs))).length ≤ 3 := by
        have := congrArg List.length lens
        rw [List.length_map, List.length_map] at this
        have := hlok.1
        omega
      refine ⟨x, y, pl, dx, pd, ad, cs, _, _, fS, zs, rfl, ex, yo.same s46, hpl.same s56, z3 hzs, rdy, fun _ H7 tu ln fd ⟨hfd0, nw⟩ hfd hwa b7 => ⟨rfl, ?_⟩, fun h => by rw [hzs, lens] at h; exact absurd h (Nat.not_lt.mpr htot)⟩
      rw [hzs] at hwa
      have s57 : Same H5 H7 := fun c o e => b7 _ _ (s56 _ _ e) (ne_of_none e hx)
      have hp6 : Pl H6 p := let ⟨ms, e⟩ := hp5; ⟨ms, s56 _ _ e⟩
      have hp7 : Pl H7 p := let ⟨ms, e⟩ := hp5; ⟨ms, s57 _ _ e⟩
      have wp7 := wvp_of hwa hp6 nw
      have s47 := Same.tr s5 s57
      refine ⟨r, la, qs, Ls, rfl, hr4.same s47, hla4.same s47, hlok, fun pl2 zs2 H8 hpl2 hzs2 s8 => fun ss dxs hss hdxs nxs => ?_⟩
      have s89 : Same H8 (upd (upd H8 dxs (.own ss)) ss (.ins Ss dxs [])) := Same.tr (UL.Same.new hdxs) (UL.Same.new (by rw [upd_ne (Ne.symm nxs)]; exact hss))
      have ess0 : upd (upd H8 dxs (.own ss)) ss (.ins Ss dxs []) ss = some (.ins Ss dxs []) := upd_same
      generalize upd (upd H8 dxs (.own ss)) ss (.ins Ss dxs []) = H9 at s89 ess0 ⊢
      have s49 := Same.tr s47 (Same.tr s8 s89)
      obtain ⟨_, rdy2⟩ := wv_ready hqg hms hfS s49 hlok hzs2
      refine ⟨ss, y, pl2, dxs, pd, ad, cs, _, _, fS, zs2, rfl, ess0, yo.same s49, hpl2.same s89, z3 hzs2, rdy2, by rw [hzs2, lens]; exact htot, fun H10 w d tu2 ln2 fd2 w0 ⟨fd0, nw2⟩ efd2 hwa2 ess d0 ed b10 => ⟨rfl, ?_⟩⟩
      rw [hzs2] at hwa2
      have s810 : Same H8 H10 := fun c o e => b10 _ _ (s89 _ _ e) (ne_of_none e hss)
      have s710 := Same.tr s8 s810
      have hp8 : Pl H8 p := let ⟨ms, e⟩ := hp7; ⟨ms, s8 _ _ e⟩
      have hp9 : Pl H9 p := let ⟨ms, e⟩ := hp8; ⟨ms, s89 _ _ e⟩
      have hp10 : Pl H10 p := let ⟨ms, e⟩ := hp8; ⟨ms, s810 _ _ e⟩
      have wp10 := wvp_of hwa2 hp9 nw2
      have s410 := Same.tr s47 s710
      refine ⟨r, la, qs, Ls, rfl, hr4.same s410, hla4.same s410, hlok, fun q0 hq0 => (hqg q0 hq0).2.2.2, fun ow H11 ow0 how s11 => ?_⟩
      have hp11 : Pl H11 p := let ⟨ms, e⟩ := hp10; ⟨ms, s11 _ _ e⟩
      have lO : (Ls.map (ownA qs)).length ≤ 3 := by rw [List.length_map]; exact hlok.1
      have lU : ∀ us ∈ Ls.map (ownA qs), us.length ≤ 100 := fun us hus => by
        obtain ⟨L, hL, rfl⟩ := List.mem_map.mp hus
        rw [own_len (hlok.2 L hL).2]
        have := yMem (List.mem_map_of_mem (f := lenN qs) hL)
        have : (Ls.map (lenN qs)).sum ≤ 8 := htot
        omega
      refine ⟨ow, _, rfl, how.here, lO, lU, fun pc ts H12 pc0 hpc s12 => ?_⟩
      have s1012 := Same.tr s11 s12
      have np : ∀ {H : Hp}, Pl H p → ∀ o, H p = some o → ∃ ms : List V, o = .lst ms := fun ⟨ms, z⟩ o e => by rw [z] at e; exact ⟨_, (Option.some.inj e).symm⟩
      refine htl _ _ ⟨D, y, x, ss, ow, pc, _, ts, rfl, ⟨let ⟨ms, e⟩ := hp11; ⟨ms, s12 _ _ e⟩, ?_, npl (let ⟨ms, e⟩ := hp; ⟨ms, s2 _ _ e⟩) hD, ⟨tu, ln, fd, ?_⟩, ⟨dxs, w, d, tu2, ln2, fd2, s1012 _ _ ess, ?_⟩, lens, lTT, htot, occ, (off_new hp10 how).same s12, off_new hp11 hpc⟩⟩
      · exact s1012 _ _ (s710 _ _ (s47 _ _ (s4 _ _ eD)))
      · exact wp7.kp (np hp7) fun c o e _ _ => s1012 _ _ (s710 _ _ e)
      · exact wp10.kp (np hp10) fun c o e _ _ => s1012 _ _ e
    obtain ⟨le, y, x, ss, ow, pc, TT, ts, rfl, S⟩ := hm
    generalize hls : Ls.map (lenN qs) = ls at S
    generalize hO : Ls.map (ownA qs) = O at S
    have hOl : O.map List.length = ls := by
      rw [← hO, ← hls, List.map_map]
      exact List.map_congr_left fun L hL => own_len (hlok.2 L hL).2
    have l3 : ls.length ≤ 3 := by rw [← hls, List.length_map]; exact hlok.1
    have lO : O.length = ls.length := by rw [← hOl, List.length_map]
    have lU : ∀ us ∈ O, us.length ≤ 100 := fun us hus => by
      have := yMem (List.mem_map_of_mem (f := List.length) hus)
      rw [hOl] at this
      have := S.s8
      omega
    have lTU : ∀ us ∈ TT, us.length ≤ 100 := fun us hus => by
      have := yMem (List.mem_map_of_mem (f := List.length) hus)
      rw [S.eq] at this
      have := S.s8
      omega
    have hpl : plcs TT TT.length = plO O O.length := by
      rw [plcs_occ, S.oc]
      congr 1
      rw [← S.oc, List.length_map]
    clear hla hca hr0
    walk_at "rd"
    refine ⟨by omega, by omega, FJ.rangeI (fun i σ' H' => (∃ z11 z12 z13 z14 z15 z16, σ' = [some (.ref a), some (.ref p), some (.ref ca), some (.ref r), some (.ref la), some (.ref le), some (.ref y), some (.ref x), some (.ref ss), some (.ref ow), some (.ref pc), z11, z12, z13, z14, z15, z16, none, none, none]) ∧ K17 Wv Tu Ss H' p le x ss ow pc ls TT O ts) (by omega) ⟨⟨_, _, _, _, _, _, rfl⟩, S⟩ (fun i σ' H1 hi inv => ?_) fun σ' H' inv => ?_⟩
    · obtain ⟨⟨z11, z12, z13, z14, z15, z16, rfl⟩, S⟩ := inv
      refine UX.seq_cut (fun σ2 H2 => ∃ (w : Addr) (wv : List Nat), σ2 = [some (.ref a), some (.ref p), some (.ref ca), some (.ref r), some (.ref la), some (.ref le), some (.ref y), some (.ref x), some (.ref ss), some (.ref ow), some (.ref pc), some (.int ((i : Nat) : Int)), some (.ref w), z13, z14, z15, z16, none, none, none] ∧ K17 Wv Tu Ss H2 p le x ss ow pc ls TT O ts ∧ H2 w = some (.lst (natW wv)) ∧ w ≠ p ∧ OkN ls wv ∧ wv.length = ls.sum) (fun tl htl => ?_) fun σ2 H2 hm => ?_
      · walk_at "rd"
        refine ⟨p, le, ls, rfl, S.pl, S.hle, S.lep, l3, Nat.le_trans S.s8 (by decide), fun w wv H2 w0 ew hok hln p2 b2 => htl _ _ ⟨w, wv, rfl, S.but b2 p2, by rw [natW_eq]; exact ew, npl S.pl w0, hok, hln⟩⟩
      obtain ⟨w, wv, rfl, S, ew, wp, hok, hln⟩ := hm
      refine UX.seq_cut (fun σ2 H2 => ∃ (w : Addr) (wv : List Nat) (z13 : Option V), σ2 = [some (.ref a), some (.ref p), some (.ref ca), some (.ref r), some (.ref la), some (.ref le), some (.ref y), some (.ref x), some (.ref ss), some (.ref ow), some (.ref pc), some (.int ((i : Nat) : Int)), some (.ref w), z13, z14, z15, z16, none, none, none] ∧ K17 Wv Tu Ss H2 p le x ss ow pc ls TT O ts ∧ H2 w = some (.lst (natW wv)) ∧ w ≠ p ∧ OkN ls wv ∧ wv.length = ls.sum) (fun tl htl => ?_) fun σ3 H3 hm => ?_
      · walk_at "rd"
        by_cases c : ((i : Nat) : Int) = 6
        · rw [if_pos c]
          intro w1 hw1
          have s1 : Same H2 (upd H2 w1 (.lst [])) := UL.Same.new hw1
          refine lenL (.inl (.inl (s1 _ _ S.hle))) ⟨_, rfl, by omega, by rw [List.length_map]; omega, FJ.rangeI (fun j σ' H' => ∃ (w : Addr) (z13 : Option V), σ' = [some (.ref a), some (.ref p), some (.ref ca), some (.ref r), some (.ref la), some (.ref le), some (.ref y), some (.ref x), some (.ref ss), some (.ref ow), some (.ref pc), some (.int ((i : Nat) : Int)), some (.ref w), z13, z14, z15, z16, none, none, none] ∧ H' w = some (.lst (natW (blk ls (List.range j)))) ∧ w ≠ p ∧ Same H2 H') (by omega) ⟨w1, _, rfl, upd_same, npl S.pl hw1, s1⟩ (fun j σ' H' hj inv => ?_) fun σ' H' inv => ?_⟩
          · obtain ⟨w2, z13, rfl, ew2, wp2, s2⟩ := inv
            rw [List.length_map] at hj
            have hj' : j < ls.length := by omega
            have S2 := S.same s2
            have l8 := S.s8
            have lb : ∀ n, n ≤ ls.length → (blk ls (List.range n)).length ≤ 8 := fun n hn => Nat.le_trans (blk_len hn) l8
            have lb1 := lb j (by omega)
            have lb2 := lb (j + 1) (by omega)
            rw [List.range_succ, blk_app, List.length_append, List.length_replicate] at lb2
            have ej : ls[j]? = some ls[j] := List.getElem?_eq_getElem hj'
            have ejg : ls[j]?.getD 0 = ls[j] := by rw [ej]; rfl
            rw [ejg] at lb2
            walk_at "rd"
            refine ixL (.inl (.inl S2.hle)) (atN (natW_at ej)) ⟨_, rfl, by omega, by omega, fun D hD => ?_⟩
            refine LJ.it walk_range (fun m H7 => H7 D = some (.lst (natW (List.replicate m j))) ∧ Same H' H7) ⟨upd_same, UL.Same.new hD⟩ (fun _ _ _ _ => trivial) (fun m z H7 H8 hm inv yy => ?_) fun H7 inv => ?_
            · obtain ⟨rfl, hz⟩ := yy
              obtain ⟨eD, s7⟩ := inv
              refine ⟨rfl, ?_⟩
              walk_at "rd"
              refine ⟨_, eD, by rw [natW_len, List.length_replicate, sizeLine_eq]; omega, ?_, UL.Same.put s7 hD⟩
              rw [upd_same]
              unfold natW
              rw [← List.replicate_succ, List.replicate_succ', List.map_append]; rfl
            · obtain ⟨eD, s7⟩ := inv
              rw [Int.toNat_natCast] at eD
              refine catL (s7 _ _ ew2) eD (by rw [natW_len, natW_len, List.length_replicate, sizeLine_eq]; omega) fun p2 hp2 => ⟨p2, ⟨rfl, _, rfl⟩, ?_, npl (S2.same s7).pl hp2, Same.tr s2 (Same.tr s7 (UL.Same.new hp2))⟩
              rw [upd_same, List.range_succ, blk_app, ejg]
              unfold natW
              rw [List.map_append]
          · obtain ⟨w2, z13, rfl, ew2, wp2, s2⟩ := inv
            rw [List.length_map, Int.toNat_natCast] at ew2
            exact htl _ _ ⟨w2, _, _, rfl, S.same s2, ew2, wp2, blk_ok List.nodup_range fun l hl => List.mem_range.mp hl, blk_sum⟩
        · rw [if_neg c]
          exact htl _ _ ⟨w, wv, _, rfl, S, ew, wp, hok, hln⟩
      obtain ⟨w, wv, z13, rfl, S, ew, wp, hok, hln⟩ := hm
      refine UX.seq_cut (fun σ2 H2 => ∃ (w : Addr) (wv : List Nat) (z13 : Option V), σ2 = [some (.ref a), some (.ref p), some (.ref ca), some (.ref r), some (.ref la), some (.ref le), some (.ref y), some (.ref x), some (.ref ss), some (.ref ow), some (.ref pc), some (.int ((i : Nat) : Int)), some (.ref w), z13, z14, z15, z16, none, none, none] ∧ K17 Wv Tu Ss H2 p le x ss ow pc ls TT O ts ∧ H2 w = some (.lst (natW wv)) ∧ w ≠ p ∧ OkN ls wv ∧ wv.length = ls.sum) (fun tl htl => ?_) fun σ4 H4 hm => ?_
      · walk_at "rd"
        by_cases c : ((i : Nat) : Int) = 7
        · rw [if_pos c]
          intro w1 hw1
          have s1 : Same H3 (upd H3 w1 (.lst [])) := UL.Same.new hw1
          refine lenL (.inl (.inl (s1 _ _ S.hle))) ⟨_, rfl, by omega, by rw [List.length_map]; omega, FJ.rangeI (fun j σ' H' => ∃ (w : Addr) (z13 : Option V), σ' = [some (.ref a), some (.ref p), some (.ref ca), some (.ref r), some (.ref la), some (.ref le), some (.ref y), some (.ref x), some (.ref ss), some (.ref ow), some (.ref pc), some (.int ((i : Nat) : Int)), some (.ref w), z13, z14, z15, z16, none, none, none] ∧ H' w = some (.lst (natW (blk ls (List.range j).reverse))) ∧ w ≠ p ∧ Same H3 H') (by omega) ⟨w1, _, rfl, upd_same, npl S.pl hw1, s1⟩ (fun j σ' H' hj inv => ?_) fun σ' H' inv => ?_⟩
          · obtain ⟨w2, z13, rfl, ew2, wp2, s2⟩ := inv
            rw [List.length_map] at hj
            have hj' : j < ls.length := by omega
            have S2 := S.same s2
            have l8 := S.s8
            have lb : ∀ n, n ≤ ls.length → (blk ls (List.range n).reverse).length ≤ 8 := fun n hn => Nat.le_trans (by rw [blk_rev]; exact blk_len hn) l8
            have lb1 := lb j (by omega)
            have lb2 := lb (j + 1) (by omega)
            have er : (List.range (j + 1)).reverse = j :: (List.range j).reverse := by rw [List.range_succ, List.reverse_append]; rfl
            rw [er, blk_cons, List.length_append, List.length_replicate] at lb2
            have ej : ls[j]? = some ls[j] := List.getElem?_eq_getElem hj'
            have ejg : ls[j]?.getD 0 = ls[j] := by rw [ej]; rfl
            rw [ejg] at lb2
            walk_at "rd"
            refine ixL (.inl (.inl S2.hle)) (atN (natW_at ej)) ⟨_, rfl, by omega, by omega, fun D hD => ?_⟩
            refine LJ.it walk_range (fun m H7 => H7 D = some (.lst (natW (List.replicate m j))) ∧ Same H' H7) ⟨upd_same, UL.Same.new hD⟩ (fun _ _ _ _ => trivial) (fun m z H7 H8 hm inv yy => ?_) fun H7 inv => ?_
            · obtain ⟨rfl, hz⟩ := yy
              obtain ⟨eD, s7⟩ := inv
              refine ⟨rfl, ?_⟩
              walk_at "rd"
              refine ⟨_, eD, by rw [natW_len, List.length_replicate, sizeLine_eq]; omega, ?_, UL.Same.put s7 hD⟩
              rw [upd_same]
              unfold natW
              rw [← List.replicate_succ, List.replicate_succ', List.map_append]; rfl
            · obtain ⟨eD, s7⟩ := inv
              rw [Int.toNat_natCast] at eD
              refine catL eD (s7 _ _ ew2) (by rw [natW_len, natW_len, List.length_replicate, sizeLine_eq]; omega) fun p2 hp2 => ⟨p2, ⟨rfl, _, rfl⟩, ?_, npl (S2.same s7).pl hp2, Same.tr s2 (Same.tr s7 (UL.Same.new hp2))⟩
              rw [upd_same, er, blk_cons, ejg]
              unfold natW
              rw [List.map_append]
          · obtain ⟨w2, z13, rfl, ew2, wp2, s2⟩ := inv
            rw [List.length_map, Int.toNat_natCast] at ew2
            exact htl _ _ ⟨w2, _, _, rfl, S.same s2, ew2, wp2, blk_ok (List.pairwise_reverse.mpr (List.nodup_range.imp fun h => Ne.symm h)) fun l hl => List.mem_range.mp (List.mem_reverse.mp hl), by rw [blk_rev]; exact blk_sum⟩
        · rw [if_neg c]
          exact htl _ _ ⟨w, wv, _, rfl, S, ew, wp, hok, hln⟩
      obtain ⟨w, wv, z13, rfl, S, ew, wp, hok, hln⟩ := hm
      have ew' : H4 w = some (.lst ((nI wv).map V.int)) := by rw [← natW_eq]; exact ew
      have hokO : OkN (O.map List.length) wv := by rw [hOl]; exact hok
      have w8 : wv.length ≤ 8 := by rw [hln]; exact S.s8
      have hpp : ∀ q ∈ plO O O.length, q.1 < ls.length ∧ 1 ≤ q.2 ∧ q.2 < wv.count q.1 := fun q hq => by
        obtain ⟨us, j, k, e, e0, e1, e2⟩ := plO_mem.mp hq
        have il := (List.getElem?_eq_some_iff.mp e).1
        have := okN_full hokO (by rw [hOl]; exact hln) q.1 (by rw [List.length_map]; exact il)
        rw [List.getElem?_map, e] at this
        have : wv.count q.1 = us.length := this
        have := (List.getElem?_eq_some_iff.mp e2).1
        omega
      have plen := plO_len lU O.length
      refine UX.seq_cut2 (fun σ2 H2 => ∃ (d : Addr) (us : List Addr), σ2 = [some (.ref a), some (.ref p), some (.ref ca), some (.ref r), some (.ref la), some (.ref le), some (.ref y), some (.ref x), some (.ref ss), some (.ref ow), some (.ref pc), some (.int ((i : Nat) : Int)), some (.ref w), z13, some (.ref d), z15, z16, none, none, none] ∧ H2 d = some (.lst (us.map V.ref)) ∧ PlcH H2 us ((plO O O.length).filter (opnN wv)) ∧ Same H4 H2) (fun tl htl => ?_) fun σ5 H5 hm => ?_
      · walk_at "rd"
        refine lenL (.inl (.inl S.hle)) ⟨pc, w, ts, _, wv, ls.length, by rw [List.length_map], S.hpc.here.1, S.hpc.here.2, ew', w8, l3, by omega, hpp, fun d us H5 d0 ed hus s5 => fun e0 he0 => ?_⟩
        have s6 : Same H5 (upd H5 e0 (.lst [])) := UL.Same.new he0
        have ee : upd H5 e0 (.lst []) e0 = some (.lst []) := upd_same
        generalize upd H5 e0 (.lst []) = H6 at s6 ee ⊢
        refine eqP0 (hus.same s6) (s6 _ _ ed) ee ?_
        have S6 := S.same (Same.tr s5 s6)
        refine ⟨ow, w, O, wv, rfl, S6.how.here, by omega, lU, s6 _ _ (s5 _ _ ew'), w8, hokO, fun H7 s7 => ?_⟩
        rw [serial_iff hokO (by rw [hOl]; exact hln)]
        refine UX.neDD (.bl _) (.bl _) (UX.Sh.bl _) (UX.Sh.bl _) (q := ⟨_, rfl, ?_⟩)
        rw [UX.eqv_same (UX.Sh.bl _), if_neg (by decide)]
        exact htl _ _ ⟨d, us, rfl, s7 _ _ (s6 _ _ ed), (hus.same s6).same s7, Same.tr s5 (Same.tr s6 s7)⟩
      obtain ⟨d, us, rfl, ed, hus, s45⟩ := hm
      have S5 := S.same s45
      have ew5 := s45 _ _ ew'
      refine UX.seq_cut3 (fun σ2 H2 => ∃ (z15 : Option V), σ2 = [some (.ref a), some (.ref p), some (.ref ca), some (.ref r), some (.ref la), some (.ref le), some (.ref y), some (.ref x), some (.ref ss), some (.ref ow), some (.ref pc), some (.int ((i : Nat) : Int)), some (.ref w), z13, some (.ref d), z15, z16, none, none, none] ∧ Same H5 H2) (fun tl htl => ?_) fun σ6 H6 hm => ?_
      · walk_at "rd"
        obtain ⟨tu, ln, fd, hwv⟩ := S5.hx
        obtain ⟨dxw, tsw, hx5, _⟩ := id hwv.wv
        refine ⟨dxw, _, hx5, rfl, x, tu, ln, fd, TT, rfl, hwv.wv, S5.t3, lTU, fun l ts2 H6 l0 el hts2 s6 => ?_⟩
        rw [hpl] at hts2
        have S6 := S5.same s6
        have lt2 := plenW hts2
        refine ⟨l, pc, ts2, ts, _, rfl, el, S6.hpc.here.1, ts3_of hts2, ts3_of S6.hpc.here.2, by rw [List.length_map]; omega, ts3_len, true, rfl, ?_⟩
        rw [if_neg (by decide)]
        refine ⟨.inl ⟨rfl, _, .inl (.inl el)⟩, by rw [sizeLine_eq]; decide, fun p1 hp1 => ?_⟩
        have s7 : Same H6 (upd H6 p1 (.tup [V.int 0, V.int 0])) := UL.Same.new hp1
        refine ⟨l, _, _, rfl, rfl, s7 _ _ el, by rw [List.length_map, sizeLine_eq]; omega, htl _ _ ⟨_, rfl, UL.Same.put (Same.tr s6 s7) l0⟩⟩
      obtain ⟨z15, rfl, s56⟩ := hm
      have S6 := S5.same s56
      have ew6 := s56 _ _ ew5
      have hus6 := hus.same s56
      have ed6 := s56 _ _ ed
      have lus := plenW hus
      have lfl := List.length_filter_le (opnN wv) (plO O O.length)
      obtain ⟨tu, ln, fd, hwv⟩ := S6.hx
      obtain ⟨dxw, tsw, hx6, _⟩ := id hwv.wv
      have opd : ∀ {b : Addr} {H7 : Hp} {R : VK} {E' : XK}, Same H6 H7 → LoT H7 b ((nI wv).map V.int) → (∀ H8, Same H7 H8 → R (.bl true) H8) → sp_openedN Tu Wv [.ref x, .ref b] H7 (fun v H8 => sp_lalls [v, .ref d] H8 R E') E' := fun {b H7 R E'} s7 hb hR => by
        refine ⟨x, tu, ln, fd, b, TT, wv, rfl, hwv.wv.same s7, hb, by rw [S.eq]; exact hln, w8, S.t3, by rw [S.eq]; exact hok, fun l us2 H8 l0 el hus2 s8 => ?_⟩
        rw [hpl] at hus2
        have s68 := Same.tr s7 s8
        have lu2 := plenW hus2
        exact ⟨l, d, us2, us, _, rfl, el, s68 _ _ ed6, ts3_of hus2, ts3_of (hus6.same s68), by rw [List.length_map]; omega, ts3_len, hR H8 s8⟩
      refine UX.seq_cut3 (fun σ2 H2 => ∃ (z16 : Option V), σ2 = [some (.ref a), some (.ref p), some (.ref ca), some (.ref r), some (.ref la), some (.ref le), some (.ref y), some (.ref x), some (.ref ss), some (.ref ow), some (.ref pc), some (.int ((i : Nat) : Int)), some (.ref w), z13, some (.ref d), z15, z16, none, none, none] ∧ Same H6 H2) (fun tl htl => ?_) fun σ7 H7 hm => ?_
      · walk_at "rd"
        refine ⟨w, _, rfl, .inl (.inl (.inl ew6)), fun pd hpd => ?_⟩
        have s7 : Same H6 (upd H6 pd (.lst ((nI wv).map V.int))) := UL.Same.new hpd
        have epd : upd H6 pd (.lst ((nI wv).map V.int)) pd = some (.lst ((nI wv).map V.int)) := upd_same
        generalize upd H6 pd (.lst ((nI wv).map V.int)) = H7 at s7 epd ⊢
        refine ⟨dxw, _, s7 _ _ hx6, rfl, opd s7 (.inl epd) fun H8 s8 => ⟨true, rfl, ?_⟩⟩
        rw [if_neg (by decide)]
        have s68 := Same.tr s7 s8
        refine neLL (xs := (nI wv).map V.int) nI_fl (.inl (.inl (s8 _ _ epd))) (.inl (.inl (s68 _ _ ew6))) ⟨false, rfl, ?_⟩
        rw [if_neg (by decide)]
        refine ⟨dxw, _, s68 _ _ hx6, rfl, LoT.tup (.inl (s68 _ _ ew6)) fun t H9 s9 et => opd (Same.tr s68 s9) (.inr et) fun H10 s10 => ⟨true, rfl, ?_⟩⟩
        rw [if_neg (by decide)]
        exact htl _ _ ⟨_, rfl, Same.tr s68 (Same.tr s9 s10)⟩
      obtain ⟨z16, rfl, s67⟩ := hm
      walk_at "rd"
      obtain ⟨dxs, ws, dd, tu2, ln2, fd2, ess, hws⟩ := S6.hss
      have lets : ∀ {b : Addr} {H8 : Hp} {R : VK} {E' : XK}, Same H6 H8 → LoT H8 b ((nI wv).map V.int) → (∀ H9, Same H8 H9 → R (.bl true) H9) → sp_sslets Tu Wv Ss [.ref ss, .ref b] H8 (fun v H9 => ∀ e0, H9 e0 = none → rEqA K (.ref d) (.ref e0) (upd H9 e0 (.lst [])) fun v2 H10 => sp_lflag [v, v2] H10 R E') E' := fun {b H8 R E'} s8 hb hR => by
        refine ⟨ss, dxs, ws, dd, tu2, ln2, fd2, b, TT, wv, rfl, s8 _ _ ess, hws.wv.same s8, hb, by rw [S.eq]; exact hln, w8, S.t3, by rw [S.eq]; exact hok, fun H9 s9 e0 he0 => ?_⟩
        have s10 : Same H9 (upd H9 e0 (.lst [])) := UL.Same.new he0
        have s610 := Same.tr s8 (Same.tr s9 s10)
        refine eqP0 (hus6.same s610) (s610 _ _ ed6) upd_same ?_
        rw [hpl]
        exact ⟨_, rfl, hR _ (Same.tr s9 s10)⟩
      refine ⟨dxs, _, s67 _ _ ess, rfl, LoT.tup (.inl (s67 _ _ ew6)) fun t H8 s8 et => lets (Same.tr s67 s8) (.inr et) fun H9 s9 => ⟨true, rfl, ?_⟩⟩
      rw [if_neg (by decide)]
      have s69 := Same.tr s67 (Same.tr s8 s9)
      refine ⟨dxs, _, s69 _ _ ess, rfl, w, _, rfl, .inl (.inl (.inl (s69 _ _ ew6))), fun l hl => lets (Same.tr s69 (UL.Same.new hl)) (.inl upd_same) fun H10 s10 => ⟨true, rfl, ?_⟩⟩
      rw [if_neg (by decide)]
      exact ⟨⟨_, rfl⟩, S6.same (Same.tr s69 (Same.tr (UL.Same.new hl) s10))⟩
    · obtain ⟨⟨z11, z12, z13, z14, z15, z16, rfl⟩, S⟩ := inv
      walk_at "rd"
      exact q H'
end
end U
set_option Elab.async false
set_option linter.all false
set_option maxRecDepth 100000
set_option maxHeartbeats 4000000
set_option pp.deepTerms true
set_option pp.maxSteps 400000
namespace U
open PySem PySem.Spec PyProof.Rows L2 UL UX
local macro_rules | `(tactic| walk_at "rd") => `(tactic| simp only [sMatch, tJs, tFmt, tBC, tMethA, tMakeL, iEnumS, tSeq, tAsg, tOp, tCB, tCons, tNil, tVar, tC, tB, tTest, tNot, tIfS, tNext, tYes, tUn, rU, tM0, tGFrom, tGThen, tG0, tYfLst, gcxK, tSubO, tProp, tListG, tMethG, tBMF, tFld, sFld, tMeth, tMake, tSl, tNoPart, tPart, tM1, gTup, gCons, gNil, tDrop, tFor_eq, tLc_eq, tLc2_eq, iRng1_eq, StX.tStar, iList, iTup, iStr, iAny_var, iZipB, tLenSetS, wipe, tVar, tAndV, tOrV, tNotV, tOr, tAnd, tLst, tTup, tBM, tBM0, tChain, tCall, cxK, noxK, addII, addSS, mulII, eqII, neII, neSS, cIntI, cAbsI, rI, rI0, rLt, rLe, rGt_, rGe_, rSub_, rMod, rPow, rDivW, rNeg, gName, tRet, L2.start, List.length_cons, List.length_nil, List.map_cons, List.map_nil, List.replicate, List.cons_append, List.nil_append, List.getElem?_cons_zero, List.getElem?_cons_succ, List.set_cons_zero, List.set_cons_succ, Option.some.injEq, exists_eq_left', exists_eq_left, V.int.injEq, V.bl.injEq, V.str.injEq, V.ref.injEq, V.ty.injEq, List.cons.injEq, and_true, true_and, reduceCtorEq, false_and, exists_false, or_false, false_or, exists_and_left, exists_and_right, List.append_nil, forall_eq, decide_eq_true_eq, Bool.not_eq_true, Nat.reduceAdd, Nat.reduceSub, List.replicate_zero, List.replicate_succ, Nat.zero_le, ite_true, ite_false, if_true, if_false])
section
variable {P : Program} {w : World} {K : PySem.W.Frag} {mg : Str → Option Value} {base : Heap}
open UV UW ClX
theorem td_mk {h : Heap} {x : Str} {st : Stmt} {f : Addr} {oc kV dc pm cd ct : Value} {od an : Option Addr} {sl : Array (Option Value)} (X : K.In h) (G : h.Ns mainGlobals mg) (a : PySem.W.nsIn K mainGlobals x = some (some (.ref f)))
    (l : K.lookup f = some ⟨oc, od, .func (PySem.W.fnOf x x (defArgs st) (defBody st) (defScope st) .none kV dc pm an cd ct), sl⟩) (c : PySem.W.codeIn K cd x = true) (k : PySem.W.keepIn K (.ref f) = true) : TD K mg x st := ⟨f, _, fun_mk l c k, PySem.W.mg_of X G a⟩
theorem md_mk {C : Addr} {m qual : Str} {st : Stmt} {f : Addr} {oc kV dc pm cd ct : Value} {od an : Option Addr} {sl : Array (Option Value)} (a : PySem.W.findIn K (.ref C) m = some (some (.ref f)))
    (l : K.lookup f = some ⟨oc, od, .func (PySem.W.fnOf m qual (defArgs st) (defBody st) (defScope st) .none kV dc pm an cd ct), sl⟩) (c : PySem.W.codeIn K cd qual = true) (i : PySem.W.isFn K (.ref f) = true) (k : PySem.W.keepIn K (.ref f) = true) : MD K C m qual st := ⟨f, _, fun_mk l c k, a, i, k⟩
theorem no_mk {h : Heap} {x : Str} (X : K.In h) (G : h.Ns mainGlobals mg) (a : PySem.W.nsIn K mainGlobals x = some none) : mg x = none := PySem.W.mg_none_of X G a
theorem gs_mk {h : Heap} {x z : Str} {t : Tok} (X : K.In h) (G : h.Ns mainGlobals mg) (a : PySem.W.nsIn K mainGlobals x = some (some (.str z t))) : ∃ u, mg x = some u ∧ RelV (.str z) u := ⟨_, PySem.W.mg_of X G a, _, rfl⟩
theorem gi_mk {h : Heap} {x : Str} {i : Int} {t : Tok} (X : K.In h) (G : h.Ns mainGlobals mg) (a : PySem.W.nsIn K mainGlobals x = some (some (.int i t))) : ∃ u, mg x = some u ∧ RelV (.int i) u := ⟨_, PySem.W.mg_of X G a, _, rfl⟩
theorem gr_mk {h : Heap} {x : Str} {a : Addr} (X : K.In h) (G : h.Ns mainGlobals mg) (e : PySem.W.nsIn K mainGlobals x = some (some (.ref a))) : ∃ u, mg x = some u ∧ RelV (.ref a) u := ⟨_, PySem.W.mg_of X G e, rfl⟩
theorem ga_mk {h : Heap} {x : Str} {a : Addr} (X : K.In h) (G : h.Ns mainGlobals mg) (e : PySem.W.nsIn K mainGlobals x = some (some (.ref a))) : mg x = some (.ref a) := PySem.W.mg_of X G e
theorem na_mk {C : Addr} {x : Str} (a : PySem.W.findIn K (.ref C) x = some none) : NoAttr K C x := a
theorem cfn_mk {C : Addr} {m : Str} {f : Addr} (a : PySem.W.findIn K (.ref C) m = some (some (.ref f))) (b : PySem.W.findCls K (.ref C) (.type "type") m = some (.val (.ref f))) (r : PySem.W.readsIn K C (.type "type") = true)
    (g : PySem.W.specialIn K (.ref C) "__getattribute__" = some (some (.builtin "type.__getattribute__"))) (k : PySem.W.keepIn K (.ref f) = true) : ∃ f, PySem.W.findIn K (.ref C) m = some (some (.ref f)) ∧ UX.CFn K C m f := ⟨f, a, b, ⟨r, g⟩, k⟩
theorem cm_mk {C : Addr} {m qual : Str} {st : Stmt} {q g : Addr} {rest : List Value} {oc kV dc pm cd ct : Value} {od an : Option Addr} {sl : Array (Option Value)} (b : PySem.W.findCls K (.ref C) (.type "type") m = some (.get (.builtin "classmethod.__get__") (.ref q) .none (.ref C))) (rc : PySem.W.recIn K q "classmethod" = some (.ref g :: rest))
    (r : PySem.W.readsIn K C (.type "type") = true) (ga : PySem.W.specialIn K (.ref C) "__getattribute__" = some (some (.builtin "type.__getattribute__"))) (fi : PySem.W.fnIn K g = true)
    (l : K.lookup g = some ⟨oc, od, .func (PySem.W.fnOf m qual (defArgs st) (defBody st) (defScope st) .none kV dc pm an cd ct), sl⟩) (c : PySem.W.codeIn K cd qual = true) (k : PySem.W.keepIn K (.ref g) = true) :
    ∃ q g fd, ClX.CRead K C (.type "type") ∧ ClX.CMet K C (.type "type") m q g ∧ Fun K m qual st g fd := ⟨q, g, _, ⟨r, ga⟩, ⟨b, ⟨rest, rc⟩, fi⟩, fun_mk l c k⟩
/-- C(..) from its __init__ -/
theorem kn_of {C : Addr} {x : Str} {k : Nat} {sp : Sp} (d : Mn P w K mg base CX0 k C "__init__" sp) (mk : PySem.W.makesIn K C = true) (kc : PySem.W.keepIn K (.ref C) = true) (gc : mg x = some (.ref C)) : Kn P w K mg base CX0 k C x sp := by
  obtain ⟨f, fd, ps, FO, M, B⟩ := d.ex
  exact ⟨f, fd, ps, FO, ⟨mk, M.at_, M.fn, kc⟩, B, gc⟩
/-- C.m(self, ..) from its def -/
theorem bn_of {C : Addr} {x m : Str} {k : Nat} {sp : Sp} (d : Mn P w K mg base CX0 k C m sp) (h : ∃ f, PySem.W.findIn K (.ref C) m = some (some (.ref f)) ∧ UX.CFn K C m f) (gc : mg x = some (.ref C)) : UX.Bn P w K mg base k C x m sp := by
  obtain ⟨f, fd, ps, FO, M, B⟩ := d.ex
  obtain ⟨f2, e, c⟩ := h
  have z := M.at_.symm.trans e
  cases z
  exact ⟨f, fd, ps, FO, c, B, gc⟩
theorem ox_mk {C : Addr} {nm q : Str} {N : Addr} {bs bm : List Value} {sn : List Str} {sub : List Value} {ab : Bool} {col : Option Bool} {dd : Option Addr} {k0 k1 k2 k3 k5 : Option Value} (l : K.lookup C = some (excClassObj nm q C N bs bm true sn sub ab col dd k0 k1 k2 k3 k5 "ValueError.__new__")) (hb : PySem.HandSPX.refsVE bm = true)
    (sa : PySem.W.findIn K (.ref C) "__setattr__" = some (some (.builtin "object.__setattr__"))) (e : PySem.W.subIn K (.ref C) (.type "BaseException") = some true) (t : PySem.W.typeIn K (.ref C) = some (.type "type")) (k : PySem.W.keepIn K (.ref C) = true) : OexC K C := ⟨⟨nm, q, N, bs, bm, sn, sub, ab, col, dd, k0, k1, k2, k3, k5, l, hb⟩, sa, e, t, k⟩
theorem xd_mk {h : Heap} {C : Addr} {x qual : Str} {st : Stmt} {f c cc : Addr} {oc kV doc pm ct : Value} {od an : Option Addr} {osl : Array (Option Value)} {ccl : Value} {cdd : Option Addr} {vs : Array Value} {ccs : Array (Option Value)} {file : Str} {tf : Tok} {cl : Value} {cld : Option Addr} {csl : Array (Option Value)} (X : K.In h) (G : h.Ns mainGlobals mg) (ox : OexC K C)
    (gc : PySem.W.nsIn K mainGlobals x = some (some (.ref C))) (fi : PySem.W.findIn K (.ref C) "__init__" = some (some (.ref f))) (lk : K.lookup f = some ⟨oc, od, .func (PySem.W.fnX "__init__" qual (defArgs st) (defBody st) (defScope st) [("__class__", cc)] .none kV doc pm an (.ref c) ct), osl⟩) (hcd : PySem.W.codeIn K (.ref c) qual = true)
    (ty : PySem.W.typeIn K (.ref f) = some (.type "function")) (par : ∃ ar, ((defArgs st).posonlyargs ++ (defArgs st).args).head? = some ar ∧ ar.arg = "self") (lc : K.lookup c = some ⟨ccl, cdd, .fields vs, ccs⟩) (v2 : vs[2]? = some (.str file tf)) (fl : ((P.main.file : Str) == file) = true) (top : (P.main.scope.names.lookup ("super" : Str)).isSome = false)
    (lcc : K.lookup cc = some ⟨cl, cld, .cell (some (.ref C)), csl⟩) (nos : PySem.W.nsIn K mainGlobals "super" = some none) (sub : PySem.W.mroIn K C (.ref C) = some true) (op : PySem.W.nsIn K cStatics "thirdparty.any" = some none) (al : PySem.W.ks_superIn K C C "__init__" = some (some wr)) : XD P K mg C x qual st :=
  ⟨⟨f, c, cc, oc, kV, doc, pm, ct, od, an, osl, lk, hcd, ⟨⟨oc, od, osl, lk⟩, par, ⟨ccl, cdd, vs, ccs, file, tf, lc, v2, fl⟩, top, ⟨cl, cld, csl, lcc⟩, PySem.W.mg_none_of X G nos, sub, op, al⟩, fi, ty⟩, ox, PySem.W.mg_of X G gc⟩
theorem kx_of {C : Addr} {x : Str} {k : Nat} {sp : Sp} (d : Mn P w K mg base (L2.CX P w) k C "__init__" sp) (mk : PySem.W.makesIn K C = true) (kc : PySem.W.keepIn K (.ref C) = true) (gc : mg x = some (.ref C)) : Kn P w K mg base (L2.CX P w) k C x sp := by
  obtain ⟨f, fd, ps, FO, M, B⟩ := d.ex
  exact ⟨f, fd, ps, FO, ⟨mk, M.at_, M.fn, kc⟩, B, gc⟩
theorem cv_mk {h : Heap} {C : Addr} {x f : Str} {i : Int} {t : Tok} (X : K.In h) (G : h.Ns mainGlobals mg) (e : PySem.W.nsIn K mainGlobals x = some (some (.ref C))) (b : PySem.W.findCls K (.ref C) (.type "type") f = some (.val (.int i t))) (r : PySem.W.readsIn K C (.type "type") = true)
    (ga : PySem.W.specialIn K (.ref C) "__getattribute__" = some (some (.builtin "type.__getattribute__"))) : UX.CVn K mg x f (.int i) := ⟨C, .type "type", _, PySem.W.mg_of X G e, ⟨r, ga⟩, ⟨b, t, rfl⟩⟩
theorem bo_of {C : Addr} {m : Str} {k : Nat} {sp : Sp} {op : Operator} (d : Mn P w K mg base (L2.CX P w) k C m sp) (sf : PySem.W.selfFirst K C = true) (e : PySem.dunder op.info.2 = m) : UX.BOn P w K mg base (L2.CX P w) k C op sp := by
  obtain ⟨f, fd, ps, FO, M, B⟩ := d.ex
  exact ⟨f, fd, ps, FO, ⟨sf, by rw [e]; exact M.at_, M.fn⟩, B⟩
/-- everything that the law wants of the module -/
structure All (P : Program) (K : PySem.W.Frag) (mg : Str → Option Value) (R Wr B Pg Sy IC IS UC UP C IP Wv TS Tu Ss : Addr) : Prop where
  xdIC : XD P K mg IC "InvalidCells" "InvalidCells.__init__" s_IC
  xdIS : XD P K mg IS "InvalidSystem" "InvalidSystem.__init__" s_IS
  xdUC : XD P K mg UC "UnknownCell" "UnknownCell.__init__" s_UC
  xdUP : XD P K mg UP "UnknownProgram" "UnknownProgram.__init__" s_UP
  xdIP : XD P K mg IP "InvalidPlan" "InvalidPlan.__init__" s_IP
  xdTS : XD P K mg TS "TooManySteps" "TooManySteps.__init__" s_TS
  gC : mg "Plan" = some (.ref C)
  gR : mg "Read" = some (.ref R)
  mkR : PySem.W.makesIn K R = true
  kcR : PySem.W.keepIn K (.ref R) = true
  gWr : mg "Write" = some (.ref Wr)
  mkWr : PySem.W.makesIn K Wr = true
  kcWr : PySem.W.keepIn K (.ref Wr) = true
  gB : mg "ReadWrite" = some (.ref B)
  mkB : PySem.W.makesIn K B = true
  kcB : PySem.W.keepIn K (.ref B) = true
  gPg : mg "Program" = some (.ref Pg)
  mkPg : PySem.W.makesIn K Pg = true
  kcPg : PySem.W.keepIn K (.ref Pg) = true
  gSy : mg "System" = some (.ref Sy)
  mkSy : PySem.W.makesIn K Sy = true
  kcSy : PySem.W.keepIn K (.ref Sy) = true
  gWv : mg "Weave" = some (.ref Wv)
  mkWv : PySem.W.makesIn K Wv = true
  kcWv : PySem.W.keepIn K (.ref Wv) = true
  gTu : mg "Turn" = some (.ref Tu)
  mkTu : PySem.W.makesIn K Tu = true
  kcTu : PySem.W.keepIn K (.ref Tu) = true
  gSs : mg "SerialScheduler" = some (.ref Ss)
  mkSs : PySem.W.makesIn K Ss = true
  kcSs : PySem.W.keepIn K (.ref Ss) = true
  mkC : PySem.W.makesIn K C = true
  kcC : PySem.W.keepIn K (.ref C) = true
  sfC : PySem.W.selfFirst K C = true
  m_C_init : MD K C "__init__" "Plan.__init__" s_Plan___init__
  m_C_add : MD K C "__add__" "Plan.__add__" s_Plan___add__
  m_C_or : MD K C "__or__" "Plan.__or__" s_Plan___or__
  cm_of : ∃ q g fd, ClX.CRead K C (.type "type") ∧ ClX.CMet K C (.type "type") "of" q g ∧ Fun K "of" "Plan.of" s_Plan_of g fd
  cm_empty : ∃ q g fd, ClX.CRead K C (.type "type") ∧ ClX.CMet K C (.type "type") "empty" q g ∧ Fun K "empty" "Plan.empty" s_Plan_empty g fd
  xl : LwX K mg R Wr B Pg Sy IS UC UP Wv C TS Tu IP
  ss : SsT K mg Ss
  d_is_name : TD K mg "is_name" s_is_name
  d_parse_header : TD K mg "parse_header" s_parse_header
  d_parse_steps : TD K mg "parse_steps" s_parse_steps
  d_parse_step : TD K mg "parse_step" s_parse_step
  d_make_read : TD K mg "make_read" s_make_read
  d_make_write : TD K mg "make_write" s_make_write
  d_make_both : TD K mg "make_both" s_make_both
  d_is_argument_part : TD K mg "is_argument_part" s_is_argument_part
  d_check_names : TD K mg "check_names" s_check_names
  d_list_turns : TD K mg "list_turns" s_list_turns
  d_is_opened : TD K mg "is_opened" s_is_opened
  d_law_mixed : TD K mg "_law_mixed" s__law_mixed
  d_law_pool : TD K mg "_law_pool" s__law_pool
  d_law_draw : TD K mg "_law_draw" s__law_draw
  d_law_names : TD K mg "_law_names" s__law_names
  d_law_cells : TD K mg "_law_cells" s__law_cells
  d_law_functions : TD K mg "_law_functions" s__law_functions
  d_law_step : TD K mg "_law_step" s__law_step
  d_law_steps : TD K mg "_law_steps" s__law_steps
  d_law_programs : TD K mg "_law_programs" s__law_programs
  d_law_lanes : TD K mg "_law_lanes" s__law_lanes
  d_law_tracks : TD K mg "_law_tracks" s__law_tracks
  d_law_weaving : TD K mg "_law_weaving" s__law_weaving
  d_law_line : TD K mg "_law_line" s__law_line
  d_law_text : TD K mg "_law_text" s__law_text
  d_law_made : TD K mg "_law_made" s__law_made
  d_law_plan : TD K mg "_law_plan" s__law_plan
  d_law_is_number : TD K mg "_law_is_number" s__law_is_number
  d_law_flag : TD K mg "_law_flag" s__law_flag
  d_law_same : TD K mg "_law_same" s__law_same
  d_law_owners : TD K mg "_law_owners" s__law_owners
  d_law_places : TD K mg "_law_places" s__law_places
  d_law_opened : TD K mg "_law_opened" s__law_opened
  d_law_serial : TD K mg "_law_serial" s__law_serial
  d_law_same_pairs : TD K mg "_law_same_pairs" s__law_same_pairs
  m_R_init : MD K R "__init__" "Read.__init__" s_Read___init__
  m_R_reads : MD K R "reads" "Read.reads" s_Read_reads
  m_R_writes : MD K R "writes" "Read.writes" s_Read_writes
  m_Wr_init : MD K Wr "__init__" "Write.__init__" s_Write___init__
  m_Wr_reads : MD K Wr "reads" "Write.reads" s_Write_reads
  m_Wr_writes : MD K Wr "writes" "Write.writes" s_Write_writes
  m_B_init : MD K B "__init__" "ReadWrite.__init__" s_ReadWrite___init__
  m_B_reads : MD K B "reads" "ReadWrite.reads" s_ReadWrite_reads
  m_B_writes : MD K B "writes" "ReadWrite.writes" s_ReadWrite_writes
  m_Pg_init : MD K Pg "__init__" "Program.__init__" s_Program___init__
  m_Sy_init : MD K Sy "__init__" "System.__init__" s_System___init__
  m_Sy_take_program : MD K Sy "_take_program" "System._take_program" s_System__take_program
  m_Sy_take_step : MD K Sy "_take_step" "System._take_step" s_System__take_step
  m_Sy_take_function : MD K Sy "_take_function" "System._take_function" s_System__take_function
  m_Sy_program_named : MD K Sy "program_named" "System.program_named" s_System_program_named
  m_Tu_init : MD K Tu "__init__" "Turn.__init__" s_Turn___init__
  m_Wv_init : MD K Wv "__init__" "Weave.__init__" s_Weave___init__
  m_Wv_places : MD K Wv "places" "Weave.places" s_Weave_places
  m_Wv_opened : MD K Wv "opened" "Weave.opened" s_Weave_opened
  m_Wv_check_weaving : MD K Wv "check_weaving" "Weave.check_weaving" s_Weave_check_weaving
  m_Wv_check_beginning : MD K Wv "check_beginning" "Weave.check_beginning" s_Weave_check_beginning
  m_Ss_init : MD K Ss "__init__" "SerialScheduler.__init__" s_SerialScheduler___init__
  m_Ss_lets : MD K Ss "lets" "SerialScheduler.lets" s_SerialScheduler_lets
  b_R : ∃ f, PySem.W.findIn K (.ref R) "__init__" = some (some (.ref f)) ∧ UX.CFn K R "__init__" f
  b_Wr : ∃ f, PySem.W.findIn K (.ref Wr) "__init__" = some (some (.ref f)) ∧ UX.CFn K Wr "__init__" f
  cm : ∃ q g fd, ClX.CRead K Pg (.type "type") ∧ ClX.CMet K Pg (.type "type") "read" q g ∧ Fun K "read" "Program.read" s_Program_read g fd
theorem law_of {R Wr B Pg Sy IC IS UC UP C IP Wv TS Tu Ss : Addr} (a : All P K mg R Wr B Pg Sy IC IS UC UP C IP Wv TS Tu Ss) {f0 : Addr} {fd0 : FuncData} (F0 : Fun K "law" "law" s_law f0 fd0) : FnOk P w K mg base CX0 30 f0 fd0 ["_law_script"] (sp_law K) := by
  have X := a.xl
  have Y := X.toSyX
  have T := Y.toPT
  have N := T.toNm
  have ap : Ap R Wr B := ⟨fun e => (by have h := T.kWR; rw [← e, T.kRR] at h; cases h), fun e => (by have h := T.kRB; rw [← e, T.kRR] at h; cases h), fun e => (by have h := T.kWB; rw [← e, T.kWW] at h; cases h)⟩
  have hisn : Dn P w K mg base CX0 1 "is_name" sp_isnm := d_isnm N a.d_is_name
  have iR : Mn P w K mg base CX0 1 R "__init__" (sp_initR R B) := m_initR T a.m_R_init
  have iW : Mn P w K mg base CX0 1 Wr "__init__" (sp_initW K Wr B) := m_initW T a.m_Wr_init
  have iB : Mn P w K mg base CX0 2 B "__init__" (sp_initB K R Wr B) := m_initB T a.m_B_init (bn_of iR a.b_R a.gR) (bn_of iW a.b_Wr a.gWr)
  have iP : Mn P w K mg base CX0 1 Pg "__init__" (sp_initP K Pg) := m_initP T a.m_Pg_init
  have hia : Dn P w K mg base CX0 1 "is_argument_part" (sp_isarg K) := d_isarg T a.d_is_argument_part
  have hmr : Dn P w K mg base CX0 3 "make_read" (sp_mkR R Wr B) := d_mkR T a.d_make_read hisn (kn_of iR a.mkR a.kcR a.gR)
  have hmw : Dn P w K mg base CX0 3 "make_write" (sp_mkW K R Wr B) := d_mkW T a.d_make_write hisn hia (kn_of iW a.mkWr a.kcWr a.gWr)
  have hmb : Dn P w K mg base CX0 4 "make_both" (sp_mkB R Wr B) := d_mkB T a.d_make_both (kn_of iB a.mkB a.kcB a.gB)
  have hps : Dn P w K mg base CX0 5 "parse_step" (sp_pstep K R Wr B) := d_pstep T a.d_parse_step hmr hmw hmb
  have hpp : Dn P w K mg base CX0 6 "parse_steps" (sp_psteps K R Wr B) := d_psteps T a.d_parse_steps hps
  have hph : Dn P w K mg base CX0 2 "parse_header" sp_phead := d_phead T a.d_parse_header hisn
  have cm : CMn P w K mg base 7 Pg "Program" "read" (sp_pread K R Wr B Pg) := by
    obtain ⟨q, g, fd, cr, cm, F⟩ := a.cm
    have ok := d_pread T F (kn_of iP a.mkPg a.kcPg a.gPg) hph hpp
    have hb := F.binds (ps := ["cls", "text"]) (fun _ _ _ _ _ _ us hl => match us, hl with | [_, _], _ => rfl)
    exact ⟨q, g, _, cr, cm, (ok.raw hb .nil).imp fun vs H Q E h => by rw [List.append_nil]; exact h, a.gPg⟩
  have rR : Mn P w K mg base CX0 1 R "reads" (sp_reads R Wr B R) := m_readsR ap T a.m_R_reads
  have rW : Mn P w K mg base CX0 1 Wr "reads" (sp_reads R Wr B Wr) := m_readsW ap T a.m_Wr_reads
  have rB : Mn P w K mg base CX0 1 B "reads" (sp_reads R Wr B B) := m_readsB ap T a.m_B_reads
  have wR : Mn P w K mg base CX0 1 R "writes" (sp_writes R Wr B R) := m_writesR ap T a.m_R_writes
  have wW : Mn P w K mg base CX0 1 Wr "writes" (sp_writes R Wr B Wr) := m_writesW ap T a.m_Wr_writes
  have wB : Mn P w K mg base CX0 1 B "writes" (sp_writes R Wr B B) := m_writesB ap T a.m_B_writes
  have Ar : ∀ C s, Fam R Wr B (sp_reads R Wr B) C s → Mn P w K mg base CX0 1 C "reads" s ∧ Cls K C := fun C s h => by
    obtain ⟨rfl | rfl | rfl, rfl⟩ := h
    · exact ⟨rR, T.cR⟩
    · exact ⟨rW, T.cW⟩
    · exact ⟨rB, T.cB⟩
  have Aw : ∀ C s, Fam R Wr B (sp_writes R Wr B) C s → Mn P w K mg base CX0 1 C "writes" s ∧ Cls K C := fun C s h => by
    obtain ⟨rfl | rfl | rfl, rfl⟩ := h
    · exact ⟨wR, T.cR⟩
    · exact ⟨wW, T.cW⟩
    · exact ⟨wB, T.cB⟩
  have xIC : Xn P w K mg base 1 IC "InvalidCells" (sp_IC IC) := x_IC a.xdIC
  have xIS : Xn P w K mg base 1 IS "InvalidSystem" (sp_IS (K := K) IS) := x_IS a.xdIS
  have xUC : Xn P w K mg base 1 UC "UnknownCell" (sp_UC (K := K) UC) := x_UC a.xdUC
  have xUP : Xn P w K mg base 1 UP "UnknownProgram" (sp_UP (K := K) UP) := x_UP a.xdUP
  have hcn : Dn P w K mg base (L2.CX P w) 3 "check_names" (sp_chknX K IC) := d_chknX N a.d_check_names hisn xIC
  have mF : Mn P w K mg base (L2.CX P w) 3 Sy "_take_function" (sp_takeF Sy IS UC) := m_takeF Y a.m_Sy_take_function xIS
  have mS : Mn P w K mg base (L2.CX P w) 5 Sy "_take_step" (sp_takeS R Wr B Sy IS UC) := m_takeS ap Y a.m_Sy_take_step xUC Ar Aw mF
  have mP : Mn P w K mg base (L2.CX P w) 7 Sy "_take_program" (sp_takeP R Wr B Pg Sy IS UC) := m_takeP Y a.m_Sy_take_program xIS mS
  have mI : Mn P w K mg base (L2.CX P w) 9 Sy "__init__" (sp_sinit K R Wr B Pg Sy IC IS UC) := m_sinit Y a.m_Sy_init hcn mP
  have kS : Kn P w K mg base (L2.CX P w) 9 Sy "System" (sp_sinit K R Wr B Pg Sy IC IS UC) := kx_of mI a.mkSy a.kcSy a.gSy
  have xIP : Xn P w K mg base 1 IP "InvalidPlan" (sp_I0 IP) := x_IP a.xdIP
  have iPl : Mn P w K mg base (L2.CX P w) 4 C "__init__" (sp_pinit K C IP) := m_pinit X.pn a.m_C_init xIP
  have kPl : Kn P w K mg base (L2.CX P w) 4 C "Plan" (sp_pinit K C IP) := kx_of iPl a.mkC a.kcC a.gC
  have cmo : UX.CMnX P w K mg base (L2.CX P w) 6 C "Plan" "of" (sp_of C IP) := by
    obtain ⟨q, g, fd, cr, cm, F⟩ := a.cm_of
    exact ⟨q, g, _, cr, cm, f_of X.pn F kPl, a.gC⟩
  have cme : UX.CMnX P w K mg base (L2.CX P w) 6 C "Plan" "empty" (sp_empty C) := by
    obtain ⟨q, g, fd, cr, cm, F⟩ := a.cm_empty
    have ok := f_empty X.pn F kPl
    have hb : Binds K fd ["cls"] [] := F.binds (ps := ["cls"]) (fun _ _ _ _ _ _ us hl => match us, hl with | [_], _ => rfl)
    exact ⟨q, g, _, cr, cm, (ok.raw hb .nil).imp fun vs H Q E h => by rw [List.append_nil]; exact h, a.gC⟩
  have bo1 : UX.BOn P w K mg base (L2.CX P w) 6 C .Add (sp_add C IP) := bo_of (m_add X.pn a.m_C_add xIP kPl) a.sfC (by decide +kernel)
  have bo2 : UX.BOn P w K mg base (L2.CX P w) 6 C .BitOr (sp_or C IP) := bo_of (m_or X.pn a.m_C_or kPl) a.sfC (by decide +kernel)
  have U := X.wu
  have xTS : Xn P w K mg base 1 TS "TooManySteps" (sp_TS (K := K) TS) := x_TS a.xdTS
  have mNamed : Mn P w K mg base (L2.CX P w) 3 Sy "program_named" (sp_named Sy UP) := m_named Y a.m_Sy_program_named xUP
  have kTu : Kn P w K mg base CX0 1 Tu "Turn" (sp_tuinit Tu) := kn_of (m_tuinit X.tu a.m_Tu_init) a.mkTu a.kcTu a.gTu
  have hlt : Dn P w K mg base CX0 5 "list_turns" (sp_lturns Pg Sy Tu) := d_lturns Y a.d_list_turns mNamed kTu
  have mWi : Mn P w K mg base (L2.CX P w) 7 Wv "__init__" (sp_wvinit Pg Sy Tu Wv C TS) := m_wvinit U.toWvT a.m_Wv_init hlt xTS
  have kWv : Kn P w K mg base (L2.CX P w) 7 Wv "Weave" (sp_wvinit Pg Sy Tu Wv C TS) := kx_of mWi a.mkWv a.kcWv a.gWv
  have mPlc : Mn P w K mg base CX0 1 Wv "places" (sp_places Tu Wv) := m_places U a.m_Wv_places
  have mCb : Mn P w K mg base CX0 1 Wv "check_beginning" (sp_cbeg Tu Wv) := m_cbeg U.toWvT a.m_Wv_check_beginning
  have mCw : Mn P w K mg base CX0 2 Wv "check_weaving" (sp_cwv Tu Wv) := m_cwv U.toWvT a.m_Wv_check_weaving mCb
  have hio : Dn P w K mg base CX0 1 "is_opened" sp_isopN := d_isopN U.toWvT a.d_is_opened
  have mOp : Mn P w K mg base CX0 3 Wv "opened" (sp_openedN Tu Wv) := m_openedN U.toWvT a.m_Wv_opened mCw mPlc hio
  have mSi : Mn P w K mg base CX0 9 Ss "__init__" (sp_ssinit Pg Sy Tu Wv C Ss) := m_ssinit a.ss a.m_Ss_init kWv
  have kSs : Kn P w K mg base CX0 9 Ss "SerialScheduler" (sp_ssinit Pg Sy Tu Wv C Ss) := kn_of mSi a.mkSs a.kcSs a.gSs
  have mLe : Mn P w K mg base CX0 4 Ss "lets" (sp_sslets Tu Wv Ss) := m_sslets a.ss a.m_Ss_lets U.cls mOp
  have hmix : Dn P w K mg base CX0 1 "_law_mixed" sp_mixed := d_mixed N a.d_law_mixed
  have hpool : Dn P w K mg base CX0 2 "_law_pool" (sp_pool K) := d_pool N a.d_law_pool hmix
  have hdraw : Dn P w K mg base CX0 1 "_law_draw" sp_draw := d_draw N a.d_law_draw
  have hn0 : Dn P w K mg base CX0 2 "_law_names" sp_names0 := d_names0 N a.d_law_names hdraw
  have hnN : Dn P w K mg base CX0 2 "_law_names" sp_namesN := d_namesN N a.d_law_names hdraw
  have hcells : Dn P w K mg base CX0 3 "_law_cells" sp_cellsN := d_cellsN N a.d_law_cells hdraw hnN
  have hfuns : Dn P w K mg base CX0 3 "_law_functions" sp_funsN := d_funsN N a.d_law_functions hdraw hnN
  have hstep : Dn P w K mg base CX0 2 "_law_step" (sp_lstep K) := d_lstep N a.d_law_step hdraw
  have hsteps : Dn P w K mg base CX0 3 "_law_steps" (sp_lsteps K) := d_lsteps N a.d_law_steps hstep
  have hprogs : Dn P w K mg base CX0 4 "_law_programs" sp_lprogs := d_lprogs N a.d_law_programs hdraw hn0 hsteps
  have hline : Dn P w K mg base CX0 1 "_law_line" sp_line := d_line N a.d_law_line
  have htext : Dn P w K mg base CX0 2 "_law_text" sp_ltext := d_ltext N a.d_law_text hline
  have hnum : Dn P w K mg base CX0 1 "_law_is_number" sp_isnum := d_isnum N a.d_law_is_number
  exact ok_law U a.ss F0 hpool hcells hfuns hprogs (d_llanes N a.d_law_lanes hdraw) (d_ltracks N a.d_law_tracks) (d_lmade Y a.d_law_made htext cm kS) (d_lplan X.pn a.d_law_plan cme cmo bo1 bo2) kWv kSs (d_lowners N a.d_law_owners) (d_lplaces N a.d_law_places) (d_lwv U.toWvT a.d_law_weaving hdraw) (d_lopened N a.d_law_opened) (d_lserial N a.d_law_serial) (d_lalls N a.d_law_same_pairs (d_same N a.d_law_same hnum)) (d_lflag N a.d_law_flag) mPlc mOp mLe
theorem fin_of {l : PySem.W.OpenLaw} {w : World} {h : Heap} {fa R Wr B Pg Sy IC IS UC UP C IP Wv TS Tu Ss : Addr} (X : K.In h) (G : h.Ns mainGlobals mg) (hfa : mg "law" = some (.ref fa)) (a : All l.prog K mg R Wr B Pg Sy IC IS UC UP C IP Wv TS Tu Ss)
    {f1 : Addr} {od1 an1 : Option Addr} {sl1 : Array (Option Value)} {oc1 kV1 dc1 pm1 cd1 ct1 : Value}
    (a1 : PySem.W.nsIn K mainGlobals "law" = some (some (.ref f1))) (l1 : K.lookup f1 = some ⟨oc1, od1, .func (PySem.W.fnOf "law" "law" (defArgs s_law) (defBody s_law) (defScope s_law) .none kV1 dc1 pm1 an1 cd1 ct1), sl1⟩) (c1 : PySem.W.codeIn K cd1 "law" = true) (k1 : PySem.W.keepIn K (.ref f1) = true) :
    ∃ fd : FuncData, (∀ (s : Shared) (v : Value), BindsTo s fd ⟨[v], []⟩ [("_law_script", v)]) ∧ ∀ base : Heap, K.In base → base.Ns mainGlobals mg → FnOk l.prog w K mg base CX0 30 fa fd ["_law_script"] (sp_law K) := by
  have e := hfa.symm.trans (PySem.W.mg_of X G a1)
  cases e
  have F1 := fun_mk (st := s_law) l1 c1 k1
  exact ⟨PySem.W.fnOf "law" "law" (defArgs s_law) (defBody s_law) (defScope s_law) .none kV1 dc1 pm1 an1 cd1 ct1, fun s v => .of_eq rfl, fun base _ _ => law_of a F1⟩
theorem walk {l : PySem.W.OpenLaw} {q : Program} {loose : List Str} {XP : (Str → Option Value) → Heap → Prop} {YP : World → Heap → Prop} {d : DefRec} {K : Params → PySem.W.Frag} (hn : l.most = some 63) (hdf : d.params.defaults = [])
    (hY : ∀ (w : World) (h : Heap), YP w h → (K w.params).In h)
    (F : ∀ (w : World) (mg : Str → Option Value) (fa : Addr) (h : Heap), (K w.params).In h → h.Ns mainGlobals mg → mg d.name = some (.ref fa) →
      ∃ fd : FuncData, (∀ (s : Shared) (u : Value), BindsTo s fd ⟨[u], []⟩ [("_law_script", u)]) ∧ ∀ base : Heap, (K w.params).In base → base.Ns mainGlobals mg → FnOk l.prog w (K w.params) mg base CX0 30 fa fd ["_law_script"] (sp_law (K w.params))) :
    PySem.W.WalkO q loose XP YP l.row.toRowW d [] (fun f vs => PySem.call f vs) :=
  L2.walk_of (n := 63) (k := 30) (x := "_law_script") (CX := fun _ => CX0) (sp := fun w => sp_law (K w.params)) hn (by decide) hdf ⟨rfl, by decide, by decide⟩ hY F (fun _ _ a ns hl _ hS => ⟨a, ns, rfl, hS, hl, fun _ => rfl⟩) fun _ _ _ _ _ z => z
end
end U
set_option Elab.async false
open PySem PySem.W PyProof.Rows
section
local macro_rules | `(tactic| intro $a:term $b:term) => `(tactic| (intro $a:term; intro $b:term; first | (refine U.headB ?_ _ _ ?_; rotate_left; exact U.objs _ _) | skip))
local macro_rules | `(tactic| o_headL (kHook $k $a $e)) => `(tactic| o_headL ((kHook U.early0.heap_1 U.as0 (fun _ => by kernel_rfl))))
set_option maxRecDepth 100000 in
set_option maxHeartbeats 0 in
theorem PySem.Challenge.cw_untoldrule_k17_places_that_are_opened_holds : PySem.Challenge.rw_untoldrule_k17_places_that_are_opened.Holds := by
  w_on; o_law; k_headL; (case hw => w_witness2)
  k_fill
  refine U.walk (l := PySem.Challenge.rw_untoldrule_k17_places_that_are_opened) rfl rfl (fun w h Y => by first | exact PySem.W.kIn_of Y | exact PySem.W.km_in_of Y) ?F
  case F =>
    intro w mg fa h KX G hmg
    refine' U.fin_of KX G hmg (R := ?adr_R) (Wr := ?adr_Wr) (B := ?adr_B) (Pg := ?adr_Pg) (Sy := ?adr_Sy) (IC := ?adr_IC) (IS := ?adr_IS) (UC := ?adr_UC) (UP := ?adr_UP) (C := ?adr_C) (IP := ?adr_IP) (Wv := ?adr_Wv) (TS := ?adr_TS) (Tu := ?adr_Tu) (Ss := ?adr_Ss) { xdIC := ?xdIC_1, xdIS := ?xdIS_24, xdUC := ?xdUC_47, xdUP := ?xdUP_70, xdIP := ?xdIP_93, xdTS := ?xdTS_116, gC := ?gC_139, gR := ?gR_141, mkR := ?mkR_143, kcR := ?kcR_144, gWr := ?gWr_145, mkWr := ?mkWr_147, kcWr := ?kcWr_148, gB := ?gB_149, mkB := ?mkB_151, kcB := ?kcB_152, gPg := ?gPg_153, mkPg := ?mkPg_155, kcPg := ?kcPg_156, gSy := ?gSy_157, mkSy := ?mkSy_159, kcSy := ?kcSy_160, gWv := ?gWv_161, mkWv := ?mkWv_163, kcWv := ?kcWv_164, gTu := ?gTu_165, mkTu := ?mkTu_167, kcTu := ?kcTu_168, gSs := ?gSs_169, mkSs := ?mkSs_171, kcSs := ?kcSs_172, mkC := ?mkC_173, kcC := ?kcC_174, sfC := ?sfC_175, m_C_init := ?m_C_init_176, m_C_add := ?m_C_add_182, m_C_or := ?m_C_or_188, cm_of := ?cm_of_194, cm_empty := ?cm_empty_203, xl := { toSyX := { toPT := { toNm := { n_int := ?n_int_212, n_bool := ?n_bool_214, n_str := ?n_str_216, n_list := ?n_list_218, n_tuple := ?n_tuple_220, n_set := ?n_set_222, n_len := ?n_len_224, n_abs := ?n_abs_226, n_all := ?n_all_228, n_iter := ?n_iter_230, n_range := ?n_range_232, n_zip := ?n_zip_234, n_isinstance := ?n_isinstance_236, c_LETTERS := ?c_LETTERS_238, c_MOST_LETTERS := ?c_MOST_LETTERS_240, c_MOST_CELLS := ?c_MOST_CELLS_242 }, n_enumerate := ?n_enumerate_244, c_MOST_STEPS := ?c_MOST_STEPS_246, c_MOST_ARGUMENTS := ?c_MOST_ARGUMENTS_248, c_Read := ?c_Read_250, c_Write := ?c_Write_252, c_ReadWrite := ?c_ReadWrite_254, cR := ⟨?cR_256, ?cR_257, ?cR_258, ?cR_259⟩, cW := ⟨?cW_260, ?cW_261, ?cW_262, ?cW_263⟩, cB := ⟨?cB_264, ?cB_265, ?cB_266, ?cB_267⟩, cP := ⟨?cP_268, ?cP_269, ?cP_270, ?cP_271⟩, aR_source := ?aR_source_272, aR_local := ?aR_local_274, aW_target := ?aW_target_276, aW_function := ?aW_function_278, aW_arguments := ?aW_arguments_280, aB_source := ?aB_source_282, aB_local := ?aB_local_284, aB_target := ?aB_target_286, aB_function := ?aB_function_288, aB_arguments := ?aB_arguments_290, aP_name := ?aP_name_292, aP_steps := ?aP_steps_294, iR := ⟨?iR_296, ?iR_297, ?iR_298, ?iR_299⟩, iW := ⟨?iW_300, ?iW_301, ?iW_302, ?iW_303⟩, iB := ⟨?iB_304, ?iB_305, ?iB_306, ?iB_307⟩, kRR := ?kRR_308, kWR := ?kWR_309, kBR := ?kBR_310, kRW := ?kRW_311, kRB := ?kRB_312, kWW := ?kWW_313, kWB := ?kWB_314, kBW := ?kBW_315, kBB := ?kBB_316 }, cls := ⟨?cls_317, ?cls_318, ?cls_319, ?cls_320⟩, s_cells := ?s_cells_321, s_programs := ?s_programs_323, s_arities := ?s_arities_325, s_names := ?s_names_327, c_MOST_PROGRAMS := ?c_MOST_PROGRAMS_329, naIS := ?naIS_331, naUC := ?naUC_332, naUP := ?naUP_333 }, n_sum := ?n_sum_334, n_any := ?n_any_336, cWv := ⟨?cWv_338, ?cWv_339, ?cWv_340, ?cWv_341⟩, cC := ⟨?cC_342, ?cC_343, ?cC_344, ?cC_345⟩, cTu := ⟨?cTu_346, ?cTu_347, ?cTu_348, ?cTu_349⟩, p_lanes := ?p_lanes_350, w_turns := ?w_turns_352, w_lengths := ?w_lengths_354, w_number := ?w_number_356, w_found := ?w_found_358, t_lane := ?t_lane_360, t_occurrence := ?t_occurrence_362, t_name := ?t_name_364, t_step := ?t_step_366, cvS := ?cvS_368, cvL := ?cvL_373, cvN := ?cvN_378, naT := ?naT_383, c_Plan := ?c_Plan_384 }, ss := { toNm := { n_int := ?n_int_386, n_bool := ?n_bool_388, n_str := ?n_str_390, n_list := ?n_list_392, n_tuple := ?n_tuple_394, n_set := ?n_set_396, n_len := ?n_len_398, n_abs := ?n_abs_400, n_all := ?n_all_402, n_iter := ?n_iter_404, n_range := ?n_range_406, n_zip := ?n_zip_408, n_isinstance := ?n_isinstance_410, c_LETTERS := ?c_LETTERS_412, c_MOST_LETTERS := ?c_MOST_LETTERS_414, c_MOST_CELLS := ?c_MOST_CELLS_416 }, cls := ⟨?cls_418, ?cls_419, ?cls_420, ?cls_421⟩, a_weave := ?a_weave_422, a_decided := ?a_decided_424 }, d_is_name := ?d_is_name_426, d_parse_header := ?d_parse_header_431, d_parse_steps := ?d_parse_steps_436, d_parse_step := ?d_parse_step_441, d_make_read := ?d_make_read_446, d_make_write := ?d_make_write_451, d_make_both := ?d_make_both_456, d_is_argument_part := ?d_is_argument_part_461, d_check_names := ?d_check_names_466, d_list_turns := ?d_list_turns_471, d_is_opened := ?d_is_opened_476, d_law_mixed := ?d_law_mixed_481, d_law_pool := ?d_law_pool_486, d_law_draw := ?d_law_draw_491, d_law_names := ?d_law_names_496, d_law_cells := ?d_law_cells_501, d_law_functions := ?d_law_functions_506, d_law_step := ?d_law_step_511, d_law_steps := ?d_law_steps_516, d_law_programs := ?d_law_programs_521, d_law_lanes := ?d_law_lanes_526, d_law_tracks := ?d_law_tracks_531, d_law_weaving := ?d_law_weaving_536, d_law_line := ?d_law_line_541, d_law_text := ?d_law_text_546, d_law_made := ?d_law_made_551, d_law_plan := ?d_law_plan_556, d_law_is_number := ?d_law_is_number_561, d_law_flag := ?d_law_flag_566, d_law_same := ?d_law_same_571, d_law_owners := ?d_law_owners_576, d_law_places := ?d_law_places_581, d_law_opened := ?d_law_opened_586, d_law_serial := ?d_law_serial_591, d_law_same_pairs := ?d_law_same_pairs_596, m_R_init := ?m_R_init_601, m_R_reads := ?m_R_reads_607, m_R_writes := ?m_R_writes_613, m_Wr_init := ?m_Wr_init_619, m_Wr_reads := ?m_Wr_reads_625, m_Wr_writes := ?m_Wr_writes_631, m_B_init := ?m_B_init_637, m_B_reads := ?m_B_reads_643, m_B_writes := ?m_B_writes_649, m_Pg_init := ?m_Pg_init_655, m_Sy_init := ?m_Sy_init_661, m_Sy_take_program := ?m_Sy_take_program_667, m_Sy_take_step := ?m_Sy_take_step_673, m_Sy_take_function := ?m_Sy_take_function_679, m_Sy_program_named := ?m_Sy_program_named_685, m_Tu_init := ?m_Tu_init_691, m_Wv_init := ?m_Wv_init_697, m_Wv_places := ?m_Wv_places_703, m_Wv_opened := ?m_Wv_opened_709, m_Wv_check_weaving := ?m_Wv_check_weaving_715, m_Wv_check_beginning := ?m_Wv_check_beginning_721, m_Ss_init := ?m_Ss_init_727, m_Ss_lets := ?m_Ss_lets_733, b_R := ?b_R_739, b_Wr := ?b_Wr_745, cm := ?cm_751 } ?a1 ?l1 ?k1 ?k2
    (case gC_139 => refine' U.ga_mk KX G ?zz_140; (case zz_140 => k_is))
    (case gR_141 => refine' U.ga_mk KX G ?zz_142; (case zz_142 => k_is))
    (case gWr_145 => refine' U.ga_mk KX G ?zz_146; (case zz_146 => k_is))
    (case gB_149 => refine' U.ga_mk KX G ?zz_150; (case zz_150 => k_is))
    (case gPg_153 => refine' U.ga_mk KX G ?zz_154; (case zz_154 => k_is))
    (case gSy_157 => refine' U.ga_mk KX G ?zz_158; (case zz_158 => k_is))
    (case gWv_161 => refine' U.ga_mk KX G ?zz_162; (case zz_162 => k_is))
    (case gTu_165 => refine' U.ga_mk KX G ?zz_166; (case zz_166 => k_is))
    (case gSs_169 => refine' U.ga_mk KX G ?zz_170; (case zz_170 => k_is))
    (case n_int_212 => refine' U.no_mk KX G ?zz_213; (case zz_213 => k_is))
    (case n_bool_214 => refine' U.no_mk KX G ?zz_215; (case zz_215 => k_is))
    (case n_str_216 => refine' U.no_mk KX G ?zz_217; (case zz_217 => k_is))
    (case n_list_218 => refine' U.no_mk KX G ?zz_219; (case zz_219 => k_is))
    (case n_tuple_220 => refine' U.no_mk KX G ?zz_221; (case zz_221 => k_is))
    (case n_set_222 => refine' U.no_mk KX G ?zz_223; (case zz_223 => k_is))
    (case n_len_224 => refine' U.no_mk KX G ?zz_225; (case zz_225 => k_is))
    (case n_abs_226 => refine' U.no_mk KX G ?zz_227; (case zz_227 => k_is))
    (case n_all_228 => refine' U.no_mk KX G ?zz_229; (case zz_229 => k_is))
    (case n_iter_230 => refine' U.no_mk KX G ?zz_231; (case zz_231 => k_is))
    (case n_range_232 => refine' U.no_mk KX G ?zz_233; (case zz_233 => k_is))
    (case n_zip_234 => refine' U.no_mk KX G ?zz_235; (case zz_235 => k_is))
    (case n_isinstance_236 => refine' U.no_mk KX G ?zz_237; (case zz_237 => k_is))
    (case c_LETTERS_238 => refine' U.gs_mk KX G ?zz_239; (case zz_239 => k_is))
    (case c_MOST_LETTERS_240 => refine' U.gi_mk KX G ?zz_241; (case zz_241 => k_is))
    (case c_MOST_CELLS_242 => refine' U.gi_mk KX G ?zz_243; (case zz_243 => k_is))
    (case n_enumerate_244 => refine' U.no_mk KX G ?zz_245; (case zz_245 => k_is))
    (case c_MOST_STEPS_246 => refine' U.gi_mk KX G ?zz_247; (case zz_247 => k_is))
    (case c_MOST_ARGUMENTS_248 => refine' U.gi_mk KX G ?zz_249; (case zz_249 => k_is))
    (case c_Read_250 => refine' U.gr_mk KX G ?zz_251; (case zz_251 => k_is))
    (case c_Write_252 => refine' U.gr_mk KX G ?zz_253; (case zz_253 => k_is))
    (case c_ReadWrite_254 => refine' U.gr_mk KX G ?zz_255; (case zz_255 => k_is))
    (case c_MOST_PROGRAMS_329 => refine' U.gi_mk KX G ?zz_330; (case zz_330 => k_is))
    (case n_sum_334 => refine' U.no_mk KX G ?zz_335; (case zz_335 => k_is))
    (case n_any_336 => refine' U.no_mk KX G ?zz_337; (case zz_337 => k_is))
    (case c_Plan_384 => refine' U.gr_mk KX G ?zz_385; (case zz_385 => k_is))
    (case n_int_386 => refine' U.no_mk KX G ?zz_387; (case zz_387 => k_is))
    (case n_bool_388 => refine' U.no_mk KX G ?zz_389; (case zz_389 => k_is))
    (case n_str_390 => refine' U.no_mk KX G ?zz_391; (case zz_391 => k_is))
    (case n_list_392 => refine' U.no_mk KX G ?zz_393; (case zz_393 => k_is))
    (case n_tuple_394 => refine' U.no_mk KX G ?zz_395; (case zz_395 => k_is))
    (case n_set_396 => refine' U.no_mk KX G ?zz_397; (case zz_397 => k_is))
    (case n_len_398 => refine' U.no_mk KX G ?zz_399; (case zz_399 => k_is))
    (case n_abs_400 => refine' U.no_mk KX G ?zz_401; (case zz_401 => k_is))
    (case n_all_402 => refine' U.no_mk KX G ?zz_403; (case zz_403 => k_is))
    (case n_iter_404 => refine' U.no_mk KX G ?zz_405; (case zz_405 => k_is))
    (case n_range_406 => refine' U.no_mk KX G ?zz_407; (case zz_407 => k_is))
    (case n_zip_408 => refine' U.no_mk KX G ?zz_409; (case zz_409 => k_is))
    (case n_isinstance_410 => refine' U.no_mk KX G ?zz_411; (case zz_411 => k_is))
    (case c_LETTERS_412 => refine' U.gs_mk KX G ?zz_413; (case zz_413 => k_is))
    (case c_MOST_LETTERS_414 => refine' U.gi_mk KX G ?zz_415; (case zz_415 => k_is))
    (case c_MOST_CELLS_416 => refine' U.gi_mk KX G ?zz_417; (case zz_417 => k_is))
    (case xdIC_1 => refine' U.xd_mk KX G ?zx_ox_2 ?zx_gc_3 ?zx_fi_4 ?zx_lk_5 ?zx_hcd_6 ?zx_ty_7 ?zx_par_8 ?zx_lc_9 ?zx_v2_10 ?zx_fl_11 ?zx_top_12 ?zx_lcc_13 ?zx_nos_14 ?zx_sub_15 ?zx_op_16 ?zx_al_17; (case zx_gc_3 => k_is); (case zx_ox_2 => refine' U.ox_mk ?zo_18 ?zo_19 ?zo_20 ?zo_21 ?zo_22 ?zo_23; (case zo_18 => k_is); (case zo_19 => rfl); (case zo_20 => k_is); (case zo_21 => k_is); (case zo_22 => k_is); (case zo_23 => k_is)); (case zx_fi_4 => k_is); (case zx_lk_5 => k_is); (case zx_hcd_6 => k_is); (case zx_ty_7 => k_is); (case zx_par_8 => exact ⟨_, rfl, rfl⟩); (case zx_lc_9 => k_is); (case zx_v2_10 => rfl); (case zx_fl_11 => first | rfl | decide +kernel); (case zx_top_12 => first | rfl | decide +kernel); (case zx_lcc_13 => k_is); (case zx_nos_14 => k_is); (case zx_sub_15 => k_is); (case zx_op_16 => k_is); (case zx_al_17 => ks_is))
    (case xdIS_24 => refine' U.xd_mk KX G ?zx_ox_25 ?zx_gc_26 ?zx_fi_27 ?zx_lk_28 ?zx_hcd_29 ?zx_ty_30 ?zx_par_31 ?zx_lc_32 ?zx_v2_33 ?zx_fl_34 ?zx_top_35 ?zx_lcc_36 ?zx_nos_37 ?zx_sub_38 ?zx_op_39 ?zx_al_40; (case zx_gc_26 => k_is); (case zx_ox_25 => refine' U.ox_mk ?zo_41 ?zo_42 ?zo_43 ?zo_44 ?zo_45 ?zo_46; (case zo_41 => k_is); (case zo_42 => rfl); (case zo_43 => k_is); (case zo_44 => k_is); (case zo_45 => k_is); (case zo_46 => k_is)); (case zx_fi_27 => k_is); (case zx_lk_28 => k_is); (case zx_hcd_29 => k_is); (case zx_ty_30 => k_is); (case zx_par_31 => exact ⟨_, rfl, rfl⟩); (case zx_lc_32 => k_is); (case zx_v2_33 => rfl); (case zx_fl_34 => first | rfl | decide +kernel); (case zx_top_35 => first | rfl | decide +kernel); (case zx_lcc_36 => k_is); (case zx_nos_37 => k_is); (case zx_sub_38 => k_is); (case zx_op_39 => k_is); (case zx_al_40 => ks_is))
    (case xdUC_47 => refine' U.xd_mk KX G ?zx_ox_48 ?zx_gc_49 ?zx_fi_50 ?zx_lk_51 ?zx_hcd_52 ?zx_ty_53 ?zx_par_54 ?zx_lc_55 ?zx_v2_56 ?zx_fl_57 ?zx_top_58 ?zx_lcc_59 ?zx_nos_60 ?zx_sub_61 ?zx_op_62 ?zx_al_63; (case zx_gc_49 => k_is); (case zx_ox_48 => refine' U.ox_mk ?zo_64 ?zo_65 ?zo_66 ?zo_67 ?zo_68 ?zo_69; (case zo_64 => k_is); (case zo_65 => rfl); (case zo_66 => k_is); (case zo_67 => k_is); (case zo_68 => k_is); (case zo_69 => k_is)); (case zx_fi_50 => k_is); (case zx_lk_51 => k_is); (case zx_hcd_52 => k_is); (case zx_ty_53 => k_is); (case zx_par_54 => exact ⟨_, rfl, rfl⟩); (case zx_lc_55 => k_is); (case zx_v2_56 => rfl); (case zx_fl_57 => first | rfl | decide +kernel); (case zx_top_58 => first | rfl | decide +kernel); (case zx_lcc_59 => k_is); (case zx_nos_60 => k_is); (case zx_sub_61 => k_is); (case zx_op_62 => k_is); (case zx_al_63 => ks_is))
    (case xdUP_70 => refine' U.xd_mk KX G ?zx_ox_71 ?zx_gc_72 ?zx_fi_73 ?zx_lk_74 ?zx_hcd_75 ?zx_ty_76 ?zx_par_77 ?zx_lc_78 ?zx_v2_79 ?zx_fl_80 ?zx_top_81 ?zx_lcc_82 ?zx_nos_83 ?zx_sub_84 ?zx_op_85 ?zx_al_86; (case zx_gc_72 => k_is); (case zx_ox_71 => refine' U.ox_mk ?zo_87 ?zo_88 ?zo_89 ?zo_90 ?zo_91 ?zo_92; (case zo_87 => k_is); (case zo_88 => rfl); (case zo_89 => k_is); (case zo_90 => k_is); (case zo_91 => k_is); (case zo_92 => k_is)); (case zx_fi_73 => k_is); (case zx_lk_74 => k_is); (case zx_hcd_75 => k_is); (case zx_ty_76 => k_is); (case zx_par_77 => exact ⟨_, rfl, rfl⟩); (case zx_lc_78 => k_is); (case zx_v2_79 => rfl); (case zx_fl_80 => first | rfl | decide +kernel); (case zx_top_81 => first | rfl | decide +kernel); (case zx_lcc_82 => k_is); (case zx_nos_83 => k_is); (case zx_sub_84 => k_is); (case zx_op_85 => k_is); (case zx_al_86 => ks_is))
    (case xdIP_93 => refine' U.xd_mk KX G ?zx_ox_94 ?zx_gc_95 ?zx_fi_96 ?zx_lk_97 ?zx_hcd_98 ?zx_ty_99 ?zx_par_100 ?zx_lc_101 ?zx_v2_102 ?zx_fl_103 ?zx_top_104 ?zx_lcc_105 ?zx_nos_106 ?zx_sub_107 ?zx_op_108 ?zx_al_109; (case zx_gc_95 => k_is); (case zx_ox_94 => refine' U.ox_mk ?zo_110 ?zo_111 ?zo_112 ?zo_113 ?zo_114 ?zo_115; (case zo_110 => k_is); (case zo_111 => rfl); (case zo_112 => k_is); (case zo_113 => k_is); (case zo_114 => k_is); (case zo_115 => k_is)); (case zx_fi_96 => k_is); (case zx_lk_97 => k_is); (case zx_hcd_98 => k_is); (case zx_ty_99 => k_is); (case zx_par_100 => exact ⟨_, rfl, rfl⟩); (case zx_lc_101 => k_is); (case zx_v2_102 => rfl); (case zx_fl_103 => first | rfl | decide +kernel); (case zx_top_104 => first | rfl | decide +kernel); (case zx_lcc_105 => k_is); (case zx_nos_106 => k_is); (case zx_sub_107 => k_is); (case zx_op_108 => k_is); (case zx_al_109 => ks_is))
    (case xdTS_116 => refine' U.xd_mk KX G ?zx_ox_117 ?zx_gc_118 ?zx_fi_119 ?zx_lk_120 ?zx_hcd_121 ?zx_ty_122 ?zx_par_123 ?zx_lc_124 ?zx_v2_125 ?zx_fl_126 ?zx_top_127 ?zx_lcc_128 ?zx_nos_129 ?zx_sub_130 ?zx_op_131 ?zx_al_132; (case zx_gc_118 => k_is); (case zx_ox_117 => refine' U.ox_mk ?zo_133 ?zo_134 ?zo_135 ?zo_136 ?zo_137 ?zo_138; (case zo_133 => k_is); (case zo_134 => rfl); (case zo_135 => k_is); (case zo_136 => k_is); (case zo_137 => k_is); (case zo_138 => k_is)); (case zx_fi_119 => k_is); (case zx_lk_120 => k_is); (case zx_hcd_121 => k_is); (case zx_ty_122 => k_is); (case zx_par_123 => exact ⟨_, rfl, rfl⟩); (case zx_lc_124 => k_is); (case zx_v2_125 => rfl); (case zx_fl_126 => first | rfl | decide +kernel); (case zx_top_127 => first | rfl | decide +kernel); (case zx_lcc_128 => k_is); (case zx_nos_129 => k_is); (case zx_sub_130 => k_is); (case zx_op_131 => k_is); (case zx_al_132 => ks_is))
    (case mkR_143 => k_is)
    (case kcR_144 => k_is)
    (case mkWr_147 => k_is)
    (case kcWr_148 => k_is)
    (case mkB_151 => k_is)
    (case kcB_152 => k_is)
    (case mkPg_155 => k_is)
    (case kcPg_156 => k_is)
    (case mkSy_159 => k_is)
    (case kcSy_160 => k_is)
    (case mkWv_163 => k_is)
    (case kcWv_164 => k_is)
    (case mkTu_167 => k_is)
    (case kcTu_168 => k_is)
    (case mkSs_171 => k_is)
    (case kcSs_172 => k_is)
    (case mkC_173 => k_is)
    (case kcC_174 => k_is)
    (case sfC_175 => k_is)
    (case m_C_init_176 => refine' U.md_mk  ?zz_177 ?zz_178 ?zz_179 ?zz_180 ?zz_181; (case zz_177 => k_is); (case zz_178 => k_is); (case zz_179 => k_is); (case zz_180 => k_is); (case zz_181 => k_is))
    (case m_C_add_182 => refine' U.md_mk  ?zz_183 ?zz_184 ?zz_185 ?zz_186 ?zz_187; (case zz_183 => k_is); (case zz_184 => k_is); (case zz_185 => k_is); (case zz_186 => k_is); (case zz_187 => k_is))
    (case m_C_or_188 => refine' U.md_mk  ?zz_189 ?zz_190 ?zz_191 ?zz_192 ?zz_193; (case zz_189 => k_is); (case zz_190 => k_is); (case zz_191 => k_is); (case zz_192 => k_is); (case zz_193 => k_is))
    (case cm_of_194 => refine' U.cm_mk  ?zz_195 ?zz_196 ?zz_197 ?zz_198 ?zz_199 ?zz_200 ?zz_201 ?zz_202; (case zz_195 => k_is); (case zz_196 => k_is); (case zz_197 => k_is); (case zz_198 => k_is); (case zz_199 => k_is); (case zz_200 => k_is); (case zz_201 => k_is); (case zz_202 => k_is))
    (case cm_empty_203 => refine' U.cm_mk  ?zz_204 ?zz_205 ?zz_206 ?zz_207 ?zz_208 ?zz_209 ?zz_210 ?zz_211; (case zz_204 => k_is); (case zz_205 => k_is); (case zz_206 => k_is); (case zz_207 => k_is); (case zz_208 => k_is); (case zz_209 => k_is); (case zz_210 => k_is); (case zz_211 => k_is))
    (case cR_256 => k_is)
    (case cR_257 => k_is)
    (case cR_258 => k_is)
    (case cR_259 => k_is)
    (case cW_260 => k_is)
    (case cW_261 => k_is)
    (case cW_262 => k_is)
    (case cW_263 => k_is)
    (case cB_264 => k_is)
    (case cB_265 => k_is)
    (case cB_266 => k_is)
    (case cB_267 => k_is)
    (case cP_268 => k_is)
    (case cP_269 => k_is)
    (case cP_270 => k_is)
    (case cP_271 => k_is)
    (case aR_source_272 => refine' U.na_mk  ?zz_273; (case zz_273 => k_is))
    (case aR_local_274 => refine' U.na_mk  ?zz_275; (case zz_275 => k_is))
    (case aW_target_276 => refine' U.na_mk  ?zz_277; (case zz_277 => k_is))
    (case aW_function_278 => refine' U.na_mk  ?zz_279; (case zz_279 => k_is))
    (case aW_arguments_280 => refine' U.na_mk  ?zz_281; (case zz_281 => k_is))
    (case aB_source_282 => refine' U.na_mk  ?zz_283; (case zz_283 => k_is))
    (case aB_local_284 => refine' U.na_mk  ?zz_285; (case zz_285 => k_is))
    (case aB_target_286 => refine' U.na_mk  ?zz_287; (case zz_287 => k_is))
    (case aB_function_288 => refine' U.na_mk  ?zz_289; (case zz_289 => k_is))
    (case aB_arguments_290 => refine' U.na_mk  ?zz_291; (case zz_291 => k_is))
    (case aP_name_292 => refine' U.na_mk  ?zz_293; (case zz_293 => k_is))
    (case aP_steps_294 => refine' U.na_mk  ?zz_295; (case zz_295 => k_is))
    (case iR_296 => k_is)
    (case iR_297 => k_is)
    (case iR_298 => k_is)
    (case iR_299 => k_is)
    (case iW_300 => k_is)
    (case iW_301 => k_is)
    (case iW_302 => k_is)
    (case iW_303 => k_is)
    (case iB_304 => k_is)
    (case iB_305 => k_is)
    (case iB_306 => k_is)
    (case iB_307 => k_is)
    (case kRR_308 => kernel_rfl)
    (case kWR_309 => kernel_rfl)
    (case kBR_310 => kernel_rfl)
    (case kRW_311 => kernel_rfl)
    (case kRB_312 => kernel_rfl)
    (case kWW_313 => kernel_rfl)
    (case kWB_314 => kernel_rfl)
    (case kBW_315 => kernel_rfl)
    (case kBB_316 => kernel_rfl)
    (case cls_317 => k_is)
    (case cls_318 => k_is)
    (case cls_319 => k_is)
    (case cls_320 => k_is)
    (case s_cells_321 => refine' U.na_mk  ?zz_322; (case zz_322 => k_is))
    (case s_programs_323 => refine' U.na_mk  ?zz_324; (case zz_324 => k_is))
    (case s_arities_325 => refine' U.na_mk  ?zz_326; (case zz_326 => k_is))
    (case s_names_327 => refine' U.na_mk  ?zz_328; (case zz_328 => k_is))
    (case naIS_331 => k_is)
    (case naUC_332 => k_is)
    (case naUP_333 => k_is)
    (case cWv_338 => k_is)
    (case cWv_339 => k_is)
    (case cWv_340 => k_is)
    (case cWv_341 => k_is)
    (case cC_342 => k_is)
    (case cC_343 => k_is)
    (case cC_344 => k_is)
    (case cC_345 => k_is)
    (case cTu_346 => k_is)
    (case cTu_347 => k_is)
    (case cTu_348 => k_is)
    (case cTu_349 => k_is)
    (case p_lanes_350 => refine' U.na_mk  ?zz_351; (case zz_351 => k_is))
    (case w_turns_352 => refine' U.na_mk  ?zz_353; (case zz_353 => k_is))
    (case w_lengths_354 => refine' U.na_mk  ?zz_355; (case zz_355 => k_is))
    (case w_number_356 => refine' U.na_mk  ?zz_357; (case zz_357 => k_is))
    (case w_found_358 => refine' U.na_mk  ?zz_359; (case zz_359 => k_is))
    (case t_lane_360 => refine' U.na_mk  ?zz_361; (case zz_361 => k_is))
    (case t_occurrence_362 => refine' U.na_mk  ?zz_363; (case zz_363 => k_is))
    (case t_name_364 => refine' U.na_mk  ?zz_365; (case zz_365 => k_is))
    (case t_step_366 => refine' U.na_mk  ?zz_367; (case zz_367 => k_is))
    (case cvS_368 => refine' U.cv_mk KX G ?zz_369 ?zz_370 ?zz_371 ?zz_372; (case zz_369 => k_is); (case zz_370 => k_is); (case zz_371 => k_is); (case zz_372 => k_is))
    (case cvL_373 => refine' U.cv_mk KX G ?zz_374 ?zz_375 ?zz_376 ?zz_377; (case zz_374 => k_is); (case zz_375 => k_is); (case zz_376 => k_is); (case zz_377 => k_is))
    (case cvN_378 => refine' U.cv_mk KX G ?zz_379 ?zz_380 ?zz_381 ?zz_382; (case zz_379 => k_is); (case zz_380 => k_is); (case zz_381 => k_is); (case zz_382 => k_is))
    (case naT_383 => k_is)
    (case cls_418 => k_is)
    (case cls_419 => k_is)
    (case cls_420 => k_is)
    (case cls_421 => k_is)
    (case a_weave_422 => refine' U.na_mk  ?zz_423; (case zz_423 => k_is))
    (case a_decided_424 => refine' U.na_mk  ?zz_425; (case zz_425 => k_is))
    (case d_is_name_426 => refine' U.td_mk KX G ?zz_427 ?zz_428 ?zz_429 ?zz_430; (case zz_427 => k_is); (case zz_428 => k_is); (case zz_429 => k_is); (case zz_430 => k_is))
    (case d_parse_header_431 => refine' U.td_mk KX G ?zz_432 ?zz_433 ?zz_434 ?zz_435; (case zz_432 => k_is); (case zz_433 => k_is); (case zz_434 => k_is); (case zz_435 => k_is))
    (case d_parse_steps_436 => refine' U.td_mk KX G ?zz_437 ?zz_438 ?zz_439 ?zz_440; (case zz_437 => k_is); (case zz_438 => k_is); (case zz_439 => k_is); (case zz_440 => k_is))
    (case d_parse_step_441 => refine' U.td_mk KX G ?zz_442 ?zz_443 ?zz_444 ?zz_445; (case zz_442 => k_is); (case zz_443 => k_is); (case zz_444 => k_is); (case zz_445 => k_is))
    (case d_make_read_446 => refine' U.td_mk KX G ?zz_447 ?zz_448 ?zz_449 ?zz_450; (case zz_447 => k_is); (case zz_448 => k_is); (case zz_449 => k_is); (case zz_450 => k_is))
    (case d_make_write_451 => refine' U.td_mk KX G ?zz_452 ?zz_453 ?zz_454 ?zz_455; (case zz_452 => k_is); (case zz_453 => k_is); (case zz_454 => k_is); (case zz_455 => k_is))
    (case d_make_both_456 => refine' U.td_mk KX G ?zz_457 ?zz_458 ?zz_459 ?zz_460; (case zz_457 => k_is); (case zz_458 => k_is); (case zz_459 => k_is); (case zz_460 => k_is))
    (case d_is_argument_part_461 => refine' U.td_mk KX G ?zz_462 ?zz_463 ?zz_464 ?zz_465; (case zz_462 => k_is); (case zz_463 => k_is); (case zz_464 => k_is); (case zz_465 => k_is))
    (case d_check_names_466 => refine' U.td_mk KX G ?zz_467 ?zz_468 ?zz_469 ?zz_470; (case zz_467 => k_is); (case zz_468 => k_is); (case zz_469 => k_is); (case zz_470 => k_is))
    (case d_list_turns_471 => refine' U.td_mk KX G ?zz_472 ?zz_473 ?zz_474 ?zz_475; (case zz_472 => k_is); (case zz_473 => k_is); (case zz_474 => k_is); (case zz_475 => k_is))
    (case d_is_opened_476 => refine' U.td_mk KX G ?zz_477 ?zz_478 ?zz_479 ?zz_480; (case zz_477 => k_is); (case zz_478 => k_is); (case zz_479 => k_is); (case zz_480 => k_is))
    (case d_law_mixed_481 => refine' U.td_mk KX G ?zz_482 ?zz_483 ?zz_484 ?zz_485; (case zz_482 => k_is); (case zz_483 => k_is); (case zz_484 => k_is); (case zz_485 => k_is))
    (case d_law_pool_486 => refine' U.td_mk KX G ?zz_487 ?zz_488 ?zz_489 ?zz_490; (case zz_487 => k_is); (case zz_488 => k_is); (case zz_489 => k_is); (case zz_490 => k_is))
    (case d_law_draw_491 => refine' U.td_mk KX G ?zz_492 ?zz_493 ?zz_494 ?zz_495; (case zz_492 => k_is); (case zz_493 => k_is); (case zz_494 => k_is); (case zz_495 => k_is))
    (case d_law_names_496 => refine' U.td_mk KX G ?zz_497 ?zz_498 ?zz_499 ?zz_500; (case zz_497 => k_is); (case zz_498 => k_is); (case zz_499 => k_is); (case zz_500 => k_is))
    (case d_law_cells_501 => refine' U.td_mk KX G ?zz_502 ?zz_503 ?zz_504 ?zz_505; (case zz_502 => k_is); (case zz_503 => k_is); (case zz_504 => k_is); (case zz_505 => k_is))
    (case d_law_functions_506 => refine' U.td_mk KX G ?zz_507 ?zz_508 ?zz_509 ?zz_510; (case zz_507 => k_is); (case zz_508 => k_is); (case zz_509 => k_is); (case zz_510 => k_is))
    (case d_law_step_511 => refine' U.td_mk KX G ?zz_512 ?zz_513 ?zz_514 ?zz_515; (case zz_512 => k_is); (case zz_513 => k_is); (case zz_514 => k_is); (case zz_515 => k_is))
    (case d_law_steps_516 => refine' U.td_mk KX G ?zz_517 ?zz_518 ?zz_519 ?zz_520; (case zz_517 => k_is); (case zz_518 => k_is); (case zz_519 => k_is); (case zz_520 => k_is))
    (case d_law_programs_521 => refine' U.td_mk KX G ?zz_522 ?zz_523 ?zz_524 ?zz_525; (case zz_522 => k_is); (case zz_523 => k_is); (case zz_524 => k_is); (case zz_525 => k_is))
    (case d_law_lanes_526 => refine' U.td_mk KX G ?zz_527 ?zz_528 ?zz_529 ?zz_530; (case zz_527 => k_is); (case zz_528 => k_is); (case zz_529 => k_is); (case zz_530 => k_is))
    (case d_law_tracks_531 => refine' U.td_mk KX G ?zz_532 ?zz_533 ?zz_534 ?zz_535; (case zz_532 => k_is); (case zz_533 => k_is); (case zz_534 => k_is); (case zz_535 => k_is))
    (case d_law_weaving_536 => refine' U.td_mk KX G ?zz_537 ?zz_538 ?zz_539 ?zz_540; (case zz_537 => k_is); (case zz_538 => k_is); (case zz_539 => k_is); (case zz_540 => k_is))
    (case d_law_line_541 => refine' U.td_mk KX G ?zz_542 ?zz_543 ?zz_544 ?zz_545; (case zz_542 => k_is); (case zz_543 => k_is); (case zz_544 => k_is); (case zz_545 => k_is))
    (case d_law_text_546 => refine' U.td_mk KX G ?zz_547 ?zz_548 ?zz_549 ?zz_550; (case zz_547 => k_is); (case zz_548 => k_is); (case zz_549 => k_is); (case zz_550 => k_is))
    (case d_law_made_551 => refine' U.td_mk KX G ?zz_552 ?zz_553 ?zz_554 ?zz_555; (case zz_552 => k_is); (case zz_553 => k_is); (case zz_554 => k_is); (case zz_555 => k_is))
    (case d_law_plan_556 => refine' U.td_mk KX G ?zz_557 ?zz_558 ?zz_559 ?zz_560; (case zz_557 => k_is); (case zz_558 => k_is); (case zz_559 => k_is); (case zz_560 => k_is))
    (case d_law_is_number_561 => refine' U.td_mk KX G ?zz_562 ?zz_563 ?zz_564 ?zz_565; (case zz_562 => k_is); (case zz_563 => k_is); (case zz_564 => k_is); (case zz_565 => k_is))
    (case d_law_flag_566 => refine' U.td_mk KX G ?zz_567 ?zz_568 ?zz_569 ?zz_570; (case zz_567 => k_is); (case zz_568 => k_is); (case zz_569 => k_is); (case zz_570 => k_is))
    (case d_law_same_571 => refine' U.td_mk KX G ?zz_572 ?zz_573 ?zz_574 ?zz_575; (case zz_572 => k_is); (case zz_573 => k_is); (case zz_574 => k_is); (case zz_575 => k_is))
    (case d_law_owners_576 => refine' U.td_mk KX G ?zz_577 ?zz_578 ?zz_579 ?zz_580; (case zz_577 => k_is); (case zz_578 => k_is); (case zz_579 => k_is); (case zz_580 => k_is))
    (case d_law_places_581 => refine' U.td_mk KX G ?zz_582 ?zz_583 ?zz_584 ?zz_585; (case zz_582 => k_is); (case zz_583 => k_is); (case zz_584 => k_is); (case zz_585 => k_is))
    (case d_law_opened_586 => refine' U.td_mk KX G ?zz_587 ?zz_588 ?zz_589 ?zz_590; (case zz_587 => k_is); (case zz_588 => k_is); (case zz_589 => k_is); (case zz_590 => k_is))
    (case d_law_serial_591 => refine' U.td_mk KX G ?zz_592 ?zz_593 ?zz_594 ?zz_595; (case zz_592 => k_is); (case zz_593 => k_is); (case zz_594 => k_is); (case zz_595 => k_is))
    (case d_law_same_pairs_596 => refine' U.td_mk KX G ?zz_597 ?zz_598 ?zz_599 ?zz_600; (case zz_597 => k_is); (case zz_598 => k_is); (case zz_599 => k_is); (case zz_600 => k_is))
    (case m_R_init_601 => refine' U.md_mk  ?zz_602 ?zz_603 ?zz_604 ?zz_605 ?zz_606; (case zz_602 => k_is); (case zz_603 => k_is); (case zz_604 => k_is); (case zz_605 => k_is); (case zz_606 => k_is))
    (case m_R_reads_607 => refine' U.md_mk  ?zz_608 ?zz_609 ?zz_610 ?zz_611 ?zz_612; (case zz_608 => k_is); (case zz_609 => k_is); (case zz_610 => k_is); (case zz_611 => k_is); (case zz_612 => k_is))
    (case m_R_writes_613 => refine' U.md_mk  ?zz_614 ?zz_615 ?zz_616 ?zz_617 ?zz_618; (case zz_614 => k_is); (case zz_615 => k_is); (case zz_616 => k_is); (case zz_617 => k_is); (case zz_618 => k_is))
    (case m_Wr_init_619 => refine' U.md_mk  ?zz_620 ?zz_621 ?zz_622 ?zz_623 ?zz_624; (case zz_620 => k_is); (case zz_621 => k_is); (case zz_622 => k_is); (case zz_623 => k_is); (case zz_624 => k_is))
    (case m_Wr_reads_625 => refine' U.md_mk  ?zz_626 ?zz_627 ?zz_628 ?zz_629 ?zz_630; (case zz_626 => k_is); (case zz_627 => k_is); (case zz_628 => k_is); (case zz_629 => k_is); (case zz_630 => k_is))
    (case m_Wr_writes_631 => refine' U.md_mk  ?zz_632 ?zz_633 ?zz_634 ?zz_635 ?zz_636; (case zz_632 => k_is); (case zz_633 => k_is); (case zz_634 => k_is); (case zz_635 => k_is); (case zz_636 => k_is))
    (case m_B_init_637 => refine' U.md_mk  ?zz_638 ?zz_639 ?zz_640 ?zz_641 ?zz_642; (case zz_638 => k_is); (case zz_639 => k_is); (case zz_640 => k_is); (case zz_641 => k_is); (case zz_642 => k_is))
    (case m_B_reads_643 => refine' U.md_mk  ?zz_644 ?zz_645 ?zz_646 ?zz_647 ?zz_648; (case zz_644 => k_is); (case zz_645 => k_is); (case zz_646 => k_is); (case zz_647 => k_is); (case zz_648 => k_is))
    (case m_B_writes_649 => refine' U.md_mk  ?zz_650 ?zz_651 ?zz_652 ?zz_653 ?zz_654; (case zz_650 => k_is); (case zz_651 => k_is); (case zz_652 => k_is); (case zz_653 => k_is); (case zz_654 => k_is))
    (case m_Pg_init_655 => refine' U.md_mk  ?zz_656 ?zz_657 ?zz_658 ?zz_659 ?zz_660; (case zz_656 => k_is); (case zz_657 => k_is); (case zz_658 => k_is); (case zz_659 => k_is); (case zz_660 => k_is))
    (case m_Sy_init_661 => refine' U.md_mk  ?zz_662 ?zz_663 ?zz_664 ?zz_665 ?zz_666; (case zz_662 => k_is); (case zz_663 => k_is); (case zz_664 => k_is); (case zz_665 => k_is); (case zz_666 => k_is))
    (case m_Sy_take_program_667 => refine' U.md_mk  ?zz_668 ?zz_669 ?zz_670 ?zz_671 ?zz_672; (case zz_668 => k_is); (case zz_669 => k_is); (case zz_670 => k_is); (case zz_671 => k_is); (case zz_672 => k_is))
    (case m_Sy_take_step_673 => refine' U.md_mk  ?zz_674 ?zz_675 ?zz_676 ?zz_677 ?zz_678; (case zz_674 => k_is); (case zz_675 => k_is); (case zz_676 => k_is); (case zz_677 => k_is); (case zz_678 => k_is))
    (case m_Sy_take_function_679 => refine' U.md_mk  ?zz_680 ?zz_681 ?zz_682 ?zz_683 ?zz_684; (case zz_680 => k_is); (case zz_681 => k_is); (case zz_682 => k_is); (case zz_683 => k_is); (case zz_684 => k_is))
    (case m_Sy_program_named_685 => refine' U.md_mk  ?zz_686 ?zz_687 ?zz_688 ?zz_689 ?zz_690; (case zz_686 => k_is); (case zz_687 => k_is); (case zz_688 => k_is); (case zz_689 => k_is); (case zz_690 => k_is))
    (case m_Tu_init_691 => refine' U.md_mk  ?zz_692 ?zz_693 ?zz_694 ?zz_695 ?zz_696; (case zz_692 => k_is); (case zz_693 => k_is); (case zz_694 => k_is); (case zz_695 => k_is); (case zz_696 => k_is))
    (case m_Wv_init_697 => refine' U.md_mk  ?zz_698 ?zz_699 ?zz_700 ?zz_701 ?zz_702; (case zz_698 => k_is); (case zz_699 => k_is); (case zz_700 => k_is); (case zz_701 => k_is); (case zz_702 => k_is))
    (case m_Wv_places_703 => refine' U.md_mk  ?zz_704 ?zz_705 ?zz_706 ?zz_707 ?zz_708; (case zz_704 => k_is); (case zz_705 => k_is); (case zz_706 => k_is); (case zz_707 => k_is); (case zz_708 => k_is))
    (case m_Wv_opened_709 => refine' U.md_mk  ?zz_710 ?zz_711 ?zz_712 ?zz_713 ?zz_714; (case zz_710 => k_is); (case zz_711 => k_is); (case zz_712 => k_is); (case zz_713 => k_is); (case zz_714 => k_is))
    (case m_Wv_check_weaving_715 => refine' U.md_mk  ?zz_716 ?zz_717 ?zz_718 ?zz_719 ?zz_720; (case zz_716 => k_is); (case zz_717 => k_is); (case zz_718 => k_is); (case zz_719 => k_is); (case zz_720 => k_is))
    (case m_Wv_check_beginning_721 => refine' U.md_mk  ?zz_722 ?zz_723 ?zz_724 ?zz_725 ?zz_726; (case zz_722 => k_is); (case zz_723 => k_is); (case zz_724 => k_is); (case zz_725 => k_is); (case zz_726 => k_is))
    (case m_Ss_init_727 => refine' U.md_mk  ?zz_728 ?zz_729 ?zz_730 ?zz_731 ?zz_732; (case zz_728 => k_is); (case zz_729 => k_is); (case zz_730 => k_is); (case zz_731 => k_is); (case zz_732 => k_is))
    (case m_Ss_lets_733 => refine' U.md_mk  ?zz_734 ?zz_735 ?zz_736 ?zz_737 ?zz_738; (case zz_734 => k_is); (case zz_735 => k_is); (case zz_736 => k_is); (case zz_737 => k_is); (case zz_738 => k_is))
    (case b_R_739 => refine' U.cfn_mk  ?zz_740 ?zz_741 ?zz_742 ?zz_743 ?zz_744; (case zz_740 => k_is); (case zz_741 => k_is); (case zz_742 => k_is); (case zz_743 => k_is); (case zz_744 => k_is))
    (case b_Wr_745 => refine' U.cfn_mk  ?zz_746 ?zz_747 ?zz_748 ?zz_749 ?zz_750; (case zz_746 => k_is); (case zz_747 => k_is); (case zz_748 => k_is); (case zz_749 => k_is); (case zz_750 => k_is))
    (case cm_751 => refine' U.cm_mk  ?zz_752 ?zz_753 ?zz_754 ?zz_755 ?zz_756 ?zz_757 ?zz_758 ?zz_759; (case zz_752 => k_is); (case zz_753 => k_is); (case zz_754 => k_is); (case zz_755 => k_is); (case zz_756 => k_is); (case zz_757 => k_is); (case zz_758 => k_is); (case zz_759 => k_is))
    (case a1 => k_is); (case l1 => k_is); (case k1 => k_is); (case k2 => k_is)
end

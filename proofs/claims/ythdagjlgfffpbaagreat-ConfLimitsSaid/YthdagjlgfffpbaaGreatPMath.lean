/-
  Layer 5 (conf): the program's comparisons give the order of keys: plain mathematics. By the verifier.
-/
import Derived.Test.YthdagjlgfffpbaaGreatPChn
import Derived.Shelf.SlSortCmp.WholeK
set_option linter.unusedVariables false
namespace Go.Proofs.YthdagjlgfffpbaaGreat
open Go.RowKit Go.Sort

/-- The sign of c is the order of p and q, whatever follows them. -/
def Sgn (c : Int) (p q : List Nat) : Prop := (c < 0 → ∀ x y, lessN (p ++ x) (q ++ y) = true) ∧ (0 < c → ∀ x y, lessN (p ++ x) (q ++ y) = false) ∧ (c = 0 → p = q)

theorem lessN_pre (p x y : List Nat) : lessN (p ++ x) (p ++ y) = lessN x y := by
  induction p with
  | nil => rfl
  | cons a p ih => rw [List.cons_append, List.cons_append, lessN, if_pos rfl, ih]

theorem sgn_or {c : Int} {r : List Int} {p q x y : List Nat} (h : Sgn c p q) (hr : decide (orI r < 0) = lessN x y) : decide (orI (c :: r) < 0) = lessN (p ++ x) (q ++ y) := by
  rw [orI]
  by_cases h0 : c = 0
  · rw [if_pos h0, h.2.2 h0, lessN_pre, hr]
  · rw [if_neg h0]
    rcases Int.lt_or_gt_of_ne h0 with h1 | h1
    · rw [h.1 h1, decide_eq_true h1]
    · rw [h.2.1 h1, decide_eq_false (by omega)]
theorem or_none : decide (orI [] < 0) = lessN [] [] := rfl

theorem sgn_I (a b : Nat) : Sgn (cmpI (a : Int) (b : Int)) [a] [b] := by
  unfold cmpI
  refine ⟨fun h x y => ?_, fun h x y => ?_, fun h => ?_⟩
  · split at h
    · rename_i h1
      rw [List.singleton_append, List.singleton_append, lessN, if_neg (by omega), decide_eq_true (by omega)]
    · split at h <;> omega
  · split at h
    · omega
    · split at h
      · rename_i h1 h2
        rw [List.singleton_append, List.singleton_append, lessN, if_neg (by omega), decide_eq_false (by omega)]
      · omega
  · split at h
    · omega
    · split at h
      · omega
      · rw [show a = b by omega]

theorem sgn_B (a b : Bool) : Sgn (cmpB a b) [bitN a] [bitN b] := by
  refine ⟨fun h x y => ?_, fun h x y => ?_, fun h => ?_⟩ <;> cases a <;> cases b <;> first | (exfalso; revert h; decide) | rfl

theorem textN_list (s : ByteArray) : textN s = s.data.toList.map (fun u => u.toNat + 1) ++ [0] := by
  unfold textN bytesOf
  rw [List.map_map]
  rfl

theorem less_text : ∀ (l m : List UInt8) (x y : List Nat), (Op.bytesLess l m = true → lessN (l.map (fun u => u.toNat + 1) ++ [0] ++ x) (m.map (fun u => u.toNat + 1) ++ [0] ++ y) = true) ∧
    (Op.bytesLess l m = false → l ≠ m → lessN (l.map (fun u => u.toNat + 1) ++ [0] ++ x) (m.map (fun u => u.toNat + 1) ++ [0] ++ y) = false)
  | [], [], x, y => ⟨fun h => by simp [Op.bytesLess] at h, fun h hne => absurd rfl hne⟩
  | [], b :: m, x, y => ⟨fun h => by simp [lessN], fun h => by simp [Op.bytesLess] at h⟩
  | a :: l, [], x, y => ⟨fun h => by simp [Op.bytesLess] at h, fun h hne => by simp [lessN]⟩
  | a :: l, b :: m, x, y => by
    have ih := less_text l m x y
    simp only [List.map_cons, List.cons_append, lessN, Op.bytesLess]
    by_cases hab : a = b
    · subst hab
      simp only [if_pos]
      refine ⟨fun h => ih.1 ?_, fun h hne => ih.2 ?_ (fun e => hne (by rw [e]))⟩
      · simpa [UInt8.lt_irrefl] using h
      · simpa [UInt8.lt_irrefl] using h
    · have hn : ¬ a.toNat + 1 = b.toNat + 1 := fun h => hab (UInt8.toNat_inj.1 (by omega))
      rw [if_neg hn]
      have hl : a < b ↔ a.toNat < b.toNat := UInt8.lt_iff_toNat_lt
      refine ⟨fun h => decide_eq_true ?_, fun h hne => decide_eq_false ?_⟩
      · have : a < b := by simpa [hab] using h
        have := hl.1 this
        omega
      · have : ¬ a < b := by simpa [hab] using h
        have h3 : ¬ a.toNat < b.toNat := fun h' => this (hl.2 h')
        omega

theorem sgn_S (s t : ByteArray) : Sgn (cmpS s t) (textN s) (textN t) := by
  have e : ∀ z : ByteArray, z.toList = z.data.toList := fun z => ByteArray.toList_eq z
  unfold cmpS
  rw [textN_list, textN_list, e, e]
  have hl := less_text s.data.toList t.data.toList
  cases h1 : Op.bytesLess s.data.toList t.data.toList with
  | true => exact ⟨fun _ x y => (hl x y).1 h1, fun h => by simp at h, fun h => by simp at h⟩
  | false =>
    cases h2 : (s.data.toList == t.data.toList) with
    | true =>
      refine ⟨fun h => by simp at h, fun h => by simp at h, fun _ => ?_⟩
      rw [eq_of_beq h2]
    | false =>
      refine ⟨fun h => by simp at h, fun h x y => (hl x y).2 h1 (fun e => by rw [e] at h2; simp at h2), fun h => by simp at h⟩

theorem less_D : ∀ (l m : List Nat), decide (orI [cmpD l m] < 0) = lessN l m
  | [], [] => rfl
  | [], _ :: _ => rfl
  | _ :: _, [] => rfl
  | a :: x, b :: y => by
    have ih := less_D x y
    rw [cmpD, lessN]
    by_cases h1 : (a : Int) < b
    · rw [if_pos h1, if_neg (by omega), decide_eq_true (show a < b by omega)]
      rfl
    · rw [if_neg h1]
      by_cases h2 : (b : Int) < a
      · rw [if_pos h2, if_neg (by omega), decide_eq_false (show ¬ a < b by omega)]
        rfl
      · rw [if_neg h2, if_pos (by omega), ih]

def cfP (x y : PartR) : Int := orI [cmpI (x.id : Int) (y.id : Int), cmpS x.name y.name, cmpI (x.period : Int) (y.period : Int), cmpI (x.dur : Int) (y.dur : Int)]
def cfW (x y : WinR) : Int := orI [cmpI (x.start : Int) (y.start : Int), cmpI (x.len : Int) (y.len : Int), cmpI (x.part : Int) (y.part : Int)]
def cfR (x y : RegR) : Int := orI [cmpI (x.base : Int) (y.base : Int), cmpI (x.size : Int) (y.size : Int), cmpI (x.part : Int) (y.part : Int), cmpI (x.rights : Int) (y.rights : Int), cmpB x.shared y.shared]
def cfT (x y : PortR) : Int := orI [cmpI (x.id : Int) (y.id : Int), cmpI (x.part : Int) (y.part : Int), cmpS x.name y.name, cmpB x.out y.out, cmpB x.que y.que, cmpI (x.size : Int) (y.size : Int)]
def cfC (x y : ChanR) : Int := orI [cmpI (x.id : Int) (y.id : Int), cmpI (x.src : Int) (y.src : Int), cmpD x.dests y.dests]

theorem ltP (x y : PartR) : ltOf cfP x y = lessN x.key y.key :=
  sgn_or (sgn_I x.id y.id) (sgn_or (sgn_S x.name y.name) (sgn_or (sgn_I x.period y.period) (sgn_or (sgn_I x.dur y.dur) or_none)))
theorem ltW (x y : WinR) : ltOf cfW x y = lessN x.key y.key :=
  sgn_or (sgn_I x.start y.start) (sgn_or (sgn_I x.len y.len) (sgn_or (sgn_I x.part y.part) or_none))
theorem ltR (x y : RegR) : ltOf cfR x y = lessN x.key y.key :=
  sgn_or (sgn_I x.base y.base) (sgn_or (sgn_I x.size y.size) (sgn_or (sgn_I x.part y.part) (sgn_or (sgn_I x.rights y.rights) (sgn_or (sgn_B x.shared y.shared) or_none))))
theorem ltT (x y : PortR) : ltOf cfT x y = lessN x.key y.key :=
  sgn_or (sgn_I x.id y.id) (sgn_or (sgn_I x.part y.part) (sgn_or (sgn_S x.name y.name) (sgn_or (sgn_B x.out y.out) (sgn_or (sgn_B x.que y.que) (sgn_or (sgn_I x.size y.size) or_none)))))
theorem ltC (x y : ChanR) : ltOf cfC x y = lessN x.key y.key :=
  sgn_or (sgn_I x.id y.id) (sgn_or (sgn_I x.src y.src) (less_D x.dests y.dests))

/-- The order by keys is one. -/
theorem swo_key {α : Type} (lt : α → α → Bool) (key : α → List Nat) (h : ∀ x y, lt x y = lessN (key x) (key y)) : SWO lt where
  irrefl x := by rw [h]; exact lessN_irrefl _
  trans x y z h1 h2 := by
    rw [h, lessN_eq, decide_eq_true_eq] at *
    exact List.lt_trans h1 h2
  ntrans x y z h1 h2 := by
    rw [h, lessN_eq, decide_eq_false_iff_not, List.not_lt] at *
    exact List.le_trans h2 h1

end Go.Proofs.YthdagjlgfffpbaaGreat

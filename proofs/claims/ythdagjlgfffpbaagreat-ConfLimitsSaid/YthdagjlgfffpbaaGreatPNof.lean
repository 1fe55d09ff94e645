/-
  Layer 5 (conf): normal forms: there is one, and all have the same keys. Plain mathematics. By the verifier.
-/
import Derived.Test.YthdagjlgfffpbaaGreatPNrm
import Derived.Test.YthdagjlgfffpbaaGreatPSam
set_option linter.unusedVariables false
namespace Go.Proofs.YthdagjlgfffpbaaGreat
open Go.RowKit Go.Sort

def leQ {α : Type} (key : α → List Nat) (x y : α) : Bool := !lessN (key y) (key x)
theorem leQ_trans {α : Type} (key : α → List Nat) (x y z : α) (h1 : leQ key x y = true) (h2 : leQ key y z = true) : leQ key x z = true := by
  simp only [leQ, Bool.not_eq_true', lessN_eq, decide_eq_false_iff_not, List.not_lt] at *
  exact List.le_trans h1 h2
theorem leQ_total {α : Type} (key : α → List Nat) (x y : α) : (leQ key x y || leQ key y x) = true := by
  simp only [leQ, Bool.or_eq_true, Bool.not_eq_true', lessN_eq, decide_eq_false_iff_not, List.not_lt]
  exact List.le_total _ _
def srtK {α : Type} (key : α → List Nat) (l : List α) : List α := l.mergeSort (leQ key)
theorem srtK_perm {α : Type} (key : α → List Nat) (l : List α) : (srtK key l).Perm l := List.mergeSort_perm l _
theorem srtK_asc {α : Type} (key : α → List Nat) (l : List α) : Asc key (srtK key l) := by
  have := List.pairwise_mergeSort (le := leQ key) (leQ_trans key) (leQ_total key) l
  exact this.imp fun {x y} h => by simpa [leQ] using h

/-- The normal form. -/
def normR (c : ConfR) : ConfR := ⟨c.frame, srtK PartR.key c.ps, srtK WinR.key c.ws, srtK RegR.key c.rs, srtK PortR.key c.ts, srtK ChanR.key (c.cs.map srtR)⟩
theorem normR_of (c : ConfR) : NormOf c (normR c) :=
  ⟨rfl, srtK_perm _ _, srtK_perm _ _, srtK_perm _ _, srtK_perm _ _, srtK_perm _ _, srtK_asc _ _, srtK_asc _ _, srtK_asc _ _, srtK_asc _ _, srtK_asc _ _⟩

/-- Two rows with the same elements, both in order, have the same keys. -/
theorem asc_keys {α : Type} {key : α → List Nat} {l m : List α} (hp : l.Perm m) (h1 : Asc key l) (h2 : Asc key m) : l.map key = m.map key := by
  refine (hp.map key).eq_of_pairwise (le := fun x y => lessN y x = false) (fun a b _ _ hab hba => ?_) ?_ ?_
  · exact lessN_same hba hab
  · rw [List.pairwise_map]; exact h1
  · rw [List.pairwise_map]; exact h2

theorem NormOf.keys {c n n' : ConfR} (h : NormOf c n) (h' : NormOf c n') (t : Int) : n.keys t = n'.keys t := by
  unfold ConfR.keys
  rw [asc_keys (h.ps.trans h'.ps.symm) h.sp h'.sp, asc_keys (h.ws.trans h'.ws.symm) h.sw h'.sw, asc_keys (h.rs.trans h'.rs.symm) h.sr h'.sr, asc_keys (h.ts.trans h'.ts.symm) h.st h'.st, asc_keys (h.cs.trans h'.cs.symm) h.sc h'.sc]
theorem NormOf.same {c n n' : ConfR} (h : NormOf c n) (h' : NormOf c n') : n.frame = n'.frame ∧ ∀ t, n.keys t = n'.keys t := ⟨h.frame.trans h'.frame.symm, h.keys h'⟩
theorem sameV_right {a n n' : ConfR} (h : n.frame = n'.frame ∧ ∀ t, n.keys t = n'.keys t) : sameV a n = sameV a n' := by
  unfold sameV
  rw [h.1]
  simp only [h.2]
theorem sameV_left {a n n' : ConfR} (h : n.frame = n'.frame ∧ ∀ t, n.keys t = n'.keys t) : sameV n a = sameV n' a := by
  unfold sameV
  rw [h.1]
  simp only [h.2]
theorem sameV_refl {n n' : ConfR} (h : n.frame = n'.frame ∧ ∀ t, n.keys t = n'.keys t) : sameV n n' = true :=
  sameV_yes h.1 fun t _ _ => h.2 t

theorem srtR_ok {x : ChanR} (h : x.ok) : (srtR x).ok := ⟨h.1, h.2.1, fun y hy => h.2.2 y ((sortU_perm _).mem_iff.1 hy)⟩
theorem NormOf.nums {c n : ConfR} (h : NormOf c n) (hc : OkCfg c) : OkCfg n := by
  refine ⟨by rw [h.frame]; exact hc.frame, fun p hp => hc.okp p (h.ps.mem_iff.1 hp), fun p hp => hc.okw p (h.ws.mem_iff.1 hp), fun p hp => hc.okr p (h.rs.mem_iff.1 hp), fun p hp => hc.okt p (h.ts.mem_iff.1 hp), fun p hp => ?_⟩
  obtain ⟨x, hx, rfl⟩ := List.mem_map.1 (h.cs.mem_iff.1 hp)
  exact srtR_ok (hc.okc x hx)
theorem NormOf.small {c n : ConfR} (h : NormOf c n) {k : Nat} (hc : Small c k) : Small n k := by
  refine ⟨by rw [h.ps.length_eq]; exact hc.ps, by rw [h.ws.length_eq]; exact hc.ws, by rw [h.rs.length_eq]; exact hc.rs, by rw [h.ts.length_eq]; exact hc.ts, by rw [h.cs.length_eq, List.length_map]; exact hc.cs, fun x hx => ?_⟩
  obtain ⟨y, hy, rfl⟩ := List.mem_map.1 (h.cs.mem_iff.1 hx)
  show (sortU y.dests).length ≤ k
  rw [sortU_len]
  exact hc.ds y hy

end Go.Proofs.YthdagjlgfffpbaaGreat

/-
  Layer 3 (buf): a call of the builder beside the same of the reference: a number is replaced. By the verifier.
-/
import Derived.Test.YtajkneekehkhbaaBDo56
import Derived.Deep.QuietTactic
import Derived.BigQuiet
import Derived.Deep.RegionHeld3
set_option linter.unusedVariables false
namespace Go.Proofs.Ytajkneekehkhbaa
open Go.RowKit

/-- Another kind. -/
def Else (k : Int) : Prop := (k == 0) = false ∧ (k == 1) = false ∧ (k == 2) = false ∧ (k == 3) = false ∧ (k == 4) = false ∧ (k == 5) = false ∧ (k == 6) = false

set_option maxHeartbeats 4000000 in
set_option maxRecDepth 100000 in
theorem do7_no (N : Nat) (B P : Nat) (l : List Nat) (g : Option Nat) (A : Option Addr) (c : Nat) (k : Int) (hk : Else k) (n : Int) (z : Int) (D : Value) (w : World)
    (hD : ∃ Ad nd cd, D = .slice Ad nd cd) (h : Inv N w B P l l g A c) (hA : ∀ a, A = some a → a.block < w.heap.size) (hlen : l.length ≤ 400000) (hn : I64 n) (hex : ¬ Ex l.length n 4) :
    Calls Try.prog 21 #[.pointer (some ⟨B, 0, none⟩), .pointer (some ⟨P, 0, none⟩), .agg #[.int .i64 k, .int .i64 n, .int .u64 z, D]] w fun e w' => DoRes N w B P l e w' := by
  obtain ⟨Ad, nd, cd, rfl⟩ := hD
  obtain ⟨k0, k1, k2, k3, k4, k5, k6⟩ := hk
  have hA1 : Below w.heap.size w (w.alloc (.cells #[.int .i64 k, .int .i64 n, .int .u64 z, .slice Ad nd cd] 49)) := (Below.refl _ _).alloc (Nat.le_refl _) _
  obtain ⟨w1, hw1⟩ : ∃ w1, w1 = w.alloc (.cells #[.int .i64 k, .int .i64 n, .int .u64 z, .slice Ad nd cd] 49) := ⟨_, rfl⟩
  have hI := h.below hA1
  have hO1 := OpBlk.new w k n z (.slice Ad nd cd)
  rw [← hw1] at hA1 hI hO1
  have h0 := hO1.c0
  have h1 := hO1.c1
  have h2 := hO1.c2
  have hP : w1.cell? ⟨P, 0, none⟩ = some (.slice A l.length c) := hI.row.cell (i := 0) (by omega)
  have HE : Hid (∀ W, Calls Try.prog 17 #[.slice A l.length c, .int .i64 n, .int .i64 4] W fun e w' => e = .returned (.bool false) ∧ W = w') := Lib.hid fun W => by
    have := exists_ok A l c n 4 h.bys.2.2 hn (by unfold I64; omega) W
    rw [exB_no hex] at this
    exact this
  have HS : Hid (∀ (W : World) (y : Int), Below w1.heap.size w1 W → Calls Try.prog 31 #[.pointer (some ⟨B, 0, none⟩), .int .i64 n, .int .u32 y] W fun e w' => e = .returned (.bool false) ∧ DoRes N w B P l (.returned (.bool true)) w') := Lib.hid fun W y hW => by
    refine (set32_no B g l n y W (hI.below hW).bld (by omega) hn hex).mono ?_
    rintro e w' ⟨he, hb⟩
    have hb' := hW.trans (hb.mono hW.size)
    exact ⟨he, rfl, l, g, A, c, hI.below hb', fun a ha => Nat.lt_of_lt_of_le (hA a ha) (Nat.le_trans hA1.size hb'.size), by omega, (hA1.mono h.low).trans (hb'.mono hI.low)⟩
  clear h hA hlen hA1 hI hO1 hn hex
  go_enter Try.func21, Try.ntmps21
  go_wp2_with fail
  rw [← hw1]
  clear hw1
  go_quiet ((go_at_call 17; exact quiet_left (HE.out _)))
  go_wp2_with fail
  refine (HS.out _ _ (below_drewN (Below.refl _ _) _)).mono ?_
  rintro e w4 ⟨rfl, hd⟩
  have HDO := Lib.hid hd
  clear hd
  go_wp2_with fail
  go_ret
  exact HDO.out

end Go.Proofs.Ytajkneekehkhbaa

/-
  The reference of layer 1: Lcm, Align; and num.Align. By the verifier.
-/
import Derived.Test.YtgbpjgnpojkejaaDoorRefNumB
import Derived.Deep.RegionHeld3
set_option linter.unusedVariables false
namespace Go.Proofs.YtgbpjgnpojkejaaDoor
open Go.RowKit

theorem rgcd_still (a b : Int) (w : World) (ha : U a) (hb : U b) :
    Calls Tryd.prog 32 #[.int .u64 a, .int .u64 b] w fun e w' => e = .returned (.int .u64 (Nat.gcd a.toNat b.toNat : Nat)) ∧ w' = w := by
  obtain ⟨a0, a1⟩ := ha; obtain ⟨b0, b1⟩ := hb
  obtain ⟨x, rfl⟩ := Int.eq_ofNat_of_zero_le a0
  obtain ⟨y, rfl⟩ := Int.eq_ofNat_of_zero_le b0
  exact (rgcd_ok x y w a1 b1).mono fun _ _ ⟨he, hw⟩ => ⟨he, hw.symm⟩

/-- Two numbers in a new array. -/
theorem nums_two (w : World) (x y : Int) (t : TypeId) (hx : U x) (hy : U y) : Nums (w.alloc (.cells #[.int .u64 x, .int .u64 y] t)) (some ⟨w.heap.size, 0, none⟩) [x, y] := by
  refine ⟨fun i hi => ⟨w.heap.size, 0, rfl, by simp, ?_⟩, ?_, by unfold maxLen; simp⟩
  · rw [cell_of_row _ _ _ _ t (0, 0) (heap_alloc_new w _)]
    have : i = 0 ∨ i = 1 := by simp at hi; omega
    rcases this with rfl | rfl <;> rfl
  · intro z hz
    simp at hz
    rcases hz with rfl | rfl <;> assumption

theorem rmul2_ok (A : Option Addr) (x y : Int) (w : World) (hn : Nums w A [x, y]) :
    Calls Tryd.prog 13 #[.slice A 2 2] w fun e w' => FoldRes (mulO [x, y]) e ∧ Below w.heap.size w w' := rmul_ok A [x, y] 2 w hn

/-- The reference's step. -/
def rstep (n z : Int) : Option Int := if z = 0 then none else mulO [n, z / (Nat.gcd n.toNat z.toNat : Nat)]

theorem mulO_two (x y : Int) (hx : U x) (px : 0 < x) (py : 0 < y) : mulO [x, y] = timesO x y := by
  have h0 : ¬ ((0 : Int) ∈ [x, y]) := by simp; omega
  unfold mulO
  rw [if_neg h0]
  have h1 : timesO 1 x = some x := by unfold timesO; rw [Int.one_mul, if_pos hx.hi]
  simp only [foldO, h1]
  cases timesO x y <;> rfl

theorem timesO_some {x y r : Int} (h : timesO x y = some r) : r = x * y ∧ r < 18446744073709551616 := by
  unfold timesO at h
  split at h
  · injection h with h; subst h; exact ⟨rfl, by assumption⟩
  · cases h

theorem rstep_some (a z r : Int) (ha : U a) (hz : U z) (hp : 0 < a) (h : rstep a z = some r) : U r ∧ 0 < r := by
  unfold rstep at h
  split at h
  · cases h
  · rename_i h0
    have z0 := hz.lo
    have hgn0 : 0 < Nat.gcd a.toNat z.toNat := Nat.gcd_pos_of_pos_left _ (by have := ha.lo; omega)
    have hle : Nat.gcd a.toNat z.toNat ≤ z.toNat := Nat.le_of_dvd (by omega) (Nat.gcd_dvd_right _ _)
    have hq : 0 < z.toNat / Nat.gcd a.toNat z.toNat := Nat.div_pos hle hgn0
    have hq' : (0 : Int) < z / (Nat.gcd a.toNat z.toNat : Nat) := by
      have e : z = (z.toNat : Int) := (Int.toNat_of_nonneg z0).symm
      rw [e, Int.toNat_natCast, ← Int.natCast_ediv]
      omega
    rw [mulO_two a _ ha hp hq'] at h
    obtain ⟨rfl, hr⟩ := timesO_some h
    have := Int.mul_pos hp hq'
    exact ⟨⟨by omega, hr⟩, this⟩

theorem below_alloc_then {B : Nat} {w wr w1 : World} {o : Obj} (h : Below B w wr) (hB : B ≤ wr.heap.size) (h1 : Below (wr.alloc o).drew.heap.size (wr.alloc o).drew w1) : Below B w w1 :=
  (h.alloc hB o).drew.trans (h1.mono (by simp; omega))

theorem rlcm_ok (A : Option Addr) (zs : List Int) (c : Nat) (w : World) (hn : Nums w A zs) :
    Calls Tryd.prog 15 #[.slice A zs.length c] w fun e w' => FoldRes (foldO rstep 1 zs) e ∧ Below w.heap.size w w' := by
  have HN := Lib.hid hn
  have hlen := hn.2.2
  unfold maxLen at hlen
  clear hn
  go_enter Tryd.func15, Tryd.ntmps15
  go_wp2
  go_loopw [4, 5] (fun s i wr => ∃ (k : Nat) (a : Int), k ≤ zs.length ∧ i = .int .i64 k ∧ s = .int .u64 a ∧ U a ∧ 0 < a ∧ Hid (foldO rstep 1 (zs.take k) = some a) ∧ Below w.heap.size w wr) (fun _ i _ => zs.length - (intOf i).toNat)
  case atStart => exact ⟨0, 1, by omega, rfl, rfl, ⟨by omega, by omega⟩, by omega, Lib.hid rfl, Below.refl _ _⟩
  case round =>
    obtain ⟨k, a, hk, rfl, rfl, hu, hpos, hf, hbw⟩ := hrel
    by_cases hlt : k < zs.length
    · obtain ⟨b, o, rfl, hb, hc⟩ := (HN.out.below (Nat.le_refl _) hbw).1 k hlt
      replace hc : wr.cell? ⟨b, o + k, none⟩ = some (.int .u64 (zs.getD k 0)) := hc
      have hz := HN.out.u k hlt
      have hcl : (k : Int) < zs.length := by omega
      have Hst := foldO_snoc rstep 1 a zs k hlt hf.out
      generalize zs.getD k 0 = z at *
      have HST := Lib.hid Hst
      clear Hst
      have a0 := hu.lo; have a1 := hu.hi; have z0 := hz.lo; have z1 := hz.hi
      by_cases h0 : z = 0
      · subst h0
        go_wp2
        go_ret2
        exact ⟨congrArg (fun o => Ending.returned (opt o)) (foldO_none _ _ _ _ (by rw [HST.out]; rfl)).symm, hbw⟩
      · have hzb : (z == 0) = false := by rw [beq_eq_false_iff_ne]; exact h0
        have hr : rstep a z = mulO [a, z / (Nat.gcd a.toNat z.toNat : Nat)] := if_neg h0
        have hgcd := fun w => rgcd_still a z w hu hz
        have hgn0 : 0 < Nat.gcd a.toNat z.toNat := Nat.gcd_pos_of_pos_left _ (by omega)
        have hg0 : (0 : Int) < (Nat.gcd a.toNat z.toNat : Nat) := by omega
        clear hgn0
        generalize ((Nat.gcd a.toNat z.toNat : Nat) : Int) = g at *
        have hq : U (z / g) := ⟨Int.ediv_nonneg (by omega) (by omega), by have := Int.ediv_le_self (a := z) g (by omega); omega⟩
        have hgn : (g == 0) = false := by rw [beq_eq_false_iff_ne]; omega
        have hgz : ¬ g = 0 := by omega
        have hw : IntKind.u64.wrap (z / g) = z / g := IntWalk.u64_in _ (by unfold U at hq; omega)
        have hw2 : IntKind.u64.wrap (z.tdiv g) = z / g := IntWalk.u64_quo _ _ ⟨z0, by omega, by omega⟩
        have HR := Lib.hid hr
        have HG := Lib.hid hgcd
        clear hr hgcd h0
        have HM : Hid (∀ (W : World) A, Nums W A [a, z / g] → Calls Tryd.prog 13 #[.slice A 2 2] W fun e w' => FoldRes (rstep a z) e ∧ Below W.heap.size W w') := Lib.hid (fun W A hn => by rw [HR.out]; exact rmul2_ok A _ _ W hn)
        have HP := fun r => rstep_some a z r hu hz hpos
        generalize rstep a z = r at *
        have HP := Lib.hid HP
        rcases r with _ | r
        · go_wp2_with fail
          go_region_held3 (fun w' => w'.cell? ⟨b, o + k, none⟩ = some (.int .u64 z))
            (first | go_keep | (rw [hb1.cell (by simp; omega)]; assumption))
            (first | (go_at_call 32; refine (HG.out _).mono ?_; rintro e w' ⟨rfl, rfl⟩) | (go_at_call 13; refine (HM.out _ _ (by exact nums_two _ _ _ _ hu hq)).mono ?_; rintro e w1 ⟨rfl, hb1⟩; unfold opt))
          have hb2 := below_alloc_then hbw hbw.size hb1
          clear hb1
          go_wp2_with fail
          go_ret2
          exact ⟨congrArg (fun o => Ending.returned (opt o)) (foldO_none _ _ _ _ HST.out).symm, hb2⟩
        · go_wp2_with fail
          go_region_held3 (fun w' => w'.cell? ⟨b, o + k, none⟩ = some (.int .u64 z))
            (first | go_keep | (rw [hb1.cell (by simp; omega)]; assumption))
            (first | (go_at_call 32; refine (HG.out _).mono ?_; rintro e w' ⟨rfl, rfl⟩) | (go_at_call 13; refine (HM.out _ _ (by exact nums_two _ _ _ _ hu hq)).mono ?_; rintro e w1 ⟨rfl, hb1⟩; unfold opt))
          have hb2 := below_alloc_then hbw hbw.size hb1
          clear hb1
          go_wp2_with fail
          go_roundw
          case rel => exact ⟨k + 1, r, by omega, by go_num, rfl, (HP.out r rfl).1, (HP.out r rfl).2, HST, hb2⟩
          case measure => simp [intOf]; omega
    · have hkk : k = zs.length := by omega
      have hcl : ¬ ((k : Int) < zs.length) := by omega
      have hf' := hf.out
      rw [hkk, List.take_length] at hf'
      have HF := Lib.hid hf'
      clear hf' hkk
      go_wp2
      go_ret2
      exact ⟨congrArg (fun o => Ending.returned (opt o)) HF.out.symm, hbw⟩

end Go.Proofs.YtgbpjgnpojkejaaDoor

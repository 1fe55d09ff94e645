/-
  Layer 2 (crc): undo. By the verifier.
-/
import Derived.Test.YtideanaecmoimaaCIdx
import Derived.Test.YtideanaecmoimaaCUn
import Derived.BigRegion
set_option linter.unusedVariables false
namespace Go.Proofs.Ytideanaecmoimaa
open Go.RowKit

/-- Bytes do not lie in a register. -/
theorem bys_apart {w : World} {B v : Nat} {A : Option Addr} {l : List Nat} (hr : Reg w B v) (hl : Bys w A l) {k : Nat} (hk : k < l.length) : ∃ b o, A = some ⟨b, o, none⟩ ∧ b < w.heap.size ∧ b ≠ B ∧ w.cell? ⟨b, o + k, none⟩ = some (V8 (l.getD k 0)) := by
  obtain ⟨b, o, hA, hb, hc⟩ := hl.1 k hk
  refine ⟨b, o, hA, hb, ?_, hc⟩
  rintro rfl
  rw [cell_of_row w b (o + k) _ _ _ hr] at hc
  rcases Nat.lt_or_ge (o + k) 257 with h | h
  · rw [rowOf_get _ h] at hc
    unfold regF V32 V8 at hc
    split at hc <;> simp at hc
  · rw [Array.getElem?_eq_none (by rw [rowOf_size]; omega)] at hc
    cases hc

theorem Sole.drew {B : Nat} {a w : World} (h : Sole B a w) : Sole B a w.drew := ⟨h.os, h.tape, h.output, h.size, h.block⟩

set_option maxHeartbeats 2000000 in
set_option maxRecDepth 20000 in
theorem undo_ok (B v : Nat) (A : Option Addr) (l : List Nat) (c : Nat) (hv : v < 4294967296) (w : World) (hr : Reg w B v) (hl : Bys w A l) :
    Calls Try.prog 30 #[.pointer (some ⟨B, 0, none⟩), .slice A l.length c] w fun e w' => Moved B (unf v l) w e w' := by
  obtain ⟨hz0, hz1⟩ := zero_of_info zero_bytes
  have HI := Lib.hid (indices_ok B v w hr)
  have HR := Lib.hid hr
  have HL := Lib.hid hl
  have hm := hl.2.2
  unfold maxLen at hm
  have hBlt := hr.lt
  have hsz : idxArr.size = 256 := rowOf_size _ _
  have hst : ∀ W : World, (storeCells ⟨W.heap.size, 0, none⟩ idxArr.toList 0).run Try.prog (W.alloc (.cells (rowOf 256 (fun _ => V8 0)) 56)) = .ok () (W.alloc (.cells idxArr 56)) := fun W => by
    rw [run_store_whole (W.alloc (.cells (rowOf 256 (fun _ => V8 0)) 56)) W.heap.size 56 _ idxArr (heap_alloc_new W _) ((rowOf_size _ _).trans (rowOf_size _ _).symm) (rowOf_one fun _ _ => rfl), World.setRow_alloc_new]
  clear hr hl hz1
  go_enter Try.func30, Try.ntmps30
  go_wp2_with fail
  refine (HI.out).mono ?_
  rintro e w1 ⟨rfl, hb1⟩
  go_wp2_with fail
  have hT : Row (w1.alloc (.cells idxArr 56)) w1.heap.size 56 256 (fun h => V8 (idx h)) := Row.new w1 _ _ _
  have hbz : Below w.heap.size w (w1.alloc (.cells idxArr 56)) := hb1.alloc hb1.size _
  have hRz : Reg (w1.alloc (.cells idxArr 56)) B v := by
    unfold Reg Row
    rw [hbz.block B hBlt]
    exact HR.out
  have HST : Hid (Reg (w1.alloc (.cells idxArr 56)) B (unf v (l.drop l.length)) ∧ Row (w1.alloc (.cells idxArr 56)) w1.heap.size 56 256 (fun h => V8 (idx h)) ∧ Sole B w (w1.alloc (.cells idxArr 56))) := by
    rw [List.drop_length]
    exact Lib.hid ⟨hRz, hT, Sole.of_below (N := 0) hbz⟩
  have hTB : w1.heap.size ≠ B := by have := hb1.size; omega
  clear hT hbz hRz hst hz0
  go_loopw [5] (fun i wr => ∃ (k : Nat) (z : Int), k ≤ l.length ∧ i = .int .i64 z ∧ Hid (z = (k : Int) - 1) ∧ Hid (Reg wr B (unf v (l.drop k)) ∧ Row wr w1.heap.size 56 256 (fun h => V8 (idx h)) ∧ Sole B w wr)) (fun i _ => (intOf i + 1).toNat)
  case atStart => exact ⟨l.length, _, by omega, rfl, Lib.hid rfl, HST⟩
  case round =>
    obtain ⟨k, z, hk, rfl, hzk, hst⟩ := hrel
    clear HST
    by_cases h0 : 0 < k
    · obtain ⟨j, rfl⟩ : ∃ j : Nat, z = (j : Int) := ⟨k - 1, by rw [hzk.out]; omega⟩
      have hjk : k = j + 1 := by have := hzk.out; omega
      subst hjk
      have hj : j < l.length := by omega
      have hj0 : (0 : Int) ≤ (j : Int) := by omega
      have hjl : (j : Int) < l.length := by omega
      obtain ⟨hreg, hrow, hsole⟩ := hst.out
      have hbl : Bs l := HL.out.2.1
      obtain ⟨b, o, rfl, hb, hbB, hbc⟩ := bys_apart HR.out HL.out hj
      have hc4 : wr.cell? ⟨b, o + j, none⟩ = some (V8 (l.getD j 0)) := by
        rw [World.cell?_of_block (w := w) (hsole.block b hb hbB)]
        exact hbc
      have hx := hbl.get j
      have hrl := unf_lt hv (hbl.drop (j + 1))
      have hun := unf_step v l j hj
      generalize hrr : unf v (l.drop (j + 1)) = r at *
      generalize l.getD j 0 = x at *
      have hil := ix_lt hrl
      have htop := top_zero hrl
      have hc1 := reg_value hreg
      have hf1 : wr.frozen? ⟨B, 256, none⟩ = false := hreg.free 256
      have hc2 := hrow.cell (i := r / 16777216) (by omega)
      have hc3 := reg_table hreg hil
      have hEl := E_lt hil
      have hix : idx (r / 16777216) = ix r := rfl
      rw [hix] at hc2
      have e1 := xor32 r (E (ix r)) hrl hEl
      have e3 := xor8 (ix r) x hil hx
      have hxl := xor_lt8 hil hx
      have e4 : bits .or .u32 (((256 * (r ^^^ E (ix r)) : Nat)) : Int) ((ix r ^^^ x : Nat) : Int) = ((un r x : Nat) : Int) := by
        rw [u32_or_nat _ _ (by omega) (by omega), or_apart 8 _ _ hxl]
        rfl
      unfold V32 at hc1 hc3
      unfold V8 at hc2 hc4
      have HUN := Lib.hid hun
      have HREG := Lib.hid hst.out
      obtain ⟨rz, hrz⟩ : ∃ rz : Int, rz = (r : Int) := ⟨_, rfl⟩
      obtain ⟨q, hq⟩ : ∃ q : Int, q = ((r / 16777216 : Nat) : Int) := ⟨_, rfl⟩
      obtain ⟨jx, hjx⟩ : ∃ jx : Int, jx = ((ix r : Nat) : Int) := ⟨_, rfl⟩
      obtain ⟨t, ht⟩ : ∃ t : Int, t = ((E (ix r) : Nat) : Int) := ⟨_, rfl⟩
      obtain ⟨xz, hxz⟩ : ∃ xz : Int, xz = ((x : Nat) : Int) := ⟨_, rfl⟩
      obtain ⟨m1, hm1⟩ : ∃ m1 : Int, m1 = ((r ^^^ E (ix r) : Nat) : Int) := ⟨_, rfl⟩
      obtain ⟨m2, hm2⟩ : ∃ m2 : Int, m2 = ((256 * (r ^^^ E (ix r)) : Nat) : Int) := ⟨_, rfl⟩
      obtain ⟨n1, hn1⟩ : ∃ n1 : Int, n1 = ((ix r ^^^ x : Nat) : Int) := ⟨_, rfl⟩
      have hqn : r / 16777216 = q.toNat := by omega
      have hjn : ix r = jx.toNat := by omega
      rw [hqn] at hc2
      rw [hjn] at hc3
      rw [← hjn] at hc3
      rw [← hrz] at hc1
      rw [← hjx] at hc2
      rw [← ht] at hc3
      rw [← hxz] at hc4
      rw [← hrz, ← ht, ← hm1] at e1
      rw [← hjx, ← hxz, ← hn1] at e3
      rw [← hm2, ← hn1] at e4
      rw [hjn] at hc3
      have rz0 : 0 ≤ rz := by omega
      have rz1 : rz < 4294967296 := by omega
      have hq1 : rz / 16777216 = q := by omega
      have q0 : 0 ≤ q := by omega
      have q1 : q < 256 := by omega
      have j0 : 0 ≤ jx := by omega
      have j1 : jx < 256 := by omega
      have m0 : 0 ≤ m1 := by omega
      have m3 : m1 < 16777216 := by omega
      have n0 : 0 ≤ n1 := by omega
      have n2 : n1 < 256 := by omega
      have wA : IntKind.u32.wrap (m1 * 256) = m2 := by rw [IntKind.wrap_u32']; omega
      have wB : m1 * 256 % 4294967296 = m2 := by omega
      have wC : m1 * 256 = m2 := by omega
      have wD : IntKind.u32.wrap n1 = n1 := by rw [IntKind.wrap_u32']; omega
      clear hrr hx hrl hun hil htop hEl hix hxl hrz hq hjx ht hxz hm1 hm2 hn1 hqn hjn hreg hrow hsole hbl hbc hst
      go_wp2_with fail
      go_region
      all_goals go_wp2_with fail
      all_goals refine ⟨?_, by simp [intOf]⟩
      all_goals exact ⟨j, _, by omega, rfl, Lib.hid rfl, Lib.hid ⟨by rw [HUN.out]; exact reg_set HREG.out.1 (un r x), Row.setOther HREG.out.2.1 hTB _, Sole.drew (HREG.out.2.2.trans (Sole.setCell _ _ _ _))⟩⟩
    · have hk0 : k = 0 := by omega
      subst hk0
      have hz1 : z < 0 := by have := hzk.out; omega
      have hz2 : ¬ 0 ≤ z := by omega
      go_wp2_with fail
      go_end0
      exact ⟨rfl, hst.out.1, hst.out.2.2⟩

theorem undo_move : Move 30 unf where
  enters := enters_of Try.func30 (by kernel_rfl) rfl
  step := fun B v A l c w hv hr hl => undo_ok B v A l c hv w hr hl
  keeps := fun v l hv hl => unf_lt hv hl
end Go.Proofs.Ytideanaecmoimaa

/-
  Layer 2 (crc): the table. By the verifier.
-/
import Derived.Test.YtideanaecmoimaaCRow
import Derived.Deep.LoopGhost
import Derived.Outline
set_option linter.unusedVariables false
namespace Go.Proofs.Ytideanaecmoimaa
open Go.RowKit

/-- A register's number as a value. -/
def V32 (n : Nat) : Value := .int .u32 (n : Int)
def V8 (n : Nat) : Value := .int .u8 (n : Int)

def zeros (n : Nat) : Array Value := rowOf n (fun _ => V32 0)

theorem zero_table : (Try.prog.info? 26).map (fun i => (i.zero, i.size)) = some (some (.agg (zeros 256)), 256) := by kernel_rfl

/-- The table after k rounds of the outer loop, and up to j in the next one. -/
def tabN (k j i : Nat) : Nat := if i % (256 / 2 ^ k) = 0 ∨ (i % (128 / 2 ^ k) = 0 ∧ i < j) then E i else 0
def tabF (k j : Nat) (i : Nat) : Value := V32 (tabN k j i)
def tabArr : Array Value := rowOf 256 (fun i => V32 (E i))


theorem lt8 {k : Nat} (h : k < 8) : k = 0 ∨ k = 1 ∨ k = 2 ∨ k = 3 ∨ k = 4 ∨ k = 5 ∨ k = 6 ∨ k = 7 := by omega

theorem bit_pos {k : Nat} (h : k < 8) : 1 ≤ 128 / 2 ^ k ∧ 128 / 2 ^ k ≤ 128 ∧ 128 / 2 ^ (k + 1) = 128 / 2 ^ k / 2 := by
  rcases lt8 h with rfl | rfl | rfl | rfl | rfl | rfl | rfl | rfl <;> decide

theorem tab_sum : ∀ k, k < 8 → ∀ j, j < 256 → j % (2 * (128 / 2 ^ k)) = 128 / 2 ^ k → E (j - 128 / 2 ^ k) ^^^ stk (k + 1) 1 = E j := by decide +kernel

theorem tabN_load {k j : Nat} (hk : k < 8) (hj : j < 256) (hm : j % (2 * (128 / 2 ^ k)) = 128 / 2 ^ k) : tabN k j (j - 128 / 2 ^ k) = E (j - 128 / 2 ^ k) := by
  unfold tabN
  rw [if_pos]
  left
  rcases lt8 hk with rfl | rfl | rfl | rfl | rfl | rfl | rfl | rfl <;> simp at hm ⊢ <;> omega

theorem tabN_next {k j : Nat} (hk : k < 8) (hj : j < 256) (hm : j % (2 * (128 / 2 ^ k)) = 128 / 2 ^ k) (i : Nat) (hi : i < 256) :
    (if i = j then V32 (E j) else tabF k j i) = tabF k (j + 2 * (128 / 2 ^ k)) i := by
  unfold tabF tabN
  by_cases hij : i = j
  · subst hij
    rw [if_pos rfl, if_pos]
    right
    rcases lt8 hk with rfl | rfl | rfl | rfl | rfl | rfl | rfl | rfl <;> simp at hm ⊢ <;> omega
  · rw [if_neg hij]
    congr 2
    rw [eq_iff_iff]
    rcases lt8 hk with rfl | rfl | rfl | rfl | rfl | rfl | rfl | rfl <;> simp at hm ⊢ <;> omega

theorem tabN_end {k j : Nat} (hk : k < 8) (hj : 256 ≤ j) (i : Nat) (hi : i < 256) : tabF k j i = tabF (k + 1) 0 i := by
  unfold tabF tabN
  congr 2
  rw [eq_iff_iff]
  rcases lt8 hk with rfl | rfl | rfl | rfl | rfl | rfl | rfl | rfl <;> simp <;> omega

theorem tabN_first (i : Nat) (hi : i < 256) : V32 0 = tabF 0 0 i := by
  unfold tabF tabN
  by_cases h : i % 256 = 0
  · have : i = 0 := by omega
    subst this
    rfl
  · rw [if_neg (by simp; omega)]

theorem tabN_last (i : Nat) (hi : i < 256) : tabF 8 0 i = V32 (E i) := by
  unfold tabF tabN
  rw [if_pos]
  left
  show i % 1 = 0
  omega

theorem tabN_lt (k j i : Nat) (hi : i < 256) : tabN k j i < 4294967296 := by
  unfold tabN
  split
  · exact E_lt hi
  · omega

theorem tab_one : ∀ i, i < 256 → (V32 (E i)).oneCell' = true := fun _ _ => rfl

def TabIn (B : Nat) (k j : Nat) (wr : World) : Prop := Row wr (B + 1) 26 256 (tabF k j) ∧ Row wr B 26 256 (fun _ => V32 0)

theorem xor32 (a b : Nat) (ha : a < 4294967296) (hb : b < 4294967296) : bits .xor .u32 (a : Int) (b : Int) = ((a ^^^ b : Nat) : Int) := u32_xor_nat a b ha hb

set_option maxHeartbeats 1000000 in
set_option maxRecDepth 20000 in
theorem table_ok (w : World) :
    Calls Try.prog 10 #[] w fun e w' => e = .returned (.agg tabArr) ∧ Below w.heap.size w w' := by
  obtain ⟨hz0, hz1⟩ := zero_of_info zero_table
  have HZ1 := Lib.hid hz1
  have hT0 : Hid (TabIn w.heap.size 0 0 ((w.alloc (.cells (zeros 256) 26)).alloc (.cells (zeros 256) 26))) := by
    have h1 := Row.new (w.alloc (.cells (zeros 256) 26)) 26 256 (fun _ => V32 0)
    have e : (w.alloc (.cells (zeros 256) 26)).heap.size = w.heap.size + 1 := by simp
    rw [e] at h1
    exact Lib.hid ⟨h1.congr tabN_first, (Row.new w 26 256 (fun _ => V32 0)).alloc _⟩
  clear hz1
  go_enter Try.func10, Try.ntmps10
  go_wp2
  go_loopw [2, 3] (fun x b wr => ∃ k : Nat, k ≤ 8 ∧ x = V32 (stk k 1) ∧ b = .int .i64 ((128 / 2 ^ k : Nat) : Int) ∧ Hid (TabIn w.heap.size k 0 wr) ∧ Below w.heap.size w wr) (fun _ b _ => (intOf b).toNat)
  case atStart => exact ⟨0, by omega, rfl, rfl, hT0, ((Below.refl _ _).alloc (Nat.le_refl _) _).alloc (by simp) _⟩
  case round =>
    obtain ⟨k, hk, rfl, rfl, hrow, hbw⟩ := hrel
    clear hT0
    by_cases h8 : k < 8
    · obtain ⟨z, hz⟩ : ∃ z : Int, z = ((128 / 2 ^ k : Nat) : Int) := ⟨_, rfl⟩
      have hb := bit_pos h8
      rw [← hz]
      have z0 : 1 ≤ z := by omega
      have z1 : z ≤ 128 := by omega
      have hsh : stk k 1 < 4294967296 := stk_lt k (by omega)
      have HS := Lib.hid (shift_ok (stk k 1) · hsh)
      have HZ := Lib.hid hz
      have HB := Lib.hid hb
      clear hb hz hsh
      unfold V32
      obtain ⟨wo, rfl⟩ : ∃ wo : World, wo = wr := ⟨_, rfl⟩
      go_wp2_with fail
      refine (HS.out _).mono ?_
      rintro e w1 ⟨rfl, rfl⟩
      go_wp2_with fail
      go_loopw [4] (fun i wr => ∃ j : Nat, z ≤ (j : Int) ∧ j < 512 ∧ i = .int .i64 (j : Int) ∧ Hid (j % (2 * (128 / 2 ^ k)) = 128 / 2 ^ k) ∧ Hid (TabIn w.heap.size k j wr) ∧ Below w.heap.size w wr) (fun i _ => 512 - (intOf i).toNat)
      case atStart =>
        have hz := HZ.out
        have hb := HB.out
        refine ⟨128 / 2 ^ k, by omega, by omega, by rw [hz], Lib.hid (Nat.mod_eq_of_lt (by omega)), ?_, hbw⟩
        refine Lib.hid ⟨hrow.out.1.congr fun i hi => ?_, hrow.out.2⟩
        unfold tabF tabN
        congr 2
        rw [eq_iff_iff]
        have := hb.1
        constructor
        · rintro (h | h)
          · exact Or.inl h
          · omega
        · rintro (h | h)
          · exact Or.inl h
          · left
            rcases lt8 h8 with rfl | rfl | rfl | rfl | rfl | rfl | rfl | rfl <;> simp at h ⊢ <;> omega
      case round =>
        obtain ⟨j, hj0, hj1, rfl, hjm, hrow', hbw'⟩ := hrel
        by_cases hlt : j < 256
        · have hcl : (j : Int) < 256 := by omega
          have hz := HZ.out
          have hb := HB.out
          have hsub : ((j : Int) - z).toNat = j - 128 / 2 ^ k := by omega
          have hjz : 0 ≤ (j : Int) - z := by omega
          have hjz2 : (j : Int) - z < 256 := by omega
          have hcell : wr.cell? ⟨w.heap.size + 1, ((j : Int) - z).toNat, none⟩ = some (V32 (E (j - 128 / 2 ^ k))) := by
            rw [hsub, hrow'.out.1.cell (by omega)]
            unfold tabF
            rw [tabN_load h8 hlt hjm.out]
          have hcellj : wr.cell? ⟨w.heap.size + 1, j, none⟩ = some (tabF k j j) := hrow'.out.1.cell hlt
          have hfr := hrow'.out.1.free j
          have hx : bits .xor .u32 (E (j - 128 / 2 ^ k) : Int) (st (stk k 1) : Int) = (E j : Int) := by
            rw [xor32 _ _ (E_lt (by omega)) (st_lt (stk_lt k (by omega))), ← stk_succ, tab_sum k h8 j hlt hjm.out]
          unfold V32 at hcell
          clear hb hz hsub
          go_wp2_with fail
          go_roundw
          case rel =>
            have hz := HZ.out
            have hb := HB.out
            refine ⟨j + 2 * (128 / 2 ^ k), by omega, by omega, by go_num, Lib.hid ?_, Lib.hid ⟨?_, ?_⟩, ?_⟩
            · rw [Nat.add_mod_right]; exact hjm.out
            · exact ((hrow'.out.1.set hlt (V32 (E j))).congr fun i hi => tabN_next h8 hlt hjm.out i hi)
            · exact hrow'.out.2.setOther (by simp) _
            · exact hbw'.setCell (by simp) _
          case measure => simp [intOf]; omega
        · have hcl : ¬ (j : Int) < 256 := by omega
          go_wp2_with fail
          go_roundw
          case rel =>
            have hz := HZ.out
            have hb := HB.out
            exact ⟨k + 1, by omega, by rw [stk_succ], by rw [hb.2.2, hz]; rfl, Lib.hid ⟨hrow'.out.1.congr fun i hi => tabN_end h8 (by omega) i hi, hrow'.out.2⟩, hbw'⟩
          case measure => simp [intOf]; omega
    · have : k = 8 := by omega
      subst this
      have e8 : ((128 / 2 ^ 8 : Nat) : Int) = 0 := rfl
      rw [e8]
      generalize stk 8 1 = x8
      clear e8 h8 hk hz0
      have H1 : Hid (wr.heap[w.heap.size + 1]? = some (.cells tabArr 26 (0, 0))) := Lib.hid (hrow.out.1.congr tabN_last)
      have H0 : Hid (wr.heap[w.heap.size]? = some (.cells (zeros 256) 26 (0, 0))) := Lib.hid hrow.out.2
      have HI : Hid ((Try.prog.info? 26).map (·.size) = some tabArr.size) := Lib.hid (by unfold tabArr; rw [rowOf_size]; exact HZ1.out)
      clear hrow HZ1
      have hsz : tabArr.size = 256 := rowOf_size _ _
      have hst : (storeCells ⟨w.heap.size, 0, none⟩ tabArr.toList 0).run Try.prog wr = .ok () (wr.setRow w.heap.size tabArr) :=
        run_store_whole wr _ _ _ _ H0.out ((rowOf_size _ _).trans (rowOf_size _ _).symm) (rowOf_one tab_one)
      go_wp2_with (with_reducible refine wpList_load_row rfl _ _ rfl (w.heap.size + 1) rfl _ _ _ _ H1.out Try.underlying26 rfl HI.out ?_)
      refine bodyPost_ret (v := .agg tabArr) ?_ rfl ⟨rfl, below_setRow hbw (Nat.le_refl _) _⟩
      exact results_cell_row rfl _ _ w.heap.size _ tabArr _ _ rfl (setRow_heap wr _ _ _ _ _ H0.out) Try.underlying26 rfl HI.out
end Go.Proofs.Ytideanaecmoimaa

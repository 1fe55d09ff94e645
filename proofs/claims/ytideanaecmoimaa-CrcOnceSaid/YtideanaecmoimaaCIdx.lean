/-
  Layer 2 (crc): indices. By the verifier.
-/
import Derived.Test.YtideanaecmoimaaCSum
import Derived.Deep.MidRow
set_option linter.unusedVariables false
namespace Go.Proofs.Ytideanaecmoimaa
open Go.RowKit

def idxArr : Array Value := rowOf 256 (fun h => V8 (idx h))

theorem zero_bytes : (Try.prog.info? 56).map (fun i => (i.zero, i.size)) = some (some (.agg (rowOf 256 (fun _ => V8 0))), 256) := by kernel_rfl
theorem size_table : (Try.prog.info? 26).map (·.size) = some 256 := by kernel_rfl

theorem tabArr_get (k : Nat) (h : k < 256) : tabArr[k]? = some (V32 (E k)) := rowOf_get _ h

theorem run_index_tab (k : Nat) (h : k < 256) (w : World) : (Instr.index 26 (.agg tabArr) (.int .i64 (k : Int))).run Try.prog w = .ok (V32 (E k)) w := by
  have hu := @run_underlying Try.prog _ _ Try.underlying26 w
  have hs := Try.sizeOf25 w
  have hk := tabArr_get k h
  simp [Instr.index, Sem.run_bind, asIntOf, hu, hs, part, hk]
  omega

theorem rangeAt_reg {w : World} {B v : Nat} (h : Reg w B v) : w.rangeAt B 0 ((List.range 256).map fun i => V32 (E i)) := by
  intro j u hu
  have hj : j < 256 := by
    rcases Nat.lt_or_ge j 256 with h1 | h1
    · exact h1
    · rw [List.getElem?_eq_none (by simpa using h1)] at hu; cases hu
  rw [Nat.zero_add, reg_table h hj, ← hu]
  simp [hj]

def IdxIn (B : Nat) (k : Nat) (wr : World) : Prop := ∃ G : Nat → Nat, Row wr (B + 1) 56 256 (fun j => V8 (G j)) ∧ (∀ i, i < k → G (E i / 16777216) = i) ∧ Row wr B 56 256 (fun _ => V8 0)

theorem idx_inj {i j : Nat} (hi : i < 256) (hj : j < 256) (h : E i / 16777216 = E j / 16777216) : i = j := by
  rw [← idx_left i hi, ← idx_left j hj, h]

set_option maxHeartbeats 1000000 in
set_option maxRecDepth 20000 in
theorem indices_ok (B v : Nat) (w : World) (h : Reg w B v) :
    Calls Try.prog 32 #[.pointer (some ⟨B, 0, none⟩)] w fun e w' => e = .returned (.agg idxArr) ∧ Below w.heap.size w w' := by
  obtain ⟨hz0, hz1⟩ := zero_of_info zero_bytes
  have HZ1 := Lib.hid hz1
  have hBlt := h.lt
  have hs1 : (w.alloc (.cells (rowOf 256 (fun _ => V8 0)) 56)).heap.size = w.heap.size + 1 := by simp
  have HI0 : Hid (IdxIn w.heap.size 0 ((w.alloc (.cells (rowOf 256 (fun _ => V8 0)) 56)).alloc (.cells (rowOf 256 (fun _ => V8 0)) 56))) := by
    have h1 := Row.new (w.alloc (.cells (rowOf 256 (fun _ => V8 0)) 56)) 56 256 (fun _ => V8 0)
    rw [hs1] at h1
    exact Lib.hid ⟨fun _ => 0, h1, fun i hi => absurd hi (by omega), (Row.new w 56 256 (fun _ => V8 0)).alloc _⟩
  have HRA : Hid (((w.alloc (.cells (rowOf 256 (fun _ => V8 0)) 56)).alloc (.cells (rowOf 256 (fun _ => V8 0)) 56)).rangeAt B 0 ((List.range 256).map fun i => V32 (E i))) :=
    Lib.hid (rangeAt_reg (Row.alloc (Row.alloc h _) _))
  have hbz : Below w.heap.size w ((w.alloc (.cells (rowOf 256 (fun _ => V8 0)) 56)).alloc (.cells (rowOf 256 (fun _ => V8 0)) 56)) := ((Below.refl _ _).alloc (Nat.le_refl _) _).alloc (by simp) _
  have HS26 : Hid ((Try.prog.info? 26).map (·.size) = some ((List.range 256).map fun i => V32 (E i)).length) := Lib.hid (by rw [List.length_map, List.length_range]; exact size_table)
  have HTA : Hid (((List.range 256).map fun i => V32 (E i)).toArray = tabArr) := Lib.hid rfl
  obtain ⟨TL, hTL⟩ : ∃ TL, TL = (List.range 256).map fun i => V32 (E i) := ⟨_, rfl⟩
  rw [← hTL] at HRA HS26 HTA
  clear h hs1 hz1 hTL
  go_enter Try.func32, Try.ntmps32
  go_wp2_with (with_reducible refine wpList_load_mid rfl _ _ rfl B 0 rfl TL _ HRA.out Try.underlying26 rfl HS26.out ?_; rw [HTA.out])
  go_loopw [10] (fun i wr => ∃ k : Nat, k ≤ 256 ∧ i = .int .i64 (k : Int) ∧ Hid (IdxIn w.heap.size k wr) ∧ Below w.heap.size w wr) (fun i _ => 256 - (intOf i).toNat)
  case atStart => exact ⟨0, by omega, rfl, HI0, hbz⟩
  case round =>
    obtain ⟨k, hk, rfl, hin, hbw⟩ := hrel
    clear hz0 HRA HI0 hbz
    by_cases hlt : k < 256
    · have hkl : (k : Int) < 256 := by omega
      have hix := run_index_tab k hlt
      have hE := E_lt hlt
      have hq := (idx_right (E k / 16777216) (by omega))
      obtain ⟨G, hG, hGi, hR⟩ := hin.out
      have hq256 : E k / 16777216 < 256 := by omega
      have hcell := hG.cell hq256
      have hfree := hG.free (E k / 16777216)
      have HG := Lib.hid (And.intro hG (And.intro hGi hR))
      obtain ⟨t, ht⟩ : ∃ t : Int, t = (E k : Int) := ⟨_, rfl⟩
      obtain ⟨q, hqq⟩ : ∃ q : Int, q = ((E k / 16777216 : Nat) : Int) := ⟨_, rfl⟩
      have htq : t / 16777216 = q := by omega
      have hqn : E k / 16777216 = q.toNat := by omega
      have q0 : 0 ≤ q := by omega
      have q1 : q < 256 := by omega
      rw [hqn] at hcell hfree
      unfold V32 at hix
      unfold V8 at hcell
      rw [← ht] at hix
      have HQ := Lib.hid hqn
      have t0 : 0 ≤ t := by omega
      have t1 : t < 4294967296 := by omega
      clear hG hGi hR hq hq256 hE ht hqq hqn
      go_wp2_with fail
      go_roundw
      case rel =>
        obtain ⟨hG, hGi, hR⟩ := HG.out
        have hqn := HQ.out
        refine ⟨k + 1, by omega, by go_num, Lib.hid ⟨fun j => if j = E k / 16777216 then k else G j, ?_, ?_, hR.setOther (by simp) _⟩, hbw.setCell (by simp) _⟩
        · rw [← hqn]
          refine (hG.set (i := E k / 16777216) (by omega) _).congr fun j hj => ?_
          show (if j = E k / 16777216 then _ else V8 (G j)) = V8 (if j = E k / 16777216 then k else G j)
          by_cases hje : j = E k / 16777216
          · rw [if_pos hje, if_pos hje]; rfl
          · rw [if_neg hje, if_neg hje]
        · intro i hi
          by_cases hik : i = k
          · subst hik; exact if_pos rfl
          · exact (if_neg (fun he => hik (idx_inj (by omega) hlt he))).trans (hGi i (by omega))
      case measure => simp [intOf]; omega
    · have hk8 : k = 256 := by omega
      have hkl : ¬ (k : Int) < 256 := by omega
      obtain ⟨G, hG, hGi, hR⟩ := hin.out
      have hfin : Row wr (w.heap.size + 1) 56 256 (fun h => V8 (idx h)) := hG.congr fun h hh => by
        have h1 := idx_right h hh
        have h2 := hGi (idx h) (by omega)
        rw [h1.1] at h2
        rw [h2]
      have H1 : Hid (wr.heap[w.heap.size + 1]? = some (.cells idxArr 56 (0, 0))) := Lib.hid hfin
      have H0 : Hid (wr.heap[w.heap.size]? = some (.cells (rowOf 256 (fun _ => V8 0)) 56 (0, 0))) := Lib.hid hR
      have HI : Hid ((Try.prog.info? 56).map (·.size) = some idxArr.size) := Lib.hid (by unfold idxArr; rw [rowOf_size]; exact HZ1.out)
      have hsz : idxArr.size = 256 := rowOf_size _ _
      have hst : (storeCells ⟨w.heap.size, 0, none⟩ idxArr.toList 0).run Try.prog wr = .ok () (wr.setRow w.heap.size idxArr) :=
        run_store_whole wr _ _ _ _ H0.out ((rowOf_size _ _).trans (rowOf_size _ _).symm) (rowOf_one fun _ _ => rfl)
      clear hG hGi hR hfin hk8 hk hin HZ1 hlt
      go_wp2_with (with_reducible refine wpList_load_row rfl _ _ rfl (w.heap.size + 1) rfl _ _ _ _ H1.out Try.underlying56 rfl HI.out ?_)
      refine bodyPost_ret (v := .agg idxArr) ?_ rfl ⟨rfl, below_setRow hbw (Nat.le_refl _) _⟩
      exact results_cell_row rfl _ _ w.heap.size _ idxArr _ _ rfl (setRow_heap wr _ _ _ _ _ H0.out) Try.underlying56 rfl HI.out
end Go.Proofs.Ytideanaecmoimaa

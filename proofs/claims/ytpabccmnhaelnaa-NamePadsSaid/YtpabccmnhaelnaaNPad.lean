/-
  Layer 4: name.Pad. By the verifier.
-/
import Derived.Test.YtpabccmnhaelnaaNPlain
import Derived.Test.YtpabccmnhaelnaaNVal
import Derived.Lib.BufferWrite
import Derived.Deep.LoopGhost
set_option linter.unusedVariables false
namespace Go.Proofs.Ytpabccmnhaelnaa
open Go.RowKit

theorem strB_data (l : List Nat) : (strB l).data.toList = l.map UInt8.ofNat := by rw [← ByteArray.toList_eq, strB_list]

theorem pad_cells {l : List Nat} (hl : Bs l) (h30 : l.length ≤ 30) :
    ((arr30 []).toList.take 0 ++ Lib.byteCells (strB l).data.toList ++ (arr30 []).toList.drop (0 + (strB l).size)).toArray = arr30 l := by
  rw [strB_size, strB_data, List.take_zero, List.nil_append, Nat.zero_add]
  have e1 : Lib.byteCells (l.map UInt8.ofNat) = l.map V8 := by
    unfold Lib.byteCells
    rw [List.map_map]
    refine List.map_congr_left fun x hx => ?_
    have := hl x hx
    have e : ((UInt8.ofNat x).toNat : Int) = (x : Int) := by
      simp
      omega
    show Value.int .u8 ((UInt8.ofNat x).toNat : Int) = Value.int .u8 (x : Int)
    rw [e]
  rw [e1]
  apply Array.ext_getElem?
  intro j
  by_cases hj : j < 30
  · rw [show arr30 l = rowOf 30 (fun i => V8 (l.getD i 0)) from rfl, rowOf_get _ hj]
    rw [List.getElem?_toArray]
    by_cases hjl : j < l.length
    · rw [List.getElem?_append_left (by simpa using hjl)]
      simp [List.getD, hjl]
    · rw [List.getElem?_append_right (by simp; omega)]
      simp only [List.length_map, List.getElem?_drop]
      have e2 : l.length + (j - l.length) = j := by omega
      rw [e2, arr30_nil]
      have := rowOf_get (n := 30) (i := j) (fun _ => V8 0) hj
      rw [Array.getElem?_toList, this]
      simp [List.getD, List.getElem?_eq_none (show l.length ≤ j by omega)]
  · rw [Array.getElem?_eq_none (xs := arr30 l) (by rw [arr30_size]; omega), Array.getElem?_eq_none]
    have := arr30_size []
    simp
    omega

set_option maxHeartbeats 1000000 in
set_option maxRecDepth 20000 in
theorem pad_ok (s : ByteArray) (l : List Nat) (hs : Str s l) (hm : l.length ≤ maxLen) (w : World) :
    Calls Try.prog 16 #[.string s] w fun e w' => e = .returned (.agg (arr30 (padV l))) ∧ Below w.heap.size w w' := by
  obtain ⟨hz0, hz1⟩ := zero_of_info zero30
  have HV := Lib.hid (valid_ok s l hs hm)
  have hs1 : (w.alloc (.cells (arr30 []) 32)).heap.size = w.heap.size + 1 := by simp
  cases hv : nameB l with
  | false =>
    rw [hv] at HV
    have hr : padV l = [] := by unfold padV; rw [hv]; rfl
    rw [hr]
    obtain ⟨W2, hW2⟩ : ∃ W2, W2 = (w.alloc (.cells (arr30 []) 32)).alloc (.cells (arr30 []) 32) := ⟨_, rfl⟩
    have hh1 : W2.heap[w.heap.size + 1]? = some (.cells (arr30 []) 32 (0, 0)) := by
      rw [hW2, ← hs1]
      exact heap_alloc_new _ _
    have hh0 : W2.heap[w.heap.size]? = some (.cells (arr30 []) 32 (0, 0)) := by
      rw [hW2]
      exact (Row.new w 32 30 (fun _ => V8 0)).alloc _
    have hb2 : Below w.heap.size w W2 := by rw [hW2]; exact ((Below.refl _ _).alloc (Nat.le_refl _) _).alloc (by simp) _
    have H1 := Lib.hid hh1
    have H0 := Lib.hid hh0
    have HI : Hid ((Try.prog.info? 32).map (·.size) = some (arr30 []).size) := Lib.hid (by rw [arr30_size]; exact hz1)
    have hst := run_store_whole (P := Try.prog) W2 w.heap.size 32 (arr30 []) (arr30 []) hh0 rfl (arr30_one _)
    have HB2 := Lib.hid hb2
    clear hr hv hs hm hh1 hh0 hb2 hz1 hs1
    go_enter Try.func16, Try.ntmps16
    go_wp2_with fail
    rw [← hW2]
    clear hW2
    refine (HV.out _).mono ?_
    rintro e w1 ⟨rfl, rfl⟩
    go_wp2_with (with_reducible refine wpList_load_row rfl _ _ rfl (w.heap.size + 1) rfl _ _ _ _ H1.out Try.underlying32 rfl HI.out ?_)
    refine bodyPost_ret (v := .agg (arr30 [])) ?_ rfl ⟨rfl, below_setRow HB2.out (Nat.le_refl _) _⟩
    exact results_cell_row rfl _ _ w.heap.size _ (arr30 []) _ _ rfl (setRow_heap W2 _ _ _ _ _ H0.out) Try.underlying32 rfl HI.out
  | true =>
    rw [hv] at HV
    have hr : padV l = l := by unfold padV; rw [hv]; rfl
    rw [hr]
    have h30 := ((nameB_iff l).1 hv).2.1
    obtain ⟨W2, hW2⟩ : ∃ W2, W2 = (w.alloc (.cells (arr30 []) 32)).alloc (.cells (arr30 []) 32) := ⟨_, rfl⟩
    have hh1 : W2.heap[w.heap.size + 1]? = some (.cells (arr30 []) 32 (0, 0)) := by
      rw [hW2, ← hs1]
      exact heap_alloc_new _ _
    have hh0 : W2.heap[w.heap.size]? = some (.cells (arr30 []) 32 (0, 0)) := by
      rw [hW2]
      exact (Row.new w 32 30 (fun _ => V8 0)).alloc _
    have hb2 : Below w.heap.size w W2 := by rw [hW2]; exact ((Below.refl _ _).alloc (Nat.le_refl _) _).alloc (by simp) _
    obtain ⟨W3, hW3⟩ : ∃ W3, W3 = W2.setRow (w.heap.size + 1) (arr30 l) := ⟨_, rfl⟩
    have hcp : ∀ ty, (Builtin.copy_ #[36, 9] ty #[.slice (some ⟨w.heap.size + 1, 0, none⟩) 30 30, .string s]).run Try.prog W2 = .ok (goInt s.size) W3 := fun ty => by
      have h := Lib.run_copy_row_string (P := Try.prog) W2 36 9 ty 5 (w.heap.size + 1) 0 30 30 s (arr30 []) 32 Try.underlying36 size8 hh1 (by rw [hs.size]; exact h30) (by rw [hs.size, arr30_size]; omega)
      rw [h, hs.1, pad_cells hs.2 h30, hW3]
    have hh1' : W3.heap[w.heap.size + 1]? = some (.cells (arr30 l) 32 (0, 0)) := by rw [hW3]; exact setRow_heap W2 _ _ _ _ _ hh1
    have hh0' : W3.heap[w.heap.size]? = some (.cells (arr30 []) 32 (0, 0)) := by rw [hW3, setRow_other W2 _ _ _ (by omega)]; exact hh0
    have hb3 : Below w.heap.size w W3 := by rw [hW3]; exact below_setRow hb2 (by omega) _
    have H1 := Lib.hid hh1'
    have H0 := Lib.hid hh0'
    have HI : Hid ((Try.prog.info? 32).map (·.size) = some (arr30 l).size) := Lib.hid (by rw [arr30_size]; exact hz1)
    have hst := run_store_whole (P := Try.prog) W3 w.heap.size 32 (arr30 []) (arr30 l) hh0' (by rw [arr30_size, arr30_size]) (arr30_one _)
    have HB3 := Lib.hid hb3
    clear hr hv hs hm hh1 hh0 hb2 hz1 hs1 hh1' hh0' hb3 hW3 h30
    go_enter Try.func16, Try.ntmps16
    go_wp2_with fail
    rw [← hW2]
    clear hW2
    refine (HV.out _).mono ?_
    rintro e w1 ⟨rfl, rfl⟩
    go_wp2_with (with_reducible refine wpList_load_row rfl _ _ rfl (w.heap.size + 1) rfl _ _ _ _ H1.out Try.underlying32 rfl HI.out ?_)
    refine bodyPost_ret (v := .agg (arr30 l)) ?_ rfl ⟨rfl, below_setRow HB3.out (Nat.le_refl _) _⟩
    exact results_cell_row rfl _ _ w.heap.size _ (arr30 l) _ _ rfl (setRow_heap W3 _ _ _ _ _ H0.out) Try.underlying32 rfl HI.out

end Go.Proofs.Ytpabccmnhaelnaa

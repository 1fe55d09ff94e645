/-
  Layer 2 (crc): Seal and Sealed. By the verifier.
-/
import Derived.Test.YtideanaecmoimaaCCopy
set_option linter.unusedVariables false
namespace Go.Proofs.Ytideanaecmoimaa
open Go.RowKit

/-- A block that holds bytes. -/
def BRow (w : World) (B : Nat) (l : List Nat) : Prop := w.heap[B]? = some (.cells (l.map V8).toArray 5 (0, 0))

theorem bytes_row (l : List Nat) : (l.map V8).toArray = rowOf l.length (fun i => V8 (l.getD i 0)) := by
  apply Array.ext_getElem?
  intro j
  by_cases hj : j < l.length
  · rw [rowOf_get _ hj]
    simp [List.getD, hj]
  · rw [Array.getElem?_eq_none (xs := (l.map V8).toArray) (by simp; omega), Array.getElem?_eq_none (xs := rowOf _ _) (by rw [rowOf_size]; omega)]

theorem BRow.row {w : World} {B : Nat} {l : List Nat} (h : BRow w B l) : Row w B 5 l.length (fun i => V8 (l.getD i 0)) := by
  unfold BRow at h
  rw [bytes_row] at h
  exact h
theorem BRow.bys {w : World} {B : Nat} {l : List Nat} (h : BRow w B l) (hl : Bs l) (hm : l.length ≤ maxLen) : Bys w (some ⟨B, 0, none⟩) l :=
  ⟨fun i hi => ⟨B, 0, rfl, h.row.lt, by rw [Nat.zero_add]; exact h.row.cell hi⟩, hl, hm⟩
theorem BRow.below {w w' : World} {B : Nat} {l : List Nat} (h : BRow w B l) {N : Nat} (hB : B < N) (hb : Below N w w') : BRow w' B l := by
  unfold BRow
  rw [hb.block B hB]
  exact h

theorem info8 : (Try.prog.info? 5).map (fun i => (i.zero, i.size, i.bytes)) = some (some (V8 0), 1, 1) := by kernel_rfl
theorem size8 : (Try.prog.info? 5).map (·.size) = some 1 := by kernel_rfl

/-- make([]byte, n) -/
theorem wpList_make8 (w : World) {ops : Array Oper} {rest : List Oper} {o : Oper} {a : Act} {Q : Exit → Act → World → Prop}
    (hg : o.guard = none) (l c : Operand) (hop : o.op = Op.makeSlice 24 l c)
    (L C : Int) (n : Nat) (hl : a.eval l = .int .i64 L) (hc : a.eval c = .int .i64 C) (hL : L = (n : Int)) (hC : C = (n : Int)) (hn : n ≤ 281474976710656)
    (hK : ∀ w', BRow w' w.heap.size (List.replicate n 0) → Below w.heap.size w w' → w'.heap.size = w.heap.size + 1 → wpList Try.prog ops Q rest (a.put o.dst (.slice (some ⟨w.heap.size, 0, none⟩) n n)) w') :
    wpList Try.prog ops Q (o :: rest) a w := by
  obtain ⟨i, h2, h3, h4, h5⟩ := info_parts info8
  refine wpList_plain hg fun K hK' => ?_
  have hrun := run_make (P := Try.prog) w 24 5 i (V8 0) Try.underlying24 h2 h3 .i64 .i64 (n : Int) (n : Int) (by omega) (by omega) (by rw [h5]; omega) (by omega)
  subst hL
  subst hC
  unfold Oper.wp
  simp [execOp, hop, hl, hc, hrun, Result.andThen]
  have e : madeCells (V8 0).cells (n * i.size) = ((List.replicate n 0).map V8).toArray := by
    rw [h4, Nat.mul_one]
    apply Array.ext_getElem?
    intro j
    by_cases hj : j < n
    · simp [madeCells, V8, Value.cells, hj, Nat.mod_one]
    · rw [Array.getElem?_eq_none (by rw [size_madeCells]; omega), Array.getElem?_eq_none (by simp; omega)]
  rw [e]
  exact hK' _ _ (hK _ (heap_alloc_new w _) ((Below.refl _ _).alloc (Nat.le_refl _) _) (by simp))

/-- New bytes are handed back. -/
def NewB (w : World) (l : List Nat) (e : Ending) (w' : World) : Prop := ∃ B, e = .returned (.slice (some ⟨B, 0, none⟩) l.length l.length) ∧ BRow w' B l ∧ w.heap.size ≤ B ∧ Below w.heap.size w w'

theorem sum1_ok (w : World) (A : Option Addr) (l : List Nat) (c : Nat) (hl : Bys w A l) :
    Calls Try.prog 11 #[.slice (some ⟨w.heap.size, 0, none⟩) 1 1] (w.alloc (.cells #[.slice A l.length c] 24)) fun e w' => e = .returned (.int .u32 (crc l : Nat)) ∧ Below w.heap.size w w' := by
  have h0 : Below w.heap.size w (w.alloc (.cells #[.slice A l.length c] 24)) := (Below.refl _ _).alloc (Nat.le_refl _) _
  have hsz : (w.alloc (.cells #[.slice A l.length c] 24)).heap.size = w.heap.size + 1 := by simp
  have := sum_parts (some ⟨w.heap.size, 0, none⟩) [l] 1 (w.alloc (.cells #[.slice A l.length c] 24)) (fun W hW => ⟨fun i hi => ?_, by unfold maxLen; simp⟩) (by simpa using hl.2.1)
  · refine this.mono fun e w' ⟨he, hb⟩ => ⟨by simpa using he, h0.trans (hb.mono (by rw [hsz]; omega))⟩
  · have hi0 : i = 0 := by simpa using hi
    subst hi0
    refine ⟨w.heap.size, 0, A, c, rfl, ?_, (hl.below (Nat.le_refl _) h0).below (Nat.le_refl _) hW⟩
    rw [hW.cell (p := ⟨w.heap.size, 0 + 0, none⟩) (by rw [hsz]; exact Nat.lt_succ_self _)]
    rw [cell_of_row _ _ _ _ _ _ (heap_alloc_new w _)]
    rfl

theorem leArr_ints (n : Nat) : ∃ a b c d : Int, leArr n = #[.int .u8 a, .int .u8 b, .int .u8 c, .int .u8 d] ∧ [Value.int .u8 a, .int .u8 b, .int .u8 c, .int .u8 d] = (le n).map V8 :=
  ⟨_, _, _, _, rfl, rfl⟩

theorem splice_seal {Z X Y : List Value} (h : Z.length = X.length + Y.length) : splice (splice Z 0 X) X.length Y = X ++ Y := by
  unfold splice
  simp only [List.take_zero, List.nil_append, Nat.zero_add]
  rw [List.take_append_of_le_length (Nat.le_refl _), List.take_length]
  congr 1
  rw [List.drop_eq_nil_of_le (by simp; omega), List.append_nil]

set_option maxHeartbeats 1000000 in
theorem seal_ok (A : Option Addr) (l : List Nat) (c : Nat) (w : World) (hl : Bys w A l) (hn : l.length ≤ 100000) :
    Calls Try.prog 15 #[.slice A l.length c] w fun e w' => NewB w (l ++ le (crc l)) e w' := by
  have HL := Lib.hid hl
  clear hl
  go_enter Try.func15, Try.ntmps15
  go_wp2_with (refine wpList_make8 _ rfl _ _ rfl _ _ (l.length + 4) rfl rfl (by omega) (by omega) (by omega) ?_; intro w1 hr1 hb1 hz1; have HR1 := Lib.hid hr1; have HZ1 := Lib.hid hz1; clear hr1 hz1)
  refine (sum1_ok w1 A l c (HL.out.below (Nat.le_refl _) hb1)).mono ?_
  rintro e w2 ⟨rfl, hb2⟩
  go_wp2_with fail
  refine (bytesOf_ok _ _).mono ?_
  rintro e w3 ⟨rfl, hb3⟩
  obtain ⟨b0, b1, b2, b3, hle, hlv⟩ := leArr_ints (crc l)
  rw [hle]
  have HLV := Lib.hid hlv
  clear hle hlv
  have HR3 : Hid (BRow w3 w.heap.size (List.replicate (l.length + 4) 0)) := Lib.hid ((HR1.out.below (by rw [HZ1.out]; omega) hb2).below (by have := hb2.size; rw [HZ1.out] at this; omega) hb3)
  have hB3 : Below w.heap.size w w3 := (hb1.trans (hb2.mono hb1.size)).trans (hb3.mono (by have := hb2.size; have := hb1.size; omega))
  have hz3 : w.heap.size < w3.heap.size := HR3.out.row.lt
  clear hb1 hb2 hb3 HZ1 HR1
  obtain ⟨X, hX⟩ : ∃ X, X = l.map V8 := ⟨_, rfl⟩
  obtain ⟨Z, hZ⟩ : ∃ Z, Z = (List.replicate (l.length + 4) 0).map V8 := ⟨_, rfl⟩
  have hXl : X.length = l.length := by rw [hX, List.length_map]
  have hZl : Z.length = l.length + 4 := by rw [hZ, List.length_map, List.length_replicate]
  have HA : Hid (CopyAsk (w3.alloc (.cells #[.int .u8 b0, .int .u8 b1, .int .u8 b2, .int .u8 b3] 49)) (some ⟨w.heap.size, 0, none⟩) A (l.length + 4) l.length w.heap.size 0 Z 5 X) := by
    refine Lib.hid ⟨?_, ?_, ?_, ?_, ?_⟩
    · rw [hZ, Below.heap_alloc _ _ _ hz3]; exact HR3.out
    · rw [hXl]; exact (Nat.min_eq_left (by omega)).symm
    · intro h0
      refine ⟨rfl, ?_⟩
      rw [hX]
      exact ((HL.out.below (Nat.le_refl _) hB3).below (Nat.le_refl _) ((Below.refl _ _).alloc (Nat.le_refl _) _)).cells (by omega)
    · omega
    · rw [hX]; exact bytes_one l
  have HX := Lib.hid hX
  have HXl := Lib.hid hXl
  have HZl := Lib.hid hZl
  clear hX hXl hZ hZl
  go_wp2_with (with_reducible refine wpList_copy_sole rfl (.tmp 13) (.tmp 14) 24 24 rfl 5 Try.underlying24 size8 (some ⟨w.heap.size, 0, none⟩) A (l.length + 4) (l.length + 4) l.length c rfl rfl w.heap.size 0 Z 5 X HA.out ?_; intro w4 hout; have HO := Lib.hid hout; clear hout)
  obtain ⟨Y, hY⟩ : ∃ Y, Y = [Value.int .u8 b0, .int .u8 b1, .int .u8 b2, .int .u8 b3] := ⟨_, rfl⟩
  have hYl : Y.length = 4 := by rw [hY]; rfl
  have HA2 : Hid (CopyAsk w4.drew (some ⟨w.heap.size, l.length, none⟩) (some ⟨w3.heap.size, 0, none⟩) 4 4 w.heap.size l.length (splice Z 0 X) 5 Y) := by
    have hcells : ∀ (j : Nat) v, Y[j]? = some v → w4.drew.cell? ((⟨w3.heap.size, 0, none⟩ : Addr).add j) = some v := by
      intro j v hv
      have hadd : (⟨w3.heap.size, 0, none⟩ : Addr).add j = ⟨w3.heap.size, j, none⟩ := by unfold Addr.add; split <;> simp_all
      have hb : w4.drew.heap[w3.heap.size]? = some (.cells #[.int .u8 b0, .int .u8 b1, .int .u8 b2, .int .u8 b3] 49 (0, 0)) := by
        rw [show w4.drew.heap = w4.heap from rfl, HO.out.2.1.block _ (by simp) (by omega)]
        exact heap_alloc_new w3 _
      rw [hadd, cell_of_row _ _ _ _ _ _ hb, ← hv, hY]
      simp
    refine Lib.hid ⟨HO.out.1, by rw [hYl]; rfl, fun _ => ⟨rfl, _, rfl, hcells⟩, ?_, ?_⟩
    · rw [length_splice _ _ _ (by rw [HXl.out, HZl.out]; omega), hYl, HZl.out]; omega
    · rw [hY, HLV.out]; exact bytes_one _
  have HY := Lib.hid hY
  have HYl := Lib.hid hYl
  clear hY hYl
  have hle4 : (l.length : Int) ≤ (l.length : Int) + 4 := by omega
  go_region_law (refine step_copy_sole rfl (.tmp 19) (.tmp 20) 24 24 rfl 5 Try.underlying24 size8 (some ⟨w.heap.size, l.length, none⟩) (some ⟨w3.heap.size, 0, none⟩) 4 4 4 4 rfl rfl w.heap.size l.length (splice Z 0 X) 5 Y HA2.out ?_; intro w5 hout; have HO2 := Lib.hid hout; clear hout)
  have hres : splice (splice Z 0 X) l.length Y = (l ++ le (crc l)).map V8 := by
    have hx := HXl.out
    rw [← hx, splice_seal (by rw [HZl.out, HYl.out, hx]), HY.out, HLV.out, HX.out, List.map_append]
  have hlen : (l ++ le (crc l)).length = l.length + 4 := by rw [List.length_append, le_len]
  have he : Ending.returned (.slice (some ⟨w.heap.size, 0, none⟩) (l.length + 4) (l.length + 4)) = .returned (.slice (some ⟨w.heap.size, 0, none⟩) (l ++ le (crc l)).length (l ++ le (crc l)).length) := by rw [hlen]
  have HRES := Lib.hid hres
  have HE := Lib.hid he
  clear hres hlen he
  go_wp2_with fail
  go_ret
  refine ⟨w.heap.size, HE.out, ?_, Nat.le_refl _, ?_⟩
  · unfold BRow
    rw [← HRES.out]
    exact HO2.out.1
  · have s1 := HO.out.2.1
    have s2 := HO2.out.2.1
    have b1 : Below w.heap.size w (w3.alloc (.cells #[.int .u8 b0, .int .u8 b1, .int .u8 b2, .int .u8 b3] 49)) := hB3.alloc (by omega) _
    have b2 := b1.trans (s1.below (Nat.le_refl _) b1.size)
    exact b2.drew.trans (s2.below (Nat.le_refl _) b2.size)
end Go.Proofs.Ytideanaecmoimaa

/-
  The law CrcSums returns true: Sum returns the checksum of all parts' bytes in order, and each element of the table is the reference's. For every input: no condition. By the verifier.
-/
import Derived.Test.YtideanaecmoimaaCLaw
import Derived.Test.YtideanaecmoimaaRows
import Derived.Deep.Matrix
import Derived.Deep.WholeRow
import Derived.Deep.RegionHeld3
import Derived.Outline
set_option linter.unusedVariables false
namespace Go.Proofs.Ytideanaecmoimaa.LawSums
open Go.RowKit Go.ChangeShapes Go.WideShapes Go.ChangeAt

theorem Pts.below {w w' : World} {A : Option Addr} {ps : List (List Nat)} (h : Pts w A ps) (hb : Below w.heap.size w w') : Pts w' A ps := by
  refine ⟨fun i hi => ?_, h.2⟩
  obtain ⟨b, o, Ai, ci, hA, hc, hy⟩ := h.1 i hi
  refine ⟨b, o, Ai, ci, hA, ?_, hy.below (Nat.le_refl _) hb⟩
  rw [hb.cell (p := ⟨b, o + i, none⟩) (block_lt_of_cell hc)]
  exact hc

section
variable {H : Type} {enc : TypeId × Value → H} {P : Program}
/-- Parts that came in. -/
theorem open_parts {t e q : TypeId} {W : World} {v : Value} {d : DataW H} {p : List MemPlace} (ht : P.underlying t = some (.slice e)) (he : P.underlying e = some (.slice q)) (hq : P.underlying q = some (.int .u8)) (ce : P.cellsOf e = 1) (cq : P.cellsOf q = 1)
    (hv : Value.okWide P W .any 0 t v) (h : DataW.Trod enc P W 0 (fun _ => true) true t v d p) : ∃ (A : Option Addr) (ps : List (List Nat)) (c : Nat), v = .slice A ps.length c ∧ Pts W A ps := by
  obtain ⟨a0, len, cap, rfl⟩ := okWide_slice ht hv
  obtain ⟨fuel, hf⟩ := h
  rcases Deep.open_int_rows ht he hq ce cq hf with ⟨hcs, -⟩ | ⟨a, len', cap', A, L, C, Z, hcs, -, hl, hm, -, hr⟩
  · simp [Value.cells] at hcs
    obtain ⟨rfl, rfl, rfl⟩ := hcs
    exact ⟨none, [], 0, rfl, fun i hi => absurd hi (by simp), by simp⟩
  · simp [Value.cells] at hcs
    obtain ⟨rfl, rfl, rfl⟩ := hcs
    have hlen : ((List.range len).map fun r => ((Z r).take (L r)).map Int.toNat).length = len := by simp
    refine ⟨some a, (List.range len).map fun r => ((Z r).take (L r)).map Int.toNat, cap, by rw [hlen], fun i hi => ?_, by rw [hlen]; omega⟩
    rw [hlen] at hi
    obtain ⟨hc, h1, h2, h3, h4, h5, h6⟩ := hr i (by omega)
    obtain ⟨b, o, sp⟩ := a
    have hsp : sp = none := by
      have := (hr 0 (by omega)).1
      simpa [Addr.add] using World.cell?_spot this
    subst hsp
    rw [Lib.add_plain] at hc
    have hg : ((List.range len).map fun r => ((Z r).take (L r)).map Int.toNat).getD i [] = ((Z i).take (L i)).map Int.toNat := by simp [List.getD, hi]
    have hgl : (((Z i).take (L i)).map Int.toNat).length = L i := by rw [List.length_map, List.length_take]; omega
    have hwf : ∀ z ∈ Z i, 0 ≤ z ∧ z < 256 := fun z hz' => by
      have := h4 z hz'
      simp [Lit.wf, IntKind.min, IntKind.max, IntKind.signed, IntKind.bits] at this
      omega
    rw [hg]
    refine ⟨b, o, A i, C i, rfl, by rw [hgl]; exact hc, fun j hj => ?_, fun x hx => ?_, by rw [hgl]; omega⟩
    · rw [hgl] at hj
      cases hA : A i with
      | none => have := h5 hA; omega
      | some a' =>
        obtain ⟨-, h7⟩ := h6 a' hA
        obtain ⟨b', o', sp'⟩ := a'
        have hsp' : sp' = none := by
          have := h7 0 (by omega)
          simpa [Addr.add] using World.cell?_spot this
        subst hsp'
        have h8 := h7 j (by omega)
        rw [Lib.add_plain] at h8
        refine ⟨b', o', rfl, World.block_lt_of_cell? W _ h8, ?_⟩
        rw [h8]
        have hzj : j < (Z i).length := by omega
        have := hwf (Z i)[j] (List.getElem_mem hzj)
        simp [V8, List.getD, hj, hzj]
        omega
    · obtain ⟨y, hy, rfl⟩ := List.mem_map.1 hx
      have := hwf y (List.mem_of_mem_take hy)
      omega
end

theorem tabArr_at (k : Nat) (h : k < 256) : tabArr[k]? = some (V32 (E k)) := rowOf_get _ h

theorem flat_snoc (ps : List (List Nat)) (k : Nat) (h : k < ps.length) : (ps.take (k + 1)).flatten = (ps.take k).flatten ++ ps.getD k [] := by
  rw [List.take_succ_eq_append_getElem h, List.flatten_append]
  simp [List.getD, h]

theorem flat_len {ps : List (List Nat)} {k : Nat} (h : ∀ i, i < k → (ps.getD i []).length ≤ 300) (hk : k ≤ ps.length) : (ps.take k).flatten.length ≤ 300 * k := by
  induction k with
  | zero => simp
  | succ k ih =>
    rw [flat_snoc ps k (by omega), List.length_append]
    have := ih (fun i hi => h i (by omega)) (by omega)
    have := h k (by omega)
    omega

theorem flat_bs {w : World} {A : Option Addr} {ps : List (List Nat)} (h : Pts w A ps) {k : Nat} (hk : k ≤ ps.length) : Bs (ps.take k).flatten := by
  induction k with
  | zero => intro x hx; simp at hx
  | succ k ih =>
    rw [flat_snoc ps k (by omega)]
    obtain ⟨b, o, Ai, ci, -, -, hy⟩ := h.1 k (by omega)
    exact (ih (by omega)).append hy.2.1

set_option maxHeartbeats 2000000 in
theorem walk (A : Option Addr) (ps : List (List Nat)) (c i : Nat) (hi : i < 256) (w : World) (hp : Pts w A ps) :
    Calls Try.prog 3 #[.slice A ps.length c, .int .u8 (i : Int)] w fun e w' => e = .returned (.bool true) ∧ Below w.heap.size w w' := by
  by_cases h60 : 60 < ps.length
  · have hq : (60 : Int) < (ps.length : Int) := by omega
    go_enter Try.func3, Try.ntmps3
    go_wp2_with fail
    refine (alive_ok _).mono ?_
    rintro e w1 ⟨rfl, hb1⟩
    go_wp2_with fail
    go_ret
    exact ⟨rfl, hb1⟩
  · have hq : ¬ (60 : Int) < (ps.length : Int) := by omega
    have HP := Lib.hid hp
    have hm := hp.2
    unfold maxLen at hm
    clear hp
    go_enter Try.func3, Try.ntmps3
    go_wp2_with fail
    go_loopw [5, 15] (fun v j wr => ∃ k : Nat, k ≤ ps.length ∧ j = .int .i64 (k : Int) ∧ Hid (OwnB wr w.heap.size v (ps.take k).flatten ∧ (∀ q, q < k → (ps.getD q []).length ≤ 300)) ∧ Below w.heap.size w wr) (fun _ j _ => ps.length - (intOf j).toNat)
    case atStart => exact ⟨0, by omega, rfl, Lib.hid ⟨own_empty w _, fun q hq => absurd hq (by omega)⟩, Below.refl _ _⟩
    case round =>
      obtain ⟨k, hk, rfl, hst, hbw⟩ := hrel
      by_cases hlt : k < ps.length
      · obtain ⟨b, o, Ai, ci, rfl, hcell, hby⟩ := (Pts.below HP.out hbw).1 k hlt
        have hkl : (k : Int) < ps.length := by omega
        have hfl := flat_snoc ps k hlt
        obtain ⟨p, hpp⟩ : ∃ p, p = ps.getD k [] := ⟨_, rfl⟩
        rw [← hpp] at hcell hby hfl
        have HPP := Lib.hid hpp
        have HFL := Lib.hid hfl
        have HBY := Lib.hid hby
        have hpm := hby.2.2
        unfold maxLen at hpm
        clear hpp hfl hby
        by_cases h300 : 300 < p.length
        · have hq3 : (300 : Int) < (p.length : Int) := by omega
          go_wp2_with fail
          refine (alive_ok _).mono ?_
          rintro e w1 ⟨rfl, hb1⟩
          go_wp2_with fail
          go_ret
          exact ⟨rfl, hbw.trans (hb1.mono hbw.size)⟩
        · have hq3 : ¬ (300 : Int) < (p.length : Int) := by omega
          have HLL := Lib.hid (flat_len hst.out.2 hk)
          go_wp2_with (refine wpList_append8 (by rfl) (.tmp 23) (.tmp 24) (by rfl) w.heap.size _ (ps.take k).flatten (by rfl) hst.out.1 Ai p p.length ci rfl (by rfl) HBY.out (by have := HLL.out; omega) hbw.size ?_; intro v1 w1 ho1 hg1; have hb1 := grown_below hbw hst.out.1 hg1 hbw.size; rw [← HFL.out] at ho1; have HO1 := Lib.hid ho1; clear ho1 hg1)
          go_roundw
          case rel => exact ⟨k + 1, by omega, by go_num, Lib.hid ⟨HO1.out, fun q hq => by
            by_cases hqk : q = k
            · subst hqk; rw [← HPP.out]; omega
            · exact hst.out.2 q (by omega)⟩, hb1⟩
          case measure => simp [intOf]; omega
      · have hkk : k = ps.length := by omega
        have hkl : ¬ (k : Int) < ps.length := by omega
        obtain ⟨ho, h3⟩ := hst.out
        have hfl := flat_len h3 hk
        have hfb := flat_bs HP.out hk
        rw [hkk, List.take_length] at ho hfl hfb
        obtain ⟨A3, c3, rfl, hy3, -, -⟩ := ho.shape hfb (by unfold maxLen; omega)
        obtain ⟨cr, hcr⟩ : ∃ cr : Int, cr = (crc ps.flatten : Int) := ⟨_, rfl⟩
        obtain ⟨t, ht⟩ : ∃ t : Int, t = (E i : Int) := ⟨_, rfl⟩
        have HSUM : Hid (∀ W, Below w.heap.size w W → Calls Try.prog 11 #[.slice A ps.length c] W (fun e w' => e = .returned (.int .u32 cr) ∧ Below W.heap.size W w')) :=
          Lib.hid fun W hW => by rw [hcr]; exact sum_parts A ps c W (fun X hX => Pts.below (Pts.below HP.out hW) (hX.mono (Nat.le_refl _))) hfb
        have HREF : Hid (∀ W, Below wr.heap.size wr W → Calls Try.prog 12 #[.slice A3 ps.flatten.length c3] W (fun e w' => e = .returned (.int .u32 cr) ∧ W = w')) :=
          Lib.hid fun W hW => by rw [hcr]; exact rsum_ok A3 ps.flatten c3 W (hy3.below (Nat.le_refl _) hW)
        have HEL : Hid (∀ W, Calls Try.prog 13 #[.int .i64 (i : Int)] W (fun e w' => e = .returned (.int .u32 t) ∧ W = w')) :=
          Lib.hid fun W => by rw [ht]; exact element_ok i hi W
        obtain ⟨hz0, hz1⟩ := zero_of_info zero_table
        have hsz : tabArr.size = 256 := rowOf_size _ _
        have hsto : ∀ W : World, (storeCells ⟨W.heap.size, 0, none⟩ tabArr.toList 0).run Try.prog (W.alloc (.cells (zeros 256) 26)) = .ok () (W.alloc (.cells tabArr 26)) := fun W => by
          rw [run_store_whole (W.alloc (.cells (zeros 256) 26)) W.heap.size 26 _ tabArr (heap_alloc_new W _) ((rowOf_size _ _).trans (rowOf_size _ _).symm) (rowOf_one tab_one), World.setRow_alloc_new]
        have HTE := Lib.hid ht
        have hi0 : (0 : Int) ≤ (i : Int) := by omega
        have hi1 : (i : Int) < 256 := by omega
        have hiw : IntKind.i64.wrap (i : Int) = (i : Int) := IntWalk.i64_in _ (by omega)
        generalize ps.flatten.length = n at *
        clear ho h3 hfl hfb hy3 hcr ht hz1 hst hkk hk
        go_wp2_with fail
        refine (table_ok _).mono ?_
        rintro e w2 ⟨rfl, hb2⟩
        have HC : Hid (∀ W, Below (w2.alloc (.cells tabArr 26)).heap.size (w2.alloc (.cells tabArr 26)) W → W.cell? ⟨w2.heap.size, i, none⟩ = some (.int .u32 t)) := by
          refine Lib.hid fun W hW => ?_
          rw [hW.cell (p := ⟨w2.heap.size, i, none⟩) (by simp), cell_of_row _ _ _ _ _ _ (heap_alloc_new w2 _), tabArr_at i hi, HTE.out]
          rfl
        have hx0 : Below wr.heap.size wr (w2.alloc (.cells tabArr 26)) := hb2.alloc hb2.size _
        have hdr : Below (w2.alloc (.cells tabArr 26)).heap.size (w2.alloc (.cells tabArr 26)) (w2.alloc (.cells tabArr 26)).drew := (Below.refl _ _).drew
        have hc0 := HC.out _ (Below.refl _ _)
        go_wp2_with fail
        go_region_held3 (fun W => W.cell? ⟨w2.heap.size, i, none⟩ = some (.int .u32 t))
          (first | go_keep | exact HC.out _ (by assumption))
          (first
            | (go_at_call 9; refine (alive_ok _).mono ?_; rintro e w3 ⟨rfl, hb3⟩; have hk3 := hdr.trans (hb3.mono (by simp)); have hr3 := hx0.trans (hk3.mono hx0.size); have hw3 := hbw.trans (hr3.mono hbw.size); clear hb3)
            | (go_at_call 11; refine (HSUM.out w3 hw3).mono ?_; rintro e w4 ⟨rfl, hb4⟩; have hk4 := hk3.trans (hb4.mono hk3.size); have hr4 := hr3.trans (hb4.mono hr3.size); have hw4 := hw3.trans (hb4.mono hw3.size); clear hb4)
            | (go_at_call 12; refine (HREF.out w4 hr4).mono ?_; rintro e w5 ⟨rfl, rfl⟩)
            | (go_at_call 13; refine (HEL.out _).mono ?_; rintro e w6 ⟨rfl, rfl⟩))
        all_goals go_wp2_with fail
        all_goals go_ret
        all_goals exact ⟨rfl, hw4⟩

theorem own : ownKnob Try.prog.godebug = none := by kernel_rfl

set_option maxRecDepth 100000 in
theorem lifted (os : Os) (started : os.Started) (H : Type) (enc : TypeId × Value → H) :
    ReturnsInHanded {} Try.checked os 3 .any (Rows.crcSumsSpec.pre6 enc Try.prog Try.f3 Rows.crcSumsRow.domain false) (Rows.crcSumsSpec.post enc Try.prog Try.f3 false true false false) := by
  refine returnsInHanded_of_change (C := Try.checked) own started (by kernel_rfl) Try.func3
    (ChangeSpec.witness6 (enc := enc) (C := Try.checked) false ⟨#[], #[.slice none 0 0, .int .u8 0], []⟩ 8 (by kernel_rfl) (by kernel_rfl) (by kernel_rfl) (by kernel_rfl)) ?_
  intro W base args ds gs before hval0 hW hcnd _
  have hval : ∀ (j : Nat) t v, Try.f3.params[j]? = some t → args[j]? = some v → Value.okWide Try.prog W .any base t v := hval0
  have hW' := hW
  obtain ⟨p, q, hA0, hV, rfl, hfz, hnd⟩ := hW
  have hA : DataW.TrodAll enc Try.prog W 0 (fun _ => true) true Try.f3.params.toList args.toList ds p := hA0
  rw [Try.params3] at hA hval
  obtain ⟨v0, vs0, d0, ds0, p0, q0, hargs, rfl, rfl, h0, r0⟩ := trodAll_cons hA
  obtain ⟨v1, vs1, d1, ds1, p1, q1, rfl, rfl, rfl, h1, r1⟩ := trodAll_cons r0
  obtain ⟨rfl, rfl, rfl⟩ := trodAll_nil r1
  obtain rfl : args = #[v0, v1] := by cases args; simp_all
  obtain ⟨rfl, rfl⟩ := trodVars_none hV
  obtain ⟨A0, l0, c0, rfl, hb0⟩ := open_parts Try.underlying22 Try.underlying24 Try.underlying5 (by kernel_rfl) (by kernel_rfl) (hval 0 22 v0 rfl rfl) h0
  obtain ⟨a1, rfl, rfl, rfl, w1⟩ := open_int Try.underlying5 (hval 1 5 v1 rfl rfl) h1
  obtain ⟨n1, rfl⟩ := Int.eq_ofNat_of_zero_le (show (0 : Int) ≤ a1 from by simp [Lit.wf, IntKind.min, IntKind.max, IntKind.signed, IntKind.bits] at w1; omega)
  clear hA0 hval0
  simp only [List.append_nil] at hW'
  refine (walk A0 l0 c0 n1 (by simp [Lit.wf, IntKind.min, IntKind.max, IntKind.signed, IntKind.bits] at w1; omega) W hb0).mono fun e W' ⟨he, hg⟩ => ?_
  subst he
  exact law_post (by kernel_rfl) rfl rfl (by kernel_rfl) (by kernel_rfl) Try.underlying4 hW' hg

/-- WHAT IS PROVED. -/
theorem proved : Rows.CrcSumsSaid :=
  OpenClaim.holds_of_wide 3 Try.f3 rfl rfl rfl rfl rfl rfl rfl ⟨rfl, rfl, rfl, rfl, rfl⟩ rfl rfl rfl rfl rfl (by kernel_rfl) Try.func3 (by kernel_rfl)
    (of_decide_eq_true (by kernel_rfl)) (by unfold Func.isWrapper; first | (rw [if_pos (by decide +kernel)]; kernel_rfl) | (rw [if_neg (by decide +kernel)]; exact ⟨rfl, rfl⟩))
    (fun os started H enc _ => lifted os started H enc)

end Go.Proofs.Ytideanaecmoimaa.LawSums

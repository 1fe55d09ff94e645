/-
  Layer 2 (crc): Forge where there are four bytes. By the verifier.
-/
import Derived.Test.YtideanaecmoimaaCCut
import Derived.Deep.DeepCutAuto
set_option linter.unusedVariables false
namespace Go.Proofs.Ytideanaecmoimaa
open Go.RowKit

theorem bfrozen {W w1 : World} (hb : Below W.heap.size W w1) : ∀ b o, b < W.heap.size → w1.frozen? ⟨b, o, none⟩ = W.frozen? ⟨b, o, none⟩ :=
  fun b o h => hb.frozen (p := ⟨b, o, none⟩) h

theorem fin_a {w wc w5 : World} {C : Array Value} (hb : Below wc.heap.size wc w5) (hB : Below w.heap.size w wc) :
    (w5.alloc (.cells C 49)).heap[w5.heap.size]? = some (.cells C 49 (0, 0)) ∧ w.heap.size ≤ w5.heap.size ∧ Below w.heap.size w (w5.alloc (.cells C 49)) := by
  have h1 := hB.trans (hb.mono hB.size)
  exact ⟨heap_alloc_new w5 _, h1.size, h1.alloc h1.size _⟩

theorem fin_b {w wc w5 : World} {a b c d x0 x1 x2 x3 : Value} (hb : Below (wc.alloc (.cells #[x0, x1, x2, x3] 49)).heap.size (wc.alloc (.cells #[x0, x1, x2, x3] 49)) w5) (hB : Below w.heap.size w wc) :
    ((((w5.setCell ⟨wc.heap.size, 0, none⟩ a).setCell ⟨wc.heap.size, 1, none⟩ b).setCell ⟨wc.heap.size, 2, none⟩ c).setCell ⟨wc.heap.size, 3, none⟩ d).heap[wc.heap.size]? = some (.cells #[a, b, c, d] 49 (0, 0)) ∧ w.heap.size ≤ wc.heap.size ∧
      Below w.heap.size w ((((w5.setCell ⟨wc.heap.size, 0, none⟩ a).setCell ⟨wc.heap.size, 1, none⟩ b).setCell ⟨wc.heap.size, 2, none⟩ c).setCell ⟨wc.heap.size, 3, none⟩ d) := by
  have h0 : w5.heap[wc.heap.size]? = some (.cells #[x0, x1, x2, x3] 49 (0, 0)) := by
    rw [hb.block _ (by simp)]
    exact heap_alloc_new wc _
  have h1 := heap_setCell_same w5 wc.heap.size 0 _ _ a h0
  have h2 := heap_setCell_same _ wc.heap.size 1 _ _ b h1
  have h3 := heap_setCell_same _ wc.heap.size 2 _ _ c h2
  have h4 := heap_setCell_same _ wc.heap.size 3 _ _ d h3
  have hz := hB.size
  have hb0 : Below w.heap.size w w5 := (hB.alloc hB.size _).trans (hb.mono (by simp; omega))
  exact ⟨h4, hz, (((hb0.setCell hz _).setCell hz _).setCell hz _).setCell hz _⟩

theorem fin_a' {w wc w5 : World} {C : Array Value} (hb : Below wc.drew.heap.size wc.drew w5) (hB : Below w.heap.size w wc) :
    (w5.alloc (.cells C 49)).heap[w5.heap.size]? = some (.cells C 49 (0, 0)) ∧ w.heap.size ≤ w5.heap.size ∧ Below w.heap.size w (w5.alloc (.cells C 49)) := fin_a (wc := wc.drew) hb hB.drew

theorem fin_b' {w wc w5 : World} {a b c d x0 x1 x2 x3 : Value} (hb : Below (wc.alloc (.cells #[x0, x1, x2, x3] 49)).drew.heap.size (wc.alloc (.cells #[x0, x1, x2, x3] 49)).drew w5) (hB : Below w.heap.size w wc) :
    ((((w5.setCell ⟨wc.heap.size, 0, none⟩ a).setCell ⟨wc.heap.size, 1, none⟩ b).setCell ⟨wc.heap.size, 2, none⟩ c).setCell ⟨wc.heap.size, 3, none⟩ d).heap[wc.heap.size]? = some (.cells #[a, b, c, d] 49 (0, 0)) ∧ w.heap.size ≤ wc.heap.size ∧
      Below w.heap.size w ((((w5.setCell ⟨wc.heap.size, 0, none⟩ a).setCell ⟨wc.heap.size, 1, none⟩ b).setCell ⟨wc.heap.size, 2, none⟩ c).setCell ⟨wc.heap.size, 3, none⟩ d) := fin_b (x0 := x0) (x1 := x1) (x2 := x2) (x3 := x3) ⟨hb.os, hb.tape, hb.output, hb.size, hb.block⟩ hB

theorem run_make4 (W : World) : (Instr.makeSlice 24 (.int .i64 4) (.int .i64 4)).run Try.prog W = .ok (.slice (some ⟨W.heap.size, 0, none⟩) 4 4) (W.alloc (.cells #[.int .u8 0, .int .u8 0, .int .u8 0, .int .u8 0] 5)) := by
  obtain ⟨i, h2, h3, h4, h5⟩ := info_parts info8
  have := run_make (P := Try.prog) W 24 5 i (V8 0) Try.underlying24 h2 h3 .i64 .i64 4 4 (by omega) (by omega) (by rw [h5]; omega) (by omega)
  rw [h4] at this
  have e : madeCells (V8 0).cells (Int.toNat 4 * 1) = #[Value.int .u8 0, .int .u8 0, .int .u8 0, .int .u8 0] := by kernel_rfl
  rw [e] at this
  exact this

set_option maxHeartbeats 1000000 in
theorem forge_yes (b o n c k : Nat) (p t s : List Nat) (sum : Nat) (hsum : sum < 4294967296) (w : World) (hl : Bys w (some ⟨b, o, none⟩) (p ++ (t ++ s))) (hp : p.length = k) (ht : t.length = 4) (hn : n = k + 4 + s.length) (hc : n ≤ c) (hn1 : n ≤ 100000) :
    Calls Try.prog 20 #[.slice (some ⟨b, o, none⟩) n c, .int .i64 (k : Int), .int .u32 (sum : Int)] w fun e w' => ∃ B, e = .returned (.tuple #[.slice (some ⟨B, 0, none⟩) n n, .bool true]) ∧ BRow w' B (p ++ (le (forged p s sum) ++ s)) ∧ Below w.heap.size w w' := by
  have hbp : Bs p := fun x hx => hl.2.1 x (List.mem_append_left _ hx)
  have hbs : Bs s := fun x hx => hl.2.1 x (List.mem_append_right _ (List.mem_append_right _ hx))
  have hbw : b < w.heap.size := by
    obtain ⟨b', o', he, hb', -⟩ := hl.1 0 (by simp only [List.length_append]; omega)
    injection he with he
    injection he with h1 h2
    subst h1
    exact hb'
  have hseg : ∀ W, Below w.heap.size w W → ∀ (q : Nat), q < n → W.cell? ⟨b, o + q, none⟩ = some (V8 ((p ++ (t ++ s)).getD q 0)) := fun W hW q hq => by
    obtain ⟨b', o', he, hb', hcq⟩ := (hl.below (Nat.le_refl _) hW).1 q (by simp only [List.length_append]; omega)
    injection he with he
    injection he with h1 h2
    subst h1 h2
    exact hcq
  have HP : Hid (∀ W, Below w.heap.size w W → Bys W (some ⟨b, o, none⟩) p) := Lib.hid fun W hW =>
    ⟨fun i hi => ⟨b, o, rfl, Nat.lt_of_lt_of_le hbw hW.size, by rw [hseg W hW i (by omega)]; simp [List.getD, List.getElem?_append_left hi]⟩, hbp, by unfold maxLen; omega⟩
  obtain ⟨AS, hAS⟩ : ∃ AS : Option Addr, AS = if c = k + 4 then some ⟨b, o, none⟩ else some ⟨b, o + (k + 4), none⟩ := ⟨_, rfl⟩
  have HSS : Hid (∀ W, Below w.heap.size w W → Bys W AS s) := Lib.hid fun W hW => by
    refine ⟨fun i hi => ?_, hbs, by unfold maxLen; omega⟩
    rw [if_neg (by omega)] at hAS
    refine ⟨b, o + (k + 4), hAS, Nat.lt_of_lt_of_le hbw hW.size, ?_⟩
    rw [Nat.add_assoc, hseg W hW (k + 4 + i) (by omega)]
    have e1 : (p ++ (t ++ s))[k + 4 + i]? = s[i]? := by
      rw [List.getElem?_append_right (by omega), List.getElem?_append_right (by omega)]
      congr 1
      omega
    simp only [List.getD, e1]
  have hASb : ∀ a, AS = some a → a.block = b := fun a ha => by
    rw [hAS] at ha
    split at ha <;> (injection ha with ha; subst ha; rfl)
  have hcut : ∀ W, (Instr.slice 24 (.slice (some ⟨b, o, none⟩) n c) (some (.int .i64 ((k : Int) + 4))) none none).run Try.prog W = .ok (.slice AS (n - (k + 4)) (c - (k + 4))) W := fun W => by
    rw [hAS]
    have := run_cut b o n c (k + 4) (by omega) W
    rw [Int.natCast_add] at this
    exact this
  have HX : Hid (Bys w (some ⟨b, o, none⟩) (p ++ (t ++ s))) := Lib.hid hl
  have hk4 : ((k : Int) + 4) ≤ (n : Int) := by omega
  have hkn : (k : Int) ≤ (n : Int) - 4 := by omega
  have hkc : (k : Int) ≤ (c : Int) := by omega
  have hk0 : (0 : Int) ≤ (k : Int) := by omega
  have hd1 : decide ((k : Int) < 0) = false := by rw [decide_eq_false_iff_not]; omega
  have hd2 : decide ((n : Int) - 4 < (k : Int)) = false := by rw [decide_eq_false_iff_not]; omega
  have hwk : IntKind.i64.wrap ((k : Int) + 4) = (k : Int) + 4 := IntWalk.i64_in _ (by omega)
  have hmk := run_make4
  have HASB := Lib.hid hASb
  have HN := Lib.hid (And.intro hp (And.intro ht hn))
  have hns : n - (k + 4) = s.length := by omega
  have HNS := Lib.hid hns
  have HB := Lib.hid (And.intro hbp hbs)
  clear hl hAS hseg hASb hp ht hn hns hbp hbs
  go_enter Try.func20, Try.ntmps20
  go_wp2_with fail
  refine (opened_ok _).mono ?_
  rintro e w1 ⟨B1, rfl, hr1, hB1, hb1⟩
  have HR1 := Lib.hid hr1
  have hlt1 := hr1.lt
  clear hr1
  go_wp2_with fail
  refine (closed_ok sum hsum _).mono ?_
  rintro e w2 ⟨B2, rfl, hr2, hB2, hb2⟩
  have HR2 := Lib.hid hr2
  have HR1' := Lib.hid (show Reg w2 B1 4294967295 from by
    have := HR1.out
    unfold Reg Row at this ⊢
    rw [hb2.block B1 hlt1]
    exact this)
  have hlt2 := hr2.lt
  have hB12 := hb1.trans (hb2.mono hb1.size)
  have hne12 : B2 ≠ B1 := by omega
  have HE1 : Hid (Calls Try.prog 23 #[.func (.func 24) #[.pointer (some ⟨B1, 0, none⟩)] #[], .slice (some ⟨w2.heap.size, 0, none⟩) 1 1] (w2.alloc (.cells #[.slice (some ⟨b, o, none⟩) k c] 24)) fun e w' =>
      e = .returned (.tuple #[]) ∧ Reg w' B1 (fo 4294967295 p) ∧ Sole B1 w2 w') := by
    have := each_take1 w2 B1 4294967295 (some ⟨b, o, none⟩) p c (by omega) HR1'.out (HP.out w2 hB12) (fun a ha => by injection ha with ha; subst ha; show b ≠ B1; omega)
    rw [HN.out.1] at this
    exact Lib.hid this
  clear hr2 hb1 hb2 HR1
  go_wp2_with fail
  refine HE1.out.mono ?_
  rintro e w3 ⟨rfl, hr3, hs3⟩
  have HQ3 := Lib.hid hr3
  have HR23 := Lib.hid (HR2.out.sole hs3 hne12)
  have hB13 : Below w.heap.size w w3 := hB12.trans (hs3.below hB1 hB12.size)
  have hlt23 : B2 < w3.heap.size := Nat.lt_of_lt_of_le hlt2 hs3.size
  have hlt13 : B1 < w3.heap.size := by omega
  have HE2 : Hid (Calls Try.prog 23 #[.func (.func 30) #[.pointer (some ⟨B2, 0, none⟩)] #[], .slice (some ⟨w3.heap.size + 1, 0, none⟩) 2 2]
      ((w3.drew.alloc (.cells #[.int .u8 0, .int .u8 0, .int .u8 0, .int .u8 0] 5)).alloc (.cells #[.slice AS (n - (k + 4)) (c - (k + 4)), .slice (some ⟨w3.heap.size, 0, none⟩) 4 4] 24)) fun e w' =>
      e = .returned (.tuple #[]) ∧ Reg w' B2 (unf (unf (4294967295 ^^^ sum) s) [0, 0, 0, 0]) ∧ Sole B2 w3 w') := by
    have h0 : Below w3.heap.size w3 (w3.drew.alloc (.cells #[.int .u8 0, .int .u8 0, .int .u8 0, .int .u8 0] 5)) := (Below.refl w3.heap.size w3).drew.alloc (Nat.le_refl _) _
    have hz : Bys (w3.drew.alloc (.cells #[.int .u8 0, .int .u8 0, .int .u8 0, .int .u8 0] 5)) (some ⟨w3.heap.size, 0, none⟩) [0, 0, 0, 0] :=
      BRow.bys (l := [0, 0, 0, 0]) (heap_alloc_new w3.drew _) zeros_bs (by unfold maxLen; simp)
    have := each_undo2 (w3.drew.alloc (.cells #[.int .u8 0, .int .u8 0, .int .u8 0, .int .u8 0] 5)) B2 (4294967295 ^^^ sum) AS s (n - (k + 4)) (c - (k + 4)) w3.heap.size HNS.out (xor_lt32 (by omega) hsum)
      (Row.alloc HR23.out _) (HSS.out _ (hB13.trans (h0.mono hB13.size))) (fun a ha => by have := HASB.out a ha; omega) hz (by omega)
    rw [show (w3.drew.alloc (.cells #[.int .u8 0, .int .u8 0, .int .u8 0, .int .u8 0] 5)).heap.size = w3.heap.size + 1 by simp] at this
    exact Lib.hid (this.mono fun e w' ⟨h1, h2, h3⟩ => ⟨h1, h2, (Sole.of_below (N := 0) h0).trans h3⟩)
  clear hr3 hs3 HE1 HR2 HR1' hB12
  have hv1 : fo 4294967295 p < 4294967296 := fo_lt (by omega) HB.out.1
  have hv2 : unf (unf (4294967295 ^^^ sum) s) [0, 0, 0, 0] < 4294967296 := unf_lt (unf_lt (xor_lt32 (by omega) hsum) HB.out.2) zeros_bs
  have hxf := xor32 _ _ hv1 hv2
  have hfg : fo 4294967295 p ^^^ unf (unf (4294967295 ^^^ sum) s) [0, 0, 0, 0] = forged p s sum := rfl
  rw [hfg] at hxf
  obtain ⟨b0, b1, b2, b3, hle, hlv⟩ := leArr_ints (forged p s sum)
  have HBO : Hid (∀ W, Calls Try.prog 28 #[.int .u32 (forged p s sum : Nat)] W fun e w' => e = .returned (.agg #[.int .u8 b0, .int .u8 b1, .int .u8 b2, .int .u8 b3]) ∧ Below W.heap.size W w') := Lib.hid fun W => by rw [← hle]; exact bytesOf_ok _ _
  have HLV := Lib.hid hlv
  clear hv1 hv2 hfg hle hlv
  go_upto_region 5 with fail
  go_cut [9] (fun s9 wx => s9 = .pointer (some ⟨B2, 0, none⟩) ∧ Hid (Reg wx B2 (unf (unf (4294967295 ^^^ sum) s) [0, 0, 0, 0]) ∧ Sole B2 w3 wx))
  case first =>
    go_region_with (go_at_call 23; refine HE2.out.mono ?_; rintro e w4 ⟨rfl, hr4, hs4⟩; have HR4 := Lib.hid hr4; have HS4 := Lib.hid hs4; clear hr4 hs4)
    all_goals (go_wp2_with fail; go_meet; exact ⟨rfl, Lib.hid ⟨HR4.out, HS4.out⟩⟩)
  case rest =>
    obtain ⟨rfl, hst⟩ := hcut
    obtain ⟨wa, rfl⟩ : ∃ wa, wa = wc := ⟨_, rfl⟩
    clear HE2 hmk
    obtain ⟨hr4, hs4⟩ := hst.out
    have hB14 : Below w.heap.size w wa := hB13.trans (hs4.below (by omega) hB13.size)
    have hc1 := reg_value (Reg.sole HQ3.out hs4 (by omega))
    have hc2 := reg_value hr4
    unfold V32 at hc1 hc2
    clear hr4 hs4
    go_upto_region 6 with fail
    have hl1 : B1 < wa.heap.size := by have := hst.out.2.size; omega
    have hl2 : B2 < wa.heap.size := by have := hst.out.2.size; omega
    go_cut [10] (fun s10 wx => ∃ g, s10 = .pointer (some ⟨g, 0, none⟩) ∧ Hid (wx.heap[g]? = some (.cells #[.int .u8 b0, .int .u8 b1, .int .u8 b2, .int .u8 b3] 49 (0, 0)) ∧ w.heap.size ≤ g ∧ Below w.heap.size w wx))
    case first =>
      go_region_with (go_at_call 28; refine (HBO.out _).mono ?_; rintro e w5 ⟨rfl, hb5⟩; have hcl5 := bcell hb5; have hfr5 := bfrozen hb5; have hsz5 := hb5.size)
      all_goals (go_wp2_with fail; go_meet)
      all_goals first | (refine ⟨w5.heap.size, rfl, ?_⟩; with_reducible exact Lib.hid (fin_a' hb5 hB14)) | (refine ⟨wa.heap.size, rfl, ?_⟩; with_reducible exact Lib.hid (fin_b' hb5 hB14))
    case rest =>
      obtain ⟨g, rfl, hg⟩ := hcut
      obtain ⟨wb, rfl⟩ : ∃ wb, wb = wc := ⟨_, rfl⟩
      have hgB := hg.out.2.2
      have hgl : g < wb.heap.size := by
        rcases Nat.lt_or_ge g wb.heap.size with h1 | h1
        · exact h1
        · have := hg.out.1
          rw [Array.getElem?_eq_none h1] at this; cases this
      obtain ⟨X, hX⟩ : ∃ X, X = (p ++ (t ++ s)).map V8 := ⟨_, rfl⟩
      obtain ⟨Z, hZ⟩ : ∃ Z, Z = (List.replicate n 0).map V8 := ⟨_, rfl⟩
      obtain ⟨Y, hY⟩ : ∃ Y, Y = [Value.int .u8 b0, .int .u8 b1, .int .u8 b2, .int .u8 b3] := ⟨_, rfl⟩
      have hXl : X.length = n := by rw [hX, List.length_map, List.length_append, List.length_append, HN.out.1, HN.out.2.1, HN.out.2.2]; omega
      have hZl : Z.length = n := by rw [hZ, List.length_map, List.length_replicate]
      have hYl : Y.length = 4 := by rw [hY]; rfl
      have HCA : Hid (∀ W, BRow W wb.heap.size (List.replicate n 0) → Below wb.heap.size wb W → CopyAsk W (some ⟨wb.heap.size, 0, none⟩) (some ⟨b, o, none⟩) n n wb.heap.size 0 Z 5 X) := by
        refine Lib.hid fun W hr hW => ⟨?_, ?_, ?_, ?_, ?_⟩
        · rw [hZ]; exact hr
        · rw [hXl]; exact (Nat.min_self n).symm
        · intro h0
          refine ⟨rfl, ?_⟩
          rw [hX]
          exact (HX.out.below (Nat.le_refl _) (hgB.trans (hW.mono hgB.size))).cells (by rw [hX, List.length_map] at h0; exact h0)
        · omega
        · rw [hX]; exact bytes_one _
      have HCB : Hid (∀ W W' W'' : World, Below wb.heap.size wb W → W.heap.size = wb.heap.size + 1 → CopyOut W W' wb.heap.size 0 Z 5 X → W''.heap = W'.heap → CopyAsk W'' (some ⟨wb.heap.size, k, none⟩) (some ⟨g, 0, none⟩) (n - k) 4 wb.heap.size k (splice Z 0 X) 5 Y) := by
        refine Lib.hid fun W W' W'' hW hWz hout hh => ⟨?_, ?_, ?_, ?_, ?_⟩
        · rw [hh]; exact hout.1
        · rw [hYl]; exact (Nat.min_eq_left (by have := HN.out.2.2; omega)).symm
        · intro _
          refine ⟨rfl, _, rfl, fun j v hv => ?_⟩
          have hadd : (⟨g, 0, none⟩ : Addr).add j = ⟨g, j, none⟩ := by unfold Addr.add; split <;> simp_all
          have hb : W''.heap[g]? = some (.cells #[.int .u8 b0, .int .u8 b1, .int .u8 b2, .int .u8 b3] 49 (0, 0)) := by
            rw [hh, hout.2.1.block g (by omega) (by omega), hW.block g hgl]
            exact hg.out.1
          rw [hadd, cell_of_row _ _ _ _ _ _ hb, ← hv, hY]
          simp
        · rw [length_splice _ _ _ (by rw [hXl, hZl]; omega), hYl, hZl]; have := HN.out.2.2; omega
        · rw [hY, HLV.out]; exact bytes_one _
      have hres : splice (splice Z 0 X) k Y = (p ++ (le (forged p s sum) ++ s)).map V8 := by
        have h1 : splice Z 0 X = X := by
          unfold splice
          rw [List.drop_eq_nil_of_le (by omega)]
          simp
        have hpm : (p.map V8).length = k := by rw [List.length_map]; exact HN.out.1
        have htm : (t.map V8).length = 4 := by rw [List.length_map]; exact HN.out.2.1
        rw [h1]
        unfold splice
        rw [hYl, hX, List.map_append, List.map_append, ← hpm, List.take_left, hpm, show k + 4 = (p.map V8).length + (t.map V8).length by rw [hpm, htm], ← List.drop_drop, List.drop_left, List.drop_left, hY, HLV.out, List.map_append, List.map_append]
      have HRES := Lib.hid hres
      have hkn2 : (k : Int) ≤ (n : Int) := by omega
      have hnk : (n = k) = False := by have := HN.out.2.2; simp; omega
      clear hst hc1 hc2 hl1 hl2 hB14 HBO hX hZ hY hXl hZl hYl hres hcut
      go_wp2_with (first
        | (refine wpList_make8 _ rfl _ _ rfl _ _ n rfl rfl (by omega) (by omega) (by omega) ?_; intro w6 hr6 hb6 hz6; have HCP := Lib.hid (HCA.out w6 hr6 hb6); have HB6 := Lib.hid hb6; have HZ6 := Lib.hid hz6; clear hr6 hz6 hb6)
        | (with_reducible refine wpList_copy_sole rfl (.tmp 53) (.tmp 54) 24 24 rfl 5 Try.underlying24 size8 (some ⟨wb.heap.size, 0, none⟩) (some ⟨b, o, none⟩) n n n c rfl rfl wb.heap.size 0 Z 5 X HCP.out ?_; intro w7 hout; have HO := Lib.hid hout; clear hout))
      have HCD : Hid (CopyAsk w7.drew (some ⟨wb.heap.size, k, none⟩) (some ⟨g, 0, none⟩) (n - k) 4 wb.heap.size k (splice Z 0 X) 5 Y) := Lib.hid (HCB.out w6 w7 w7.drew HB6.out HZ6.out HO.out rfl)
      go_region_law (refine step_copy_sole rfl (.tmp 58) (.tmp 59) 24 24 rfl 5 Try.underlying24 size8 (some ⟨wb.heap.size, k, none⟩) (some ⟨g, 0, none⟩) (n - k) (n - k) 4 4 rfl rfl wb.heap.size k (splice Z 0 X) 5 Y HCD.out ?_; intro w8 hout; have HO2 := Lib.hid hout; clear hout)
      all_goals go_wp2_with fail
      all_goals go_ret2
      all_goals
        refine ⟨wb.heap.size, rfl, ?_, ?_⟩
        · unfold BRow
          rw [← HRES.out]
          exact HO2.out.1
        · have h6 := hgB.trans (HB6.out.mono hgB.size)
          have h7 := h6.trans (HO.out.2.1.below hgB.size h6.size)
          exact h7.drew.trans (HO2.out.2.1.below hgB.size h7.size)

end Go.Proofs.Ytideanaecmoimaa

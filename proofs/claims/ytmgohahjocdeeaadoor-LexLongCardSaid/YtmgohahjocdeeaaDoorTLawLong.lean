/-
  The law LexLong returns true: a text with more bytes than the limit has no tokens, whatever it contains; spaces up to the limit have the token End alone. For every input: no condition. By the verifier.
-/
import Derived.Test.YtmgohahjocdeeaaDoorTAlv
import Derived.Test.YtmgohahjocdeeaaDoorTRNx
import Derived.Test.YtmgohahjocdeeaaDoorTLng
import Derived.Test.YtmgohahjocdeeaaDoorShelfJ
import Derived.Test.YtmgohahjocdeeaaDoorLaid
import Derived.Test.YtmgohahjocdeeaaDoorCards
import Derived.Test.YtmgohahjocdeeaaDoorTie
import Derived.SevenTiedAt
import Derived.Deep.RegionWith
import Derived.ChangeMaps5
set_option linter.unusedVariables false
namespace Go.Proofs.YtmgohahjocdeeaaDoor.LawLong
open Go.RowKit Go.ChangeShapes Go.WideShapes Go.ChangeAt

theorem rep_bytes (m : Nat) : (⟨(Lib.repeatL (⟨#[32]⟩ : ByteArray).data.toList m).toArray⟩ : ByteArray) = strB (List.replicate m 32) := by
  rw [strB_mk]
  have e : Lib.repeatL (⟨#[32]⟩ : ByteArray).data.toList m = (List.replicate m 32).map UInt8.ofNat := by
    induction m with
    | zero => rfl
    | succ m ih => rw [Lib.repeatL, ih]; rfl
  rw [e]

theorem ptok_long (s : ByteArray) (h : (1048576 : Int) < (s.size : Int)) (W : World) :
    Calls Tryd.prog 10 #[.string s] W fun e w' => e = .returned (.tuple #[.slice none 0 0, .agg #[.int .i64 2, .int .i64 0, .int .i64 0]]) ∧ Below W.heap.size W w' := by
  obtain ⟨W1, hW1⟩ : ∃ W1, W1 = W.alloc (.cells zeroF 26) := ⟨_, rfl⟩
  have hbox : W.alloc (.cells #[.int .i64 0, .int .i64 0, .int .i64 0] 26) = W1 := hW1.symm
  have hr1 : W1.heap[W.heap.size]? = some (.cells zeroF 26 (0, 0)) := by rw [hW1]; exact heap_alloc_new W _
  have hb1 : Below W.heap.size W W1 := by rw [hW1]; exact (Below.refl _ _).alloc (Nat.le_refl _) _
  have HR := Lib.hid hr1
  have HB := Lib.hid hb1
  clear hW1 hr1 hb1
  go_enter Tryd.func10, Tryd.ntmps10
  go_wp2_with (refine wpList_store_row rfl _ _ _ rfl W.heap.size #[.int .i64 2, .int .i64 0, .int .i64 0] rfl rfl _ _ HR.out size3F rfl (fau_one 2 0 0) ?_)
  refine bodyPost_ret (v := .tuple #[.slice none 0 0, .agg #[.int .i64 2, .int .i64 0, .int .i64 0]]) ?_ rfl ⟨rfl, below_setRow HB.out (Nat.le_refl _) _⟩
  refine results_tc rfl _ _ _ _ _ rfl rfl ?_
  exact resF _ _ (setRow_heap _ _ _ _ _ _ HR.out) rfl

set_option maxHeartbeats 4000000 in
set_option maxRecDepth 20000 in
theorem walk_over (x c : Int) (hx0 : 0 ≤ x) (hx1 : x ≤ 255) (hc0 : 0 ≤ c) (hc1 : c ≤ 255) (hx : x % 3 = 2) (w : World) (hE : Env w) :
    Calls Tryd.prog 8 #[.int .u8 x, .int .u8 c] w fun e w' => e = .returned (.bool true) ∧ Below w.heap.size w w' := by
  have ht : x.tmod 3 = 2 := by rw [Int.tmod_eq_emod_of_nonneg hx0]; exact hx
  obtain ⟨n, rfl⟩ : ∃ n : Nat, c = (n : Int) := ⟨c.toNat, by omega⟩
  obtain ⟨R, hR⟩ : ∃ R, R = strB (List.replicate 1048576 32) := ⟨_, rfl⟩
  have hRS : Str R (List.replicate 1048576 32) := ⟨hR, fun z hz => by have := List.eq_of_mem_replicate hz; omega⟩
  have HRP : Hid (∀ W, Calls Tryd.prog 19 #[.string ⟨#[32]⟩, .int .i64 1048576] W fun e w' => e = .returned (.string R) ∧ Below W.heap.size W w') := Lib.hid fun W => (Tryd.strings_Repeat ⟨#[32]⟩ 1048576 W (by omega) (by decide)).mono fun e w' h => ⟨by rw [h.1, rep_bytes, hR], h.2⟩
  have h1 : Str (strB [n]) [n] := ⟨rfl, fun z hz => by simp at hz; omega⟩
  have hadd := fun W => hRS.add h1 (by rw [List.length_replicate]; simp) W
  have hS : Str (strB (List.replicate 1048576 32 ++ [n])) (List.replicate 1048576 32 ++ [n]) := ⟨rfl, hRS.2.append h1.2⟩
  have hSz : (1048576 : Int) < ((strB (List.replicate 1048576 32 ++ [n])).size : Int) := by rw [hS.size, List.length_append, List.length_replicate]; simp
  have HT := Lib.hid (ptok_long _ hSz)
  have hcv : ∀ (W : World) (g : Nat), W.cell? ⟨g, 0, none⟩ = some (.int .u8 (n : Int)) → g < W.heap.size → (convert 51 9 (.slice (some ⟨g, 0, none⟩) 1 1)).run Tryd.prog W = .ok (.string (strB [n])) W := fun W g hg hl => conv_ok (l := [n]) 1 ⟨fun i hi => by (obtain rfl : i = 0 := by (simp at hi; omega)); exact ⟨g, 0, rfl, hl, hg⟩, h1.2, by simp [maxLen]⟩
  have hcv2 : ∀ W : World, (convert 51 9 (.slice (some ⟨W.heap.size, 0, none⟩) 1 1)).run Tryd.prog (W.alloc (.cells #[.int .u8 (n : Int)] 5)) = .ok (.string (strB [n])) (W.alloc (.cells #[.int .u8 (n : Int)] 5)) := fun W => hcv _ _ (cell_of_row _ _ 0 _ _ _ (heap_alloc_new W _)) (by simp)
  have hcv3 : ∀ W : World, (convert 51 9 (.slice (some ⟨W.heap.size, 0, none⟩) 1 1)).run Tryd.prog (W.alloc (.cells #[.int .u8 (n : Int)] 5)).drew = .ok (.string (strB [n])) (W.alloc (.cells #[.int .u8 (n : Int)] 5)).drew := fun W => hcv _ _ (cell_of_row _ _ 0 _ _ _ (heap_alloc_new W _)) (show W.heap.size < (W.alloc (.cells #[.int .u8 (n : Int)] 5)).heap.size by simp)
  generalize strB (List.replicate 1048576 32 ++ [n]) = S at *
  generalize strB [n] = cs at *
  have HE := Lib.hid hE
  clear hR hRS h1 hS hSz hE
  go_enter Tryd.func8, Tryd.ntmps8
  go_wp2_with fail
  have HCV := Lib.hid hcv
  clear hcv
  have HD1 : Hid (∀ w1, Below (w.alloc (.cells #[.int .u8 (n : Int)] 5)).drew.heap.size (w.alloc (.cells #[.int .u8 (n : Int)] 5)).drew w1 → w1.cell? ⟨w.heap.size, 0, none⟩ = some (.int .u8 (n : Int))) := Lib.hid fun w1 h => (h.cell (p := ⟨w.heap.size, 0, none⟩) (show w.heap.size < (w.alloc (.cells #[.int .u8 (n : Int)] 5)).heap.size by simp)).trans (cell_of_row (w.alloc (.cells #[.int .u8 (n : Int)] 5)) _ 0 _ _ _ (heap_alloc_new w _))
  have hwb : Below w.heap.size w (w.alloc (.cells #[.int .u8 (n : Int)] 5)).drew := ((Below.refl w.heap.size w).alloc (Nat.le_refl _) _).drew
  have HWB := Lib.hid hwb
  clear hwb
  go_region_with (first
    | (go_at_call 19; refine (HRP.out (w.drew)).mono ?_; rintro e w1 ⟨rfl, hb1⟩; have HB1 : Hid (Below w.heap.size w w1) := Lib.hid (((Below.refl w.heap.size w).drew).trans hb1); clear hb1)
    | (go_at_call 19; refine (HRP.out ((w.alloc (.cells #[.int .u8 (n : Int)] 5)).drew)).mono ?_; rintro e w1 ⟨rfl, hb1⟩; have d1 := HD1.out w1 hb1; have hl1 := World.block_lt_of_cell? w1 _ d1; have hcv1 := HCV.out w1 w.heap.size d1 hl1; have HB1 : Hid (Below w.heap.size w w1) := Lib.hid (HWB.out.trans (hb1.mono HWB.out.size)); clear hb1))
  all_goals
    go_wp2_with (first
      | (go_at_call 10; refine (HT.out _).mono ?_; rintro e w2 ⟨rfl, hb2⟩; have HB2 : Hid (Below w.heap.size w w2) := Lib.hid (by first | exact HB1.out.trans (hb2.mono HB1.out.size) | exact (HB1.out.alloc HB1.out.size _).trans (hb2.mono (HB1.out.alloc HB1.out.size _).size)); clear hb2)
      | (go_at_call 9; refine (alive_ok _ (HE.out.below (HB2.out.alloc HB2.out.size _))).mono ?_; rintro e w3 ⟨rfl, hb3⟩; have r3 := (hb3.block w2.heap.size (by simp)).trans (heap_alloc_new w2 _); have x0 := cell_of_row _ _ 0 _ _ _ r3; have x1 := cell_of_row _ _ 1 _ _ _ r3; have x2 := cell_of_row _ _ 2 _ _ _ r3; simp only [List.getElem?_toArray, List.getElem?_cons_zero, List.getElem?_cons_succ] at x0 x1 x2; have HB3 := Lib.hid ((HB2.out.alloc HB2.out.size _).trans (hb3.mono (HB2.out.alloc HB2.out.size _).size)); clear r3 hb3))
    go_ret
    exact ⟨rfl, HB3.out⟩

set_option maxHeartbeats 4000000 in
set_option maxRecDepth 20000 in
theorem walk_in0 (x c : Int) (hx0 : 0 ≤ x) (hx1 : x ≤ 255) (hc0 : 0 ≤ c) (hc1 : c ≤ 255) (hx : x % 3 = 0) (w : World) (hE : Env w) :
    Calls Tryd.prog 8 #[.int .u8 x, .int .u8 c] w fun e w' => e = .returned (.bool true) ∧ Below w.heap.size w w' := by
  have ht : x.tmod 3 = 0 := by rw [Int.tmod_eq_emod_of_nonneg hx0]; exact hx
  obtain ⟨n, rfl⟩ : ∃ n : Nat, c = (n : Int) := ⟨c.toNat, by omega⟩
  obtain ⟨R, hR⟩ : ∃ R, R = strB (List.replicate 1048574 32) := ⟨_, rfl⟩
  have hRS : Str R (List.replicate 1048574 32) := ⟨hR, fun z hz => by have := List.eq_of_mem_replicate hz; omega⟩
  have HRP : Hid (∀ W, Calls Tryd.prog 19 #[.string ⟨#[32]⟩, .int .i64 1048574] W fun e w' => e = .returned (.string R) ∧ Below W.heap.size W w') := Lib.hid fun W => (Tryd.strings_Repeat ⟨#[32]⟩ 1048574 W (by omega) (by decide)).mono fun e w' h => ⟨by rw [h.1, rep_bytes, hR], h.2⟩
  have h1 : Str (strB [n]) [n] := ⟨rfl, fun z hz => by simp at hz; omega⟩
  have hadd := fun W => hRS.add h1 (by rw [List.length_replicate]; simp) W
  have hS : Str (strB (List.replicate 1048574 32 ++ [n])) (List.replicate 1048574 32 ++ [n]) := ⟨rfl, hRS.2.append h1.2⟩
  have hlen : (List.replicate 1048574 32 ++ [n]).length ≤ 1048576 := by rw [List.length_append, List.length_replicate]; simp
  obtain ⟨hl2, hok, hbad⟩ := long_toks numV 1048574 n
  have HT := Lib.hid (fun W (hW : Env W) => ptokens_ok _ _ hS hlen (by omega) W hW)
  have HR := Lib.hid (fun W => rnext_ok (strB [n]) [n] h1 (by simp) 0 (by simp) W)
  generalize tokensV numV (List.replicate 1048574 32 ++ [n]) = r at *
  generalize atV [n] 0 = q at *
  generalize readL numV (([n] : List Nat).drop q) = R0 at *
  obtain ⟨ts, o⟩ := r
  obtain ⟨rc, rk, rt, rv, rl⟩ := R0
  unfold TkP at HT
  unfold RnP at HR
  have hcv : ∀ (W : World) (g : Nat), W.cell? ⟨g, 0, none⟩ = some (.int .u8 (n : Int)) → g < W.heap.size → (convert 51 9 (.slice (some ⟨g, 0, none⟩) 1 1)).run Tryd.prog W = .ok (.string (strB [n])) W := fun W g hg hl => conv_ok (l := [n]) 1 ⟨fun i hi => by (obtain rfl : i = 0 := by (simp at hi; omega)); exact ⟨g, 0, rfl, hl, hg⟩, h1.2, by simp [maxLen]⟩
  have hcv2 : ∀ W : World, (convert 51 9 (.slice (some ⟨W.heap.size, 0, none⟩) 1 1)).run Tryd.prog (W.alloc (.cells #[.int .u8 (n : Int)] 5)) = .ok (.string (strB [n])) (W.alloc (.cells #[.int .u8 (n : Int)] 5)) := fun W => hcv _ _ (cell_of_row _ _ 0 _ _ _ (heap_alloc_new W _)) (by simp)
  have hcv3 : ∀ W : World, (convert 51 9 (.slice (some ⟨W.heap.size, 0, none⟩) 1 1)).run Tryd.prog (W.alloc (.cells #[.int .u8 (n : Int)] 5)).drew = .ok (.string (strB [n])) (W.alloc (.cells #[.int .u8 (n : Int)] 5)).drew := fun W => hcv _ _ (cell_of_row _ _ 0 _ _ _ (heap_alloc_new W _)) (show W.heap.size < (W.alloc (.cells #[.int .u8 (n : Int)] 5)).heap.size by simp)
  generalize strB (List.replicate 1048574 32 ++ [n]) = S at *
  generalize strB [n] = cs at *
  have HTR : Hid (∃ fc fa fb : Nat, (fc = rc) ∧ ∀ W, Env W → Calls Tryd.prog 10 #[.string S] W fun e w' => (∃ A m c, e = .returned (.tuple #[.slice A m c, .agg #[.int .i64 (fc : Int), .int .i64 (fa : Int), .int .i64 (fb : Int)]])) ∧ Below W.heap.size W w' ∧ (rc = 0 → fa = 0 ∧ fb = 0)) := Lib.hid (by
    by_cases h0 : rc = 0
    · have ho : o = none := hok h0
      subst ho
      exact ⟨0, 0, 0, h0.symm, fun W hW => (HT.out W hW).mono fun e w' h => by
        obtain ⟨A, c, he, -⟩ := h.2.1 rfl
        exact ⟨⟨A, _, c, he⟩, h.1, fun _ => ⟨rfl, rfl⟩⟩⟩
    · obtain ⟨fa, fb, ho⟩ := hbad h0
      have ho' : o = some (rc, fa, fb) := ho
      subst ho'
      exact ⟨rc, fa, fb, rfl, fun W hW => (HT.out W hW).mono fun e w' h => ⟨⟨none, 0, 0, h.2.2 rc fa fb rfl⟩, h.1, fun hh => absurd hh h0⟩⟩)
  obtain ⟨fc, fa, fb, hfc, hTK⟩ := HTR.out
  subst hfc
  have HTK := Lib.hid hTK
  obtain ⟨pp, hpp⟩ : ∃ pp, pp = placeV [n] q := ⟨_, rfl⟩
  rw [← hpp] at HR
  obtain ⟨pa, pb⟩ := pp
  have HR0 : Hid (∀ W, Calls Tryd.prog 15 #[.string cs, .int .i64 0] W fun e w' => e = .returned (.tuple #[.agg #[.int .i64 (rk : Int), .string (strB rt), .int .u64 rv, .int .i64 (pa : Int), .int .i64 (pb : Int)], .int .i64 ((if fc = 0 then q + rl else 0 : Nat) : Int), .int .i64 (fc : Int)]) ∧ Below W.heap.size W w') := Lib.hid fun W => (HR.out W).mono fun e w' h => ⟨h.1, h.2⟩
  generalize strB rt = tv at *
  generalize ((if fc = 0 then q + rl else 0 : Nat) : Int) = en at *
  have hcv4 : ∀ (W : World) (C : Obj), (convert 51 9 (.slice (some ⟨W.heap.size + 1, 0, none⟩) 1 1)).run Tryd.prog ((W.alloc C).alloc (.cells #[.int .u8 (n : Int)] 5)) = .ok (.string cs) ((W.alloc C).alloc (.cells #[.int .u8 (n : Int)] 5)) := fun W C => by
    have h := hcv2 (W.alloc C)
    simp only [World.size_alloc] at h
    exact h
  clear hTK HTR HT hok hbad hl2 hlen HR hpp
  have HE := Lib.hid hE
  clear hR hRS h1 hS hE
  go_enter Tryd.func8, Tryd.ntmps8
  go_wp2_with fail
  have HCV := Lib.hid hcv
  clear hcv
  have HD1 : Hid (∀ w1, Below (w.alloc (.cells #[.int .u8 (n : Int)] 5)).drew.heap.size (w.alloc (.cells #[.int .u8 (n : Int)] 5)).drew w1 → w1.cell? ⟨w.heap.size, 0, none⟩ = some (.int .u8 (n : Int))) := Lib.hid fun w1 h => (h.cell (p := ⟨w.heap.size, 0, none⟩) (show w.heap.size < (w.alloc (.cells #[.int .u8 (n : Int)] 5)).heap.size by simp)).trans (cell_of_row (w.alloc (.cells #[.int .u8 (n : Int)] 5)) _ 0 _ _ _ (heap_alloc_new w _))
  have hwb : Below w.heap.size w (w.alloc (.cells #[.int .u8 (n : Int)] 5)).drew := ((Below.refl w.heap.size w).alloc (Nat.le_refl _) _).drew
  have HWB := Lib.hid hwb
  clear hwb
  go_region_with (first
    | (go_at_call 19; refine (HRP.out (w.drew)).mono ?_; rintro e w1 ⟨rfl, hb1⟩; have HB1 : Hid (Below w.heap.size w w1) := Lib.hid (((Below.refl w.heap.size w).drew).trans hb1); clear hb1)
    | (go_at_call 19; refine (HRP.out ((w.alloc (.cells #[.int .u8 (n : Int)] 5)).drew)).mono ?_; rintro e w1 ⟨rfl, hb1⟩; have d1 := HD1.out w1 hb1; have hl1 := World.block_lt_of_cell? w1 _ d1; have hcv1 := HCV.out w1 w.heap.size d1 hl1; have HB1 : Hid (Below w.heap.size w w1) := Lib.hid (HWB.out.trans (hb1.mono HWB.out.size)); clear hb1))
  all_goals
    go_wp2_with (first
      | (go_at_call 10; first | (refine (HTK.out _ (HE.out.below HB1.out)).mono ?_; rintro e w2 ⟨⟨A, m, c2, rfl⟩, hb2, hfab⟩; have HB2 : Hid (Below w.heap.size w w2) := Lib.hid (HB1.out.trans (hb2.mono HB1.out.size)); clear hb2) | (refine (HTK.out _ (HE.out.below (HB1.out.alloc HB1.out.size _))).mono ?_; rintro e w2 ⟨⟨A, m, c2, rfl⟩, hb2, hfab⟩; have HB2 : Hid (Below w.heap.size w w2) := Lib.hid ((HB1.out.alloc HB1.out.size _).trans (hb2.mono (HB1.out.alloc HB1.out.size _).size)); clear hb2)))
  all_goals
    obtain ⟨X, hX⟩ : ∃ X, X = (w2.alloc (.cells #[.int .i64 (fc : Int), .int .i64 (fa : Int), .int .i64 (fb : Int)] 26)).alloc (.cells #[.int .u8 (n : Int)] 5) := ⟨_, rfl⟩
    have hXr : X.heap[w2.heap.size]? = some (.cells #[.int .i64 (fc : Int), .int .i64 (fa : Int), .int .i64 (fb : Int)] 26 (0, 0)) := by rw [hX]; exact rw_row _ _ _ _ _
    have hXb : Below w.heap.size w X := HB2.out.trans ((show Below w2.heap.size w2 X by rw [hX]; exact rw_below _ _ _ _ _).mono HB2.out.size)
    have HX := Lib.hid hX.symm
    have HX1 := Lib.hid (And.intro hXr hXb)
    clear hX hXr hXb
    rw [HX.out]
    refine (HR0.out X).mono ?_
    rintro e w3 ⟨rfl, hb3⟩
    have hY1 : (w3.alloc (.cells #[.int .i64 (rk : Int), .string tv, .int .u64 rv, .int .i64 (pa : Int), .int .i64 (pb : Int)] 42)).heap[w2.heap.size]? = some (.cells #[.int .i64 (fc : Int), .int .i64 (fa : Int), .int .i64 (fb : Int)] 26 (0, 0)) := by
      have h1 : w3.heap[w2.heap.size]? = some (.cells #[.int .i64 (fc : Int), .int .i64 (fa : Int), .int .i64 (fb : Int)] 26 (0, 0)) := by rw [hb3.block _ (heap_lt HX1.out.1)]; exact HX1.out.1
      rw [((Below.refl w3.heap.size w3).alloc (Nat.le_refl _) _).block _ (heap_lt h1)]
      exact h1
    have hYb : Below w.heap.size w (w3.alloc (.cells #[.int .i64 (rk : Int), .string tv, .int .u64 rv, .int .i64 (pa : Int), .int .i64 (pb : Int)] 42)) := (HX1.out.2.trans (hb3.mono HX1.out.2.size)).alloc (HX1.out.2.trans (hb3.mono HX1.out.2.size)).size _
    have HY := Lib.hid (And.intro hY1 hYb)
    clear hY1 hYb hb3
    go_wp2_with fail
    refine (alive_ok _ (HE.out.below HY.out.2)).mono ?_
    rintro e w5 ⟨rfl, hb5⟩
    have r5 : w5.heap[w2.heap.size]? = some (.cells #[.int .i64 (fc : Int), .int .i64 (fa : Int), .int .i64 (fb : Int)] 26 (0, 0)) := by rw [hb5.block _ (heap_lt HY.out.1)]; exact HY.out.1
    have HB5 := Lib.hid (HY.out.2.trans (hb5.mono HY.out.2.size))
    have x0 := cell_of_row _ _ 0 _ _ _ r5
    have x1 := cell_of_row _ _ 1 _ _ _ r5
    have x2 := cell_of_row _ _ 2 _ _ _ r5
    simp only [List.getElem?_toArray, List.getElem?_cons_zero, List.getElem?_cons_succ] at x0 x1 x2
    clear r5 hb5
    by_cases h0 : fc = 0
    · obtain ⟨ha, hb⟩ := hfab h0
      subst h0 ha hb
      go_wp2_with fail
      go_ret
      exact ⟨rfl, HB5.out⟩
    · have e0 : ((fc : Int) == 0) = false := ne_beq h0 0 rfl
      have e2 : ¬ (fc : Int) = 0 := by omega
      clear h0 hfab
      go_wp2_with fail
      go_ret
      exact ⟨rfl, HB5.out⟩

set_option maxHeartbeats 4000000 in
set_option maxRecDepth 20000 in
theorem walk_in1 (x c : Int) (hx0 : 0 ≤ x) (hx1 : x ≤ 255) (hc0 : 0 ≤ c) (hc1 : c ≤ 255) (hx : x % 3 = 1) (w : World) (hE : Env w) :
    Calls Tryd.prog 8 #[.int .u8 x, .int .u8 c] w fun e w' => e = .returned (.bool true) ∧ Below w.heap.size w w' := by
  have ht : x.tmod 3 = 1 := by rw [Int.tmod_eq_emod_of_nonneg hx0]; exact hx
  obtain ⟨n, rfl⟩ : ∃ n : Nat, c = (n : Int) := ⟨c.toNat, by omega⟩
  obtain ⟨R, hR⟩ : ∃ R, R = strB (List.replicate 1048575 32) := ⟨_, rfl⟩
  have hRS : Str R (List.replicate 1048575 32) := ⟨hR, fun z hz => by have := List.eq_of_mem_replicate hz; omega⟩
  have HRP : Hid (∀ W, Calls Tryd.prog 19 #[.string ⟨#[32]⟩, .int .i64 1048575] W fun e w' => e = .returned (.string R) ∧ Below W.heap.size W w') := Lib.hid fun W => (Tryd.strings_Repeat ⟨#[32]⟩ 1048575 W (by omega) (by decide)).mono fun e w' h => ⟨by rw [h.1, rep_bytes, hR], h.2⟩
  have h1 : Str (strB [n]) [n] := ⟨rfl, fun z hz => by simp at hz; omega⟩
  have hadd := fun W => hRS.add h1 (by rw [List.length_replicate]; simp) W
  have hS : Str (strB (List.replicate 1048575 32 ++ [n])) (List.replicate 1048575 32 ++ [n]) := ⟨rfl, hRS.2.append h1.2⟩
  have hlen : (List.replicate 1048575 32 ++ [n]).length ≤ 1048576 := by rw [List.length_append, List.length_replicate]; simp
  obtain ⟨hl2, hok, hbad⟩ := long_toks numV 1048575 n
  have HT := Lib.hid (fun W (hW : Env W) => ptokens_ok _ _ hS hlen (by omega) W hW)
  have HR := Lib.hid (fun W => rnext_ok (strB [n]) [n] h1 (by simp) 0 (by simp) W)
  generalize tokensV numV (List.replicate 1048575 32 ++ [n]) = r at *
  generalize atV [n] 0 = q at *
  generalize readL numV (([n] : List Nat).drop q) = R0 at *
  obtain ⟨ts, o⟩ := r
  obtain ⟨rc, rk, rt, rv, rl⟩ := R0
  unfold TkP at HT
  unfold RnP at HR
  have hcv : ∀ (W : World) (g : Nat), W.cell? ⟨g, 0, none⟩ = some (.int .u8 (n : Int)) → g < W.heap.size → (convert 51 9 (.slice (some ⟨g, 0, none⟩) 1 1)).run Tryd.prog W = .ok (.string (strB [n])) W := fun W g hg hl => conv_ok (l := [n]) 1 ⟨fun i hi => by (obtain rfl : i = 0 := by (simp at hi; omega)); exact ⟨g, 0, rfl, hl, hg⟩, h1.2, by simp [maxLen]⟩
  have hcv2 : ∀ W : World, (convert 51 9 (.slice (some ⟨W.heap.size, 0, none⟩) 1 1)).run Tryd.prog (W.alloc (.cells #[.int .u8 (n : Int)] 5)) = .ok (.string (strB [n])) (W.alloc (.cells #[.int .u8 (n : Int)] 5)) := fun W => hcv _ _ (cell_of_row _ _ 0 _ _ _ (heap_alloc_new W _)) (by simp)
  have hcv3 : ∀ W : World, (convert 51 9 (.slice (some ⟨W.heap.size, 0, none⟩) 1 1)).run Tryd.prog (W.alloc (.cells #[.int .u8 (n : Int)] 5)).drew = .ok (.string (strB [n])) (W.alloc (.cells #[.int .u8 (n : Int)] 5)).drew := fun W => hcv _ _ (cell_of_row _ _ 0 _ _ _ (heap_alloc_new W _)) (show W.heap.size < (W.alloc (.cells #[.int .u8 (n : Int)] 5)).heap.size by simp)
  generalize strB (List.replicate 1048575 32 ++ [n]) = S at *
  generalize strB [n] = cs at *
  have HTR : Hid (∃ fc fa fb : Nat, (fc = rc) ∧ ∀ W, Env W → Calls Tryd.prog 10 #[.string S] W fun e w' => (∃ A m c, e = .returned (.tuple #[.slice A m c, .agg #[.int .i64 (fc : Int), .int .i64 (fa : Int), .int .i64 (fb : Int)]])) ∧ Below W.heap.size W w' ∧ (rc = 0 → fa = 0 ∧ fb = 0)) := Lib.hid (by
    by_cases h0 : rc = 0
    · have ho : o = none := hok h0
      subst ho
      exact ⟨0, 0, 0, h0.symm, fun W hW => (HT.out W hW).mono fun e w' h => by
        obtain ⟨A, c, he, -⟩ := h.2.1 rfl
        exact ⟨⟨A, _, c, he⟩, h.1, fun _ => ⟨rfl, rfl⟩⟩⟩
    · obtain ⟨fa, fb, ho⟩ := hbad h0
      have ho' : o = some (rc, fa, fb) := ho
      subst ho'
      exact ⟨rc, fa, fb, rfl, fun W hW => (HT.out W hW).mono fun e w' h => ⟨⟨none, 0, 0, h.2.2 rc fa fb rfl⟩, h.1, fun hh => absurd hh h0⟩⟩)
  obtain ⟨fc, fa, fb, hfc, hTK⟩ := HTR.out
  subst hfc
  have HTK := Lib.hid hTK
  obtain ⟨pp, hpp⟩ : ∃ pp, pp = placeV [n] q := ⟨_, rfl⟩
  rw [← hpp] at HR
  obtain ⟨pa, pb⟩ := pp
  have HR0 : Hid (∀ W, Calls Tryd.prog 15 #[.string cs, .int .i64 0] W fun e w' => e = .returned (.tuple #[.agg #[.int .i64 (rk : Int), .string (strB rt), .int .u64 rv, .int .i64 (pa : Int), .int .i64 (pb : Int)], .int .i64 ((if fc = 0 then q + rl else 0 : Nat) : Int), .int .i64 (fc : Int)]) ∧ Below W.heap.size W w') := Lib.hid fun W => (HR.out W).mono fun e w' h => ⟨h.1, h.2⟩
  generalize strB rt = tv at *
  generalize ((if fc = 0 then q + rl else 0 : Nat) : Int) = en at *
  have hcv4 : ∀ (W : World) (C : Obj), (convert 51 9 (.slice (some ⟨W.heap.size + 1, 0, none⟩) 1 1)).run Tryd.prog ((W.alloc C).alloc (.cells #[.int .u8 (n : Int)] 5)) = .ok (.string cs) ((W.alloc C).alloc (.cells #[.int .u8 (n : Int)] 5)) := fun W C => by
    have h := hcv2 (W.alloc C)
    simp only [World.size_alloc] at h
    exact h
  clear hTK HTR HT hok hbad hl2 hlen HR hpp
  have HE := Lib.hid hE
  clear hR hRS h1 hS hE
  go_enter Tryd.func8, Tryd.ntmps8
  go_wp2_with fail
  have HCV := Lib.hid hcv
  clear hcv
  have HD1 : Hid (∀ w1, Below (w.alloc (.cells #[.int .u8 (n : Int)] 5)).drew.heap.size (w.alloc (.cells #[.int .u8 (n : Int)] 5)).drew w1 → w1.cell? ⟨w.heap.size, 0, none⟩ = some (.int .u8 (n : Int))) := Lib.hid fun w1 h => (h.cell (p := ⟨w.heap.size, 0, none⟩) (show w.heap.size < (w.alloc (.cells #[.int .u8 (n : Int)] 5)).heap.size by simp)).trans (cell_of_row (w.alloc (.cells #[.int .u8 (n : Int)] 5)) _ 0 _ _ _ (heap_alloc_new w _))
  have hwb : Below w.heap.size w (w.alloc (.cells #[.int .u8 (n : Int)] 5)).drew := ((Below.refl w.heap.size w).alloc (Nat.le_refl _) _).drew
  have HWB := Lib.hid hwb
  clear hwb
  go_region_with (first
    | (go_at_call 19; refine (HRP.out (w.drew)).mono ?_; rintro e w1 ⟨rfl, hb1⟩; have HB1 : Hid (Below w.heap.size w w1) := Lib.hid (((Below.refl w.heap.size w).drew).trans hb1); clear hb1)
    | (go_at_call 19; refine (HRP.out ((w.alloc (.cells #[.int .u8 (n : Int)] 5)).drew)).mono ?_; rintro e w1 ⟨rfl, hb1⟩; have d1 := HD1.out w1 hb1; have hl1 := World.block_lt_of_cell? w1 _ d1; have hcv1 := HCV.out w1 w.heap.size d1 hl1; have HB1 : Hid (Below w.heap.size w w1) := Lib.hid (HWB.out.trans (hb1.mono HWB.out.size)); clear hb1))
  all_goals
    go_wp2_with (first
      | (go_at_call 10; first | (refine (HTK.out _ (HE.out.below HB1.out)).mono ?_; rintro e w2 ⟨⟨A, m, c2, rfl⟩, hb2, hfab⟩; have HB2 : Hid (Below w.heap.size w w2) := Lib.hid (HB1.out.trans (hb2.mono HB1.out.size)); clear hb2) | (refine (HTK.out _ (HE.out.below (HB1.out.alloc HB1.out.size _))).mono ?_; rintro e w2 ⟨⟨A, m, c2, rfl⟩, hb2, hfab⟩; have HB2 : Hid (Below w.heap.size w w2) := Lib.hid ((HB1.out.alloc HB1.out.size _).trans (hb2.mono (HB1.out.alloc HB1.out.size _).size)); clear hb2)))
  all_goals
    obtain ⟨X, hX⟩ : ∃ X, X = (w2.alloc (.cells #[.int .i64 (fc : Int), .int .i64 (fa : Int), .int .i64 (fb : Int)] 26)).alloc (.cells #[.int .u8 (n : Int)] 5) := ⟨_, rfl⟩
    have hXr : X.heap[w2.heap.size]? = some (.cells #[.int .i64 (fc : Int), .int .i64 (fa : Int), .int .i64 (fb : Int)] 26 (0, 0)) := by rw [hX]; exact rw_row _ _ _ _ _
    have hXb : Below w.heap.size w X := HB2.out.trans ((show Below w2.heap.size w2 X by rw [hX]; exact rw_below _ _ _ _ _).mono HB2.out.size)
    have HX := Lib.hid hX.symm
    have HX1 := Lib.hid (And.intro hXr hXb)
    clear hX hXr hXb
    rw [HX.out]
    refine (HR0.out X).mono ?_
    rintro e w3 ⟨rfl, hb3⟩
    have hY1 : (w3.alloc (.cells #[.int .i64 (rk : Int), .string tv, .int .u64 rv, .int .i64 (pa : Int), .int .i64 (pb : Int)] 42)).heap[w2.heap.size]? = some (.cells #[.int .i64 (fc : Int), .int .i64 (fa : Int), .int .i64 (fb : Int)] 26 (0, 0)) := by
      have h1 : w3.heap[w2.heap.size]? = some (.cells #[.int .i64 (fc : Int), .int .i64 (fa : Int), .int .i64 (fb : Int)] 26 (0, 0)) := by rw [hb3.block _ (heap_lt HX1.out.1)]; exact HX1.out.1
      rw [((Below.refl w3.heap.size w3).alloc (Nat.le_refl _) _).block _ (heap_lt h1)]
      exact h1
    have hYb : Below w.heap.size w (w3.alloc (.cells #[.int .i64 (rk : Int), .string tv, .int .u64 rv, .int .i64 (pa : Int), .int .i64 (pb : Int)] 42)) := (HX1.out.2.trans (hb3.mono HX1.out.2.size)).alloc (HX1.out.2.trans (hb3.mono HX1.out.2.size)).size _
    have HY := Lib.hid (And.intro hY1 hYb)
    clear hY1 hYb hb3
    go_wp2_with fail
    refine (alive_ok _ (HE.out.below HY.out.2)).mono ?_
    rintro e w5 ⟨rfl, hb5⟩
    have r5 : w5.heap[w2.heap.size]? = some (.cells #[.int .i64 (fc : Int), .int .i64 (fa : Int), .int .i64 (fb : Int)] 26 (0, 0)) := by rw [hb5.block _ (heap_lt HY.out.1)]; exact HY.out.1
    have HB5 := Lib.hid (HY.out.2.trans (hb5.mono HY.out.2.size))
    have x0 := cell_of_row _ _ 0 _ _ _ r5
    have x1 := cell_of_row _ _ 1 _ _ _ r5
    have x2 := cell_of_row _ _ 2 _ _ _ r5
    simp only [List.getElem?_toArray, List.getElem?_cons_zero, List.getElem?_cons_succ] at x0 x1 x2
    clear r5 hb5
    by_cases h0 : fc = 0
    · obtain ⟨ha, hb⟩ := hfab h0
      subst h0 ha hb
      go_wp2_with fail
      go_ret
      exact ⟨rfl, HB5.out⟩
    · have e0 : ((fc : Int) == 0) = false := ne_beq h0 0 rfl
      have e2 : ¬ (fc : Int) = 0 := by omega
      clear h0 hfab
      go_wp2_with fail
      go_ret
      exact ⟨rfl, HB5.out⟩

theorem walk (x c : Int) (hx0 : 0 ≤ x) (hx1 : x ≤ 255) (hc0 : 0 ≤ c) (hc1 : c ≤ 255) (w : World) (hE : Env w) :
    Calls Tryd.prog 8 #[.int .u8 x, .int .u8 c] w fun e w' => e = .returned (.bool true) ∧ Below w.heap.size w w' := by
  have h3 : x % 3 = 0 ∨ x % 3 = 1 ∨ x % 3 = 2 := by omega
  rcases h3 with h3 | h3 | h3
  · exact walk_in0 x c hx0 hx1 hc0 hc1 h3 w hE
  · exact walk_in1 x c hx0 hx1 hc0 hc1 h3 w hE
  · exact walk_over x c hx0 hx1 hc0 hc1 h3 w hE
set_option maxRecDepth 100000 in
theorem lifted (os : Os) (started : os.Started) (H : Type) (enc : TypeId × Value → H) :
    ReturnsInHanded {} Tryd.checked os 8 .any (fun w args => (Rows.lexLongSpec.pre enc Tryd.prog Tryd.f8 [] false w args ∧ laidMetH Tryd.prog laid1 w) ∧ sizedMet enc Tryd.prog Tryd.f8 (OpenSpec.ofChange Rows.lexLongSpec) false w args)
      (Rows.lexLongSpec.post enc Tryd.prog Tryd.f8 false true false false) := by
  refine returnsInHanded_of_change_and (C := Tryd.checked) (X := fun w _ => laidMetH Tryd.prog laid1 w) (fun _ _ _ hh h => h.of_heap hh) own started (by kernel_rfl) Tryd.func8
    (ChangeSpec.witness_shaped (enc := enc) (C := Tryd.checked) (os := os) (X := fun w _ => laidMetH Tryd.prog laid1 w) false (World.doorLaid Tryd.prog 62 os) #[.int .u8 0, .int .u8 0] 8 rfl (World.shaped_of_RefB (by kernel_rfl) (by kernel_rfl)) (by kernel_rfl) (by kernel_rfl) (by kernel_rfl) (door_met os _)) ?_
  intro W base args ds gs before hval0 hW _ _ hL _
  have hval : ∀ (j : Nat) t v, Tryd.f8.params[j]? = some t → args[j]? = some v → Value.okWide Tryd.prog W .any base t v := hval0
  have hW' := hW
  obtain ⟨p, q, hA0, hV, rfl, hfz, hnd⟩ := hW
  have hA : DataW.TrodAll enc Tryd.prog W 0 (fun _ => true) true Tryd.f8.params.toList args.toList ds p := hA0
  rw [Tryd.params8] at hA hval
  obtain ⟨v0, vs0, d0, ds0, p0, q0, hargs, rfl, rfl, h0, r0⟩ := trodAll_cons hA
  obtain ⟨v1, vs1, d1, ds1, p1, q1, rfl, rfl, rfl, h1, r1⟩ := trodAll_cons r0
  obtain ⟨rfl, rfl, rfl⟩ := trodAll_nil r1
  obtain rfl : args = #[v0, v1] := by cases args; simp_all
  obtain ⟨rfl, rfl⟩ := trodVars_none hV
  obtain ⟨a0, rfl, rfl, rfl, w0⟩ := open_int Tryd.underlying5 (hval 0 5 v0 rfl rfl) h0
  obtain ⟨a1, rfl, rfl, rfl, w1⟩ := open_int Tryd.underlying5 (hval 1 5 v1 rfl rfl) h1
  clear hA0 hval0
  simp only [List.append_nil] at hW'
  refine (walk a0 a1 (bounds_u8 w0).1 (bounds_u8 w0).2 (bounds_u8 w1).1 (bounds_u8 w1).2 W (env_of_laid hL)).mono fun e W' ⟨he, hg⟩ => ?_
  subst he
  exact law_post (by kernel_rfl) rfl rfl (by kernel_rfl) (by kernel_rfl) Tryd.underlying4 hW' hg

theorem over : Rows.LexLongSaid :=
  OpenClaim.holds_of_wide 8 Tryd.f8 rfl rfl rfl rfl rfl rfl rfl ⟨rfl, rfl, rfl, rfl, rfl⟩ rfl rfl rfl rfl rfl (by kernel_rfl) Tryd.func8 (by kernel_rfl)
    (of_decide_eq_true (by kernel_rfl)) (by unfold Func.isWrapper; first | (rw [if_pos (by decide +kernel)]; kernel_rfl) | (rw [if_neg (by decide +kernel)]; exact ⟨rfl, rfl⟩))
    (fun os started H enc _ => lifted os started H enc)

theorem proved : Rows.LexLongCardSaid :=
  Claim7.holds_tied_plain_at .later [] Rows.lexLongCard.laidKinds true Rows.lexLongCard.stood.harness Rows.lexLongCard.stood.looks
    over (fun _ h => by cases h) (by kernel_rfl) (fun _ h => by cases h) lexLong_row_tie rfl ⟨rfl, rfl⟩ (by kernel_rfl) rfl
    (fun f fn hf hfn => by
      obtain rfl : f = 8 := Option.some.inj ((show Tryd.prog.funcNamed "fenestra/fenestralaw06.LexLong" = some 8 by kernel_rfl).symm.trans hf) |>.symm
      obtain rfl : fn = Tryd.f8 := (Option.some.inj (Tryd.func8.symm.trans hfn)).symm
      exact ⟨by kernel_rfl, fun j t ht => by
        rw [Tryd.params8] at ht
        have hm : t ∈ [5, 5] := by simpa using Array.mem_of_getElem? ht
        have hall : ([5, 5].all fun u => !Tryd.prog.wantsStandIn u) = true := by kernel_rfl
        exact (show Tryd.prog.wantsStandIn t = false by simpa using List.all_eq_true.1 hall t hm)⟩)
    (by kernel_rfl)

end Go.Proofs.YtmgohahjocdeeaaDoor.LawLong

/-
  Layer 4: the reference's Unpad. By the verifier.
-/
import Derived.Test.YtpabccmnhaelnaaNUnp
set_option linter.unusedVariables false
namespace Go.Proofs.Ytpabccmnhaelnaa
open Go.RowKit

theorem unpad_zero {b : List Nat} (hb : b.length = 30) {k : Nat} (h : k ≤ 30) (hn : nameB (b.take k) = true) (hz : ∀ m, k ≤ m → m < 30 → b.getD m 0 = 0) : unpadY b (k : Int) = true := by
  rw [unpad_same hb h hn]
  unfold same30
  rw [decide_eq_true_eq, pad30_ext]
  intro i hi
  rw [take_get]
  split
  · rfl
  · exact (hz i (by omega) hi).symm
theorem unpad_stain {b : List Nat} (hb : b.length = 30) {k m : Nat} (h : k ≤ 30) (hn : nameB (b.take k) = true) (hm : k ≤ m) (hm2 : m < 30) (hz : b.getD m 0 ≠ 0) : unpadY b (k : Int) = false := by
  rw [unpad_same hb h hn]
  unfold same30
  rw [decide_eq_false_iff_not, pad30_ext]
  intro hall
  have := hall m hm2
  rw [take_get, if_neg (by omega)] at this
  exact hz this.symm

set_option maxHeartbeats 2000000 in
set_option maxRecDepth 20000 in
theorem refunpad_ok (b : List Nat) (hb : b.length = 30) (hbs : Bs b) (n : Int) (w : World) :
    Calls Try.prog 18 #[.agg (arr30 b), .int .i64 n] w fun e w' => UnpRes w (unpadN b n) (unpadY b n) e w' := by
  have HA : Hid (Below w.heap.size w (w.alloc (.cells (arr30 b) 32))) := Lib.hid ((Below.refl _ _).alloc (Nat.le_refl _) _)
  by_cases h0 : n < 0
  · rw [unpadN_no (unpad_neg h0), unpad_neg h0]
    clear hb hbs
    generalize arr30 b = ab at *
    go_enter Try.func18, Try.ntmps18
    go_wp2_with fail
    go_ret2
    exact ⟨rfl, HA.out⟩
  · by_cases h1 : 30 < n
    · rw [unpadN_no (unpad_long h1), unpad_long h1]
      clear hb hbs
      generalize arr30 b = ab at *
      go_enter Try.func18, Try.ntmps18
      go_wp2_with fail
      go_ret2
      exact ⟨rfl, HA.out⟩
    · obtain ⟨k, rfl⟩ : ∃ k : Nat, n = (k : Int) := ⟨n.toNat, by omega⟩
      have hk : k ≤ 30 := by omega
      have hki : (k : Int) ≤ 30 := by omega
      have hbox := Box30.new w b
      have hy := hbox.bys hb hbs k hk
      have hcv := conv_ok 30 hy
      have htl : (b.take k).length = k := by rw [List.length_take]; omega
      rw [htl] at hcv
      have hS : Str (strB (b.take k)) (b.take k) := ⟨rfl, hbs.take k⟩
      have HV := Lib.hid (refvalid_ok _ _ hS (by rw [htl]; unfold maxLen; omega))
      cases hv : nameB (b.take k) with
      | false =>
        have hr := unpad_bad hk hv
        rw [unpadN_no hr, hr]
        rw [hv] at HV
        clear hr hv hS hy hbox hb hbs htl
        generalize strB (b.take k) = s at *
        generalize arr30 b = ab at *
        go_enter Try.func18, Try.ntmps18
        go_wp2_with fail
        refine (HV.out _).mono ?_
        rintro e w1 ⟨rfl, rfl⟩
        go_wp2_with fail
        go_ret2
        exact ⟨rfl, HA.out⟩
      | true =>
        rw [hv] at HV
        have HBX := Lib.hid hbox
        have HNO : Hid (∀ m, k ≤ m → m < 30 → b.getD m 0 ≠ 0 → unpadY b (k : Int) = false) := Lib.hid fun m h1 h2 h3 => unpad_stain hb hk hv h1 h2 h3
        have HYES : Hid ((∀ m, k ≤ m → m < 30 → b.getD m 0 = 0) → unpadY b (k : Int) = true) := Lib.hid fun h => unpad_zero hb hk hv h
        have HTK : Hid (unpadY b (k : Int) = true → unpadN b (k : Int) = b.take k) := Lib.hid fun h => unpadN_yes h
        have HNK : Hid (unpadY b (k : Int) = false → unpadN b (k : Int) = []) := Lib.hid fun h => unpadN_no h
        obtain ⟨s, hse⟩ : ∃ s, s = strB (b.take k) := ⟨_, rfl⟩
        rw [← hse] at HV hcv
        have HSE := Lib.hid hse
        obtain ⟨ab, hab⟩ : ∃ ab, ab = arr30 b := ⟨_, rfl⟩
        rw [← hab] at hcv HBX HA ⊢
        obtain ⟨W, hW⟩ : ∃ W, W = w.alloc (.cells ab 32) := ⟨_, rfl⟩
        have hcv0 := hcv
        rw [← hW] at hcv HBX HA
        clear hv hS hy hbox hb hbs htl hse hab h0 h1
        go_enter Try.func18, Try.ntmps18
        go_wp2_with fail
        rw [← hW]
        clear hW hcv0
        refine (HV.out _).mono ?_
        rintro e w1 ⟨rfl, rfl⟩
        go_wp2_with fail
        go_loopw [6] (fun i wr => ∃ j : Nat, k ≤ j ∧ j ≤ 30 ∧ i = .int .i64 (j : Int) ∧ Hid (∀ m, k ≤ m → m < j → b.getD m 0 = 0) ∧ wr = W) (fun i _ => 30 - (intOf i).toNat)
        case atStart => exact ⟨k, by omega, by omega, rfl, Lib.hid (fun m h1 h2 => absurd h1 (by omega)), rfl⟩
        case round =>
          obtain ⟨j, hkj, hj, rfl, hz, rfl⟩ := hrel
          by_cases hlt : j < 30
          · have hc := HBX.out.cell hlt
            have hlti : (j : Int) < 30 := by omega
            replace hc : wr.cell? ⟨w.heap.size, j, none⟩ = some (.int .u8 ((b.getD j 0 : Nat) : Int)) := hc
            by_cases h0 : b.getD j 0 = 0
            · have HZ : Hid (∀ m, k ≤ m → m < j + 1 → b.getD m 0 = 0) := Lib.hid fun m h1 h2 => by
                rcases Nat.lt_or_ge m j with h3 | h3
                · exact hz.out m h1 h3
                · obtain rfl : m = j := by omega
                  exact h0
              rw [h0] at hc
              clear h0
              go_wp2_with fail
              go_roundw
              case rel => exact ⟨j + 1, by omega, by omega, by go_num, HZ, by trivial⟩
              case measure => simp [intOf]; omega
            · have HR := Lib.hid (HNO.out j hkj hlt h0)
              generalize b.getD j 0 = x at *
              have g0 : ((x : Int) == 0) = false := by rw [beq_eq_false_iff_ne]; omega
              have g1 : ((x : Int) != 0) = true := by rw [bne_iff_ne]; omega
              have g2 : ¬ (x : Int) = 0 := by omega
              clear h0
              go_wp2_with fail
              go_ret2
              rw [HNK.out HR.out, HR.out]
              exact ⟨rfl, HA.out⟩
          · have hlti : ¬ (j : Int) < 30 := by omega
            have HR := Lib.hid (HYES.out fun m h1 h2 => hz.out m h1 (by omega))
            go_wp2_with fail
            go_ret2
            rw [HTK.out HR.out, HR.out]
            exact ⟨by rw [HSE.out]; rfl, HA.out⟩

end Go.Proofs.Ytpabccmnhaelnaa

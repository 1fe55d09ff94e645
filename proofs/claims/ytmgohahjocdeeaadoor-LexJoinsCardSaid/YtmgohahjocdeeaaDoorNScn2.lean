/-
  Layer 4: name.Scan. By the verifier.
-/
import Derived.Test.YtmgohahjocdeeaaDoorNScan
set_option linter.unusedVariables false
namespace Go.Proofs.YtmgohahjocdeeaaDoor
open Go.RowKit

theorem scan_open {l : List Nat} {k : Nat} {q : Nat × List Nat × Bool} (hq : q = runM 1 [] false 0 (l.drop (k + 1))) (hc : q.2.2 = false) : scanIn l.length (body (l.drop (k + 1))) = ([], 0, 6) := by
  have h := (runs_all _ (l.drop (k + 1)) [] 0 (Nat.le_refl _) ⟨by simp, fun x hx => by cases hx⟩)
  rw [← hq] at h
  cases hb : body (l.drop (k + 1)) with
  | none => rfl
  | some p =>
    have := h.2 hc p.1 p.2 hb
    refine scanIn_bad ?_
    cases hn : nameB p.1 with
    | false => rfl
    | true => exact absurd (nameB_ok.1 hn).2 (by simpa using this)

theorem scan_empty {l : List Nat} {k : Nat} {q : Nat × List Nat × Bool} (hq : q = runM 1 [] false 0 (l.drop (k + 1))) (hc : q.2.2 = true) (h0 : q.2.1.length = 0) : scanIn l.length (body (l.drop (k + 1))) = ([], 0, 6) := by
  have h := (runs_all _ (l.drop (k + 1)) [] 0 (Nat.le_refl _) ⟨by simp, fun x hx => by cases hx⟩)
  rw [← hq] at h
  obtain ⟨n, r, hb, h1, -⟩ := h.1 hc
  rw [hb]
  refine scanIn_bad ?_
  rw [List.nil_append] at h1
  rw [← h1, List.eq_nil_of_length_eq_zero h0]
  rfl

theorem scan_full {l : List Nat} {k : Nat} (hk : k < l.length) {q : Nat × List Nat × Bool} (hq : q = runM 1 [] false 0 (l.drop (k + 1))) (hc : q.2.2 = true) (h0 : q.2.1.length ≠ 0) :
    scanIn l.length (body (l.drop (k + 1))) = (q.2.1, ((k : Int) + 1 + (q.1 : Int)), 0) ∧ k + 1 + q.1 ≤ l.length := by
  have h := (runs_all _ (l.drop (k + 1)) [] 0 (Nat.le_refl _) ⟨by simp, fun x hx => by cases hx⟩)
  rw [← hq] at h
  obtain ⟨n, r, hb, h1, h2, h3⟩ := h.1 hc
  rw [List.nil_append] at h1 h3
  rw [List.length_drop] at h2
  rw [hb, h1]
  rw [h1] at h0
  rw [scanIn_good (nameB_ok.2 ⟨fun e => h0 (by rw [e]; rfl), h3⟩)]
  refine ⟨?_, by omega⟩
  have : (l.length : Int) - (r.length : Int) = (k : Int) + 1 + (q.1 : Int) := by omega
  rw [this]

set_option maxHeartbeats 2000000 in
theorem scan_ok (s : ByteArray) (l : List Nat) (hs : Str s l) (hm : l.length ≤ maxLen) (x : Int) (w : World) :
    Calls Tryd.prog 76 #[.string s, .int .i64 x] w fun e w' => ScanIs (scanV l x) e ∧ Below w.heap.size w w' := by
  unfold maxLen at hm
  have hsz : (s.size : Int) = (l.length : Int) := by have := hs.size; omega
  by_cases h0 : x < 0
  · rw [scanV_neg h0]
    clear hs hsz hm
    go_enter Tryd.func76, Tryd.ntmps76
    go_wp2_with fail
    go_ret3
    exact ⟨rfl, Below.refl _ _⟩
  · obtain ⟨k, rfl⟩ : ∃ k : Nat, x = (k : Int) := ⟨x.toNat, by omega⟩
    by_cases h1 : l.length ≤ k
    · rw [scanV_past (by omega)]
      have c1 : (s.size : Int) ≤ (k : Int) := by omega
      clear hs hsz hm h1
      go_enter Tryd.func76, Tryd.ntmps76
      go_wp2_with fail
      go_ret3
      exact ⟨rfl, Below.refl _ _⟩
    · have hk : k < l.length := by omega
      have hi := hs.index hk
      have c1 : ¬ (s.size : Int) ≤ (k : Int) := by omega
      by_cases h2 : l.getD k 0 = 34
      · rw [scanV_in hk h2]
        rw [h2] at hi
        obtain ⟨t, ht, -⟩ := hs.from (k := k + 1) (by omega) w
        have hfrom : ∀ w, (Instr.slice 9 (.string s) (some (.int .i64 ((k : Int) + 1))) none none).run Tryd.prog w = .ok (.string t) w := fun w => by
          obtain ⟨t2, ht2, h3⟩ := hs.from (k := k + 1) (by omega) w
          rw [← ht2.ext ht]
          have e2 : ((k + 1 : Nat) : Int) = (k : Int) + 1 := by omega
          rw [← e2]
          exact h3
        have HC : Hid (∀ w0 : World, Scn w0 w.heap.size w.heap.size [] false → Calls Tryd.prog 83 #[.pointer (some ⟨w.heap.size, 0, none⟩), .string t] w0 fun e w' => RdRes w0 w.heap.size w.heap.size (runM 1 [] false 0 (l.drop (k + 1))) e w') := Lib.hid (fun w0 h0 => read_ok _ _ t _ ht (by simp; unfold maxLen; omega) w0 h0)
        have HK := Lib.hid hk
        have hkl : (k : Int) + 1 ≤ (s.size : Int) := by omega
        have hsb : (s.size : Int) ≤ 9223372036854775807 := by omega
        have HLS := Lib.hid hsz
        have HQ1 : Hid (∀ q, q = runM 1 [] false 0 (l.drop (k + 1)) → q.2.2 = false → scanIn l.length (body (l.drop (k + 1))) = ([], 0, 6)) := Lib.hid fun q hq => scan_open hq
        have HQ2 : Hid (∀ q, q = runM 1 [] false 0 (l.drop (k + 1)) → q.2.2 = true → q.2.1.length = 0 → scanIn l.length (body (l.drop (k + 1))) = ([], 0, 6)) := Lib.hid fun q hq => scan_empty hq
        have HQ3 : Hid (∀ q, q = runM 1 [] false 0 (l.drop (k + 1)) → q.2.2 = true → q.2.1.length ≠ 0 → scanIn l.length (body (l.drop (k + 1))) = (q.2.1, ((k : Int) + 1 + (q.1 : Int)), 0) ∧ k + 1 + q.1 ≤ l.length) := Lib.hid fun q hq => scan_full hk hq
        obtain ⟨q, hqe⟩ : ∃ q, q = runM 1 [] false 0 (l.drop (k + 1)) := ⟨_, rfl⟩
        have HE1 := Lib.hid (HQ1.out q hqe)
        have HE2 := Lib.hid (HQ2.out q hqe)
        have HE3 := Lib.hid (HQ3.out q hqe)
        rw [← hqe] at HC
        generalize scanIn l.length (body (l.drop (k + 1))) = R at *
        clear HQ1 HQ2 HQ3 hqe ht hs hsz hm h0 h1 h2 hk
        have HSC : Hid (Scn (w.alloc (.cells #[.slice none 0 0, .bool false] 115)) w.heap.size w.heap.size [] false) := Lib.hid ⟨.slice none 0 0, (Row.new w 115 2 (fun i => if i = 0 then .slice none 0 0 else .bool false)), own_empty _ _, by simp [Value.ownBlock], fun x hx => (by cases hx), Nat.le_refl _, by simp, by simp⟩
        have HA : Hid (Below w.heap.size w (w.alloc (.cells #[.slice none 0 0, .bool false] 115))) := Lib.hid ((Below.refl _ _).alloc (Nat.le_refl _) _)
        go_enter Tryd.func76, Tryd.ntmps76
        go_wp2_with fail
        refine (HC.out _ HSC.out).mono ?_
        rintro e w1 ⟨rfl, hsc, hb1⟩
        obtain ⟨A, n, ho, hy, hcell, hfr, hcell1, hfr1, hB, -⟩ := hsc.cells
        have hcv := conv_ok n hy
        have HB1 := Lib.hid (HA.out.trans hb1)
        clear hsc hb1 ho hy
        obtain ⟨n1, o1, c1'⟩ := q
        cases c1' with
        | false =>
          have HR := Lib.hid (HE1.out rfl)
          clear HE1 HE2 HE3
          go_wp2_with fail
          go_ret3
          rw [HR.out]
          exact ⟨rfl, HB1.out⟩
        | true =>
          by_cases hl0 : o1.length = 0
          · have HR := Lib.hid (HE2.out rfl hl0)
            replace hcell : w1.cell? ⟨w.heap.size, 0, none⟩ = some (.slice A o1.length n) := hcell
            rw [hl0] at hcell
            clear HE1 HE2 HE3 hcv hl0
            go_wp2_with fail
            go_ret3
            rw [HR.out]
            exact ⟨rfl, HB1.out⟩
          · obtain ⟨hR, hle⟩ := HE3.out rfl hl0
            have HR := Lib.hid hR
            replace hcell : w1.cell? ⟨w.heap.size, 0, none⟩ = some (.slice A o1.length n) := hcell
            have g0 : ((o1.length : Int) == 0) = false := by rw [beq_eq_false_iff_ne]; omega
            have hle2 : (k : Int) + 1 + (n1 : Int) ≤ 9223372036854775807 := by have : k + 1 + n1 ≤ l.length := hle; have := HLS.out; omega
            clear HE1 HE2 HE3 hl0 hR hle
            go_wp2_with fail
            go_ret3
            rw [HR.out]
            exact ⟨rfl, HB1.out⟩
      · rw [scanV_char h2]
        have g34 : (((l.getD k 0 : Nat) : Int) == 34) = false := by rw [beq_eq_false_iff_ne]; omega
        generalize l.getD k 0 = y at *
        clear hs hsz hm h1 h2
        go_enter Tryd.func76, Tryd.ntmps76
        go_wp2_with fail
        go_ret3
        exact ⟨rfl, Below.refl _ _⟩

end Go.Proofs.YtmgohahjocdeeaaDoor

/-
  Layer 4: the reference's Scan. By the verifier.
-/
import Derived.Test.YtmgohahjocdeeaaDoorNVal
set_option linter.unusedVariables false
namespace Go.Proofs.YtmgohahjocdeeaaDoor
open Go.RowKit

/-- What is answered behind the first quotation mark. -/
def scanIn (L : Nat) (o : Option (List Nat × List Nat)) : List Nat × Int × Int :=
  match o with
  | some (n, r) => if nameB n then (n, ((L : Int) - (r.length : Int)), 0) else ([], 0, 6)
  | none => ([], 0, 6)

theorem scanV_in {l : List Nat} {k : Nat} (hk : k < l.length) (hq : l.getD k 0 = 34) : scanV l (k : Int) = scanIn l.length (body (l.drop (k + 1))) := by
  unfold scanV
  rw [if_pos ⟨by omega, by omega, by rw [Int.toNat_natCast]; exact hq⟩, Int.toNat_natCast]
  rfl
theorem scanV_neg {l : List Nat} {x : Int} (h : x < 0) : scanV l x = ([], 0, 3) := if_neg (fun h1 => by omega)
theorem scanV_past {l : List Nat} {x : Int} (h : (l.length : Int) ≤ x) : scanV l x = ([], 0, 3) := if_neg (fun h1 => by omega)
theorem scanV_char {l : List Nat} {k : Nat} (h : l.getD k 0 ≠ 34) : scanV l (k : Int) = ([], 0, 3) := if_neg (fun h1 => h (by rw [Int.toNat_natCast] at h1; exact h1.2.2))

/-- The three results of a scan. -/
def ScanIs (r : List Nat × Int × Int) (e : Ending) : Prop := e = .returned (.tuple #[.string (strB r.1), .int .i64 r.2.1, .int .i64 r.2.2])

theorem scanIn_none (L : Nat) : scanIn L none = ([], 0, 6) := rfl
theorem scanIn_bad {L : Nat} {n r : List Nat} (h : nameB n = false) : scanIn L (some (n, r)) = ([], 0, 6) := by unfold scanIn; simp [h]
theorem scanIn_good {L : Nat} {n r : List Nat} (h : nameB n = true) : scanIn L (some (n, r)) = (n, ((L : Int) - (r.length : Int)), 0) := by unfold scanIn; simp [h]

theorem strB_nil : strB [] = ⟨#[]⟩ := rfl

set_option maxHeartbeats 2000000 in
theorem refscan_ok (s : ByteArray) (l : List Nat) (hs : Str s l) (hm : l.length ≤ maxLen) (x : Int) (w : World) :
    Calls Tryd.prog 29 #[.string s, .int .i64 x] w fun e w' => ScanIs (scanV l x) e ∧ w = w' := by
  unfold maxLen at hm
  have hsz : (s.size : Int) = (l.length : Int) := by have := hs.size; omega
  by_cases h0 : x < 0
  · rw [scanV_neg h0]
    clear hs hsz hm
    go_enter Tryd.func29, Tryd.ntmps29
    go_wp2_with fail
    go_ret3
    exact ⟨rfl, rfl⟩
  · obtain ⟨k, rfl⟩ : ∃ k : Nat, x = (k : Int) := ⟨x.toNat, by omega⟩
    by_cases h1 : l.length ≤ k
    · rw [scanV_past (by omega)]
      have c1 : (s.size : Int) ≤ (k : Int) := by omega
      clear hs hsz hm h1
      go_enter Tryd.func29, Tryd.ntmps29
      go_wp2_with fail
      go_ret3
      exact ⟨rfl, rfl⟩
    · have hk : k < l.length := by omega
      have hi := hs.index hk
      have c1 : ¬ (s.size : Int) ≤ (k : Int) := by omega
      by_cases h2 : l.getD k 0 = 34
      · rw [scanV_in hk h2]
        rw [h2] at hi
        have HZ := Lib.hid hsz
        have HS := Lib.hid hs
        clear hs hsz h1 h0 h2
        go_enter Tryd.func29, Tryd.ntmps29
        go_wp2_with fail
        go_loopw [7, 8] (fun v i wr => ∃ (j : Nat) (t : ByteArray) (o : List Nat), v = .string t ∧ j ≤ l.length ∧ i = .int .i64 (j : Int) ∧ Hid (Str t o ∧ body (l.drop (k + 1)) = bodyAt l j o ∧ o.length ≤ j) ∧ wr = w) (fun _ i _ => l.length - (intOf i).toNat)
        case atStart => exact ⟨k + 1, _, [], rfl, by omega, by go_num, Lib.hid ⟨Str.nil, by unfold bodyAt; simp, by simp⟩, rfl⟩
        case round =>
          obtain ⟨j, t, o, rfl, hj, rfl, ht, rfl⟩ := hrel
          clear hi
          by_cases hlt : j < l.length
          · have hi := HS.out.index hlt
            have hks : (j : Int) < (s.size : Int) := by have := HZ.out; omega
            by_cases h34 : l.getD j 0 = 34
            · rw [h34] at hi
              have HB := Lib.hid (ht.out.2.1.trans (bodyAt_quote o hlt h34))
              have HV := Lib.hid (refvalid_ok t o ht.out.1 (by have := ht.out.2.2; unfold maxLen; omega))
              have HD : Hid ((l.drop (j + 1)).length = l.length - (j + 1)) := Lib.hid (by simp)
              clear h34
              cases hv : nameB o with
              | false =>
                rw [hv] at HV
                have HR := Lib.hid (scanIn_bad (L := l.length) (r := l.drop (j + 1)) hv)
                rw [← HB.out] at HR
                clear hv HB
                go_wp2_with fail
                refine (HV.out _).mono ?_
                rintro e w1 ⟨rfl, rfl⟩
                go_wp2_with fail
                go_ret3
                rw [HR.out]
                exact ⟨rfl, rfl⟩
              | true =>
                rw [hv] at HV
                have HR := Lib.hid (scanIn_good (L := l.length) (r := l.drop (j + 1)) hv)
                rw [← HB.out, HD.out] at HR
                have HT := Lib.hid ht.out.1.1
                clear hv HB
                go_wp2_with fail
                refine (HV.out _).mono ?_
                rintro e w1 ⟨rfl, rfl⟩
                go_wp2_with fail
                go_ret3
                rw [HR.out]
                refine ⟨?_, rfl⟩
                unfold ScanIs
                rw [← HT.out]
                have e1 : (l.length : Int) - ((l.length - (j + 1) : Nat) : Int) = (j : Int) + 1 := by omega
                rw [e1]
                rfl
            · have g34 : (((l.getD j 0 : Nat) : Int) == 34) = false := by rw [beq_eq_false_iff_ne]; omega
              by_cases h92 : l.getD j 0 = 92
              · rw [h92] at hi g34
                by_cases hlt2 : j + 1 < l.length
                · have hi2 := HS.out.index hlt2
                  have ho := HS.out.one hlt2
                  have e2 : ((j + 1 : Nat) : Int) = (j : Int) + 1 := by omega
                  rw [e2] at hi2 ho
                  have hks2 : (j : Int) + 1 < (s.size : Int) := by have := HZ.out; omega
                  cases he : escB (l.getD (j + 1) 0) with
                  | false =>
                    have HR : Hid (scanIn l.length (body (l.drop (k + 1))) = ([], 0, 6)) := Lib.hid (by rw [ht.out.2.1.trans (bodyAt_esc_bad o hlt2 h92 he)]; rfl)
                    have hn34 : l.getD (j + 1) 0 ≠ 34 := fun e => by rw [e] at he; simp [escB] at he
                    have hn92 : l.getD (j + 1) 0 ≠ 92 := fun e => by rw [e] at he; simp [escB] at he
                    generalize l.getD (j + 1) 0 = y at *
                    have k34 : ((y : Int) == 34) = false := by rw [beq_eq_false_iff_ne]; omega
                    have k92 : ((y : Int) == 92) = false := by rw [beq_eq_false_iff_ne]; omega
                    have m34 : ¬ (y : Int) = 34 := by omega
                    have m92 : ¬ (y : Int) = 92 := by omega
                    have b34 : ((y : Int) != 34) = true := by rw [bne_iff_ne]; omega
                    have b92 : ((y : Int) != 92) = true := by rw [bne_iff_ne]; omega
                    clear he hn34 hn92 h34 h92
                    go_wp2_with fail
                    go_ret3
                    rw [HR.out]
                    exact ⟨rfl, rfl⟩
                  | true =>
                    have HB := Lib.hid (ht.out.2.1.trans (bodyAt_esc o hlt2 h92 he))
                    have HX := Lib.hid (HS.out.2.get (j + 1))
                    rcases (escB_iff _).1 he with hy | hy
                    all_goals
                      rw [hy] at HB HX ho hi2
                      generalize hoq : strB [_] = oq at ho
                      have HO : Hid (Str oq _) := Lib.hid ⟨hoq.symm, by intro z hz; simp at hz; omega⟩
                      have ha := ht.out.1.add HO.out (by have := ht.out.2.2; simp; omega)
                      have HK := Lib.hid (ht.out.1.join HO.out)
                      rw [← HK.out.1] at ha
                      generalize (t ++ oq : ByteArray) = t3 at *
                      clear he hy hoq h34 h92
                      go_wp2_with fail
                      go_roundw
                      case rel => exact ⟨j + 2, t3, _, rfl, by omega, by go_num, Lib.hid ⟨HK.out, HB.out, by have := ht.out.2.2; simp; omega⟩, by trivial⟩
                      case measure => simp [intOf]; omega
                · have hje : j + 1 = l.length := by omega
                  have hks2 : ¬ (j : Int) + 1 < (s.size : Int) := by have := HZ.out; omega
                  have HR : Hid (scanIn l.length (body (l.drop (k + 1))) = ([], 0, 6)) := Lib.hid (by rw [ht.out.2.1.trans (bodyAt_esc_end o hje h92)]; rfl)
                  clear hje h34 h92
                  go_wp2_with fail
                  go_ret3
                  rw [HR.out]
                  exact ⟨rfl, rfl⟩
              · have g92 : (((l.getD j 0 : Nat) : Int) == 92) = false := by rw [beq_eq_false_iff_ne]; omega
                have he : escB (l.getD j 0) = false := by rw [escB, decide_eq_false h34, decide_eq_false h92]; rfl
                have ho := HS.out.one hlt
                have HB := Lib.hid (ht.out.2.1.trans (bodyAt_plain o hlt he))
                have HX := Lib.hid (HS.out.2.get j)
                generalize l.getD j 0 = y at *
                have HO : Hid (Str (strB [y]) [y]) := Lib.hid ⟨rfl, by intro z hz; simp at hz; have := HX.out; omega⟩
                generalize strB [y] = oq at *
                have ha := ht.out.1.add HO.out (by have := ht.out.2.2; simp; omega)
                have HK := Lib.hid (ht.out.1.join HO.out)
                rw [← HK.out.1] at ha
                generalize (t ++ oq : ByteArray) = t3 at *
                clear he h34 h92
                go_wp2_with fail
                go_roundw
                case rel => exact ⟨j + 1, t3, _, rfl, by omega, by go_num, Lib.hid ⟨HK.out, HB.out, by have := ht.out.2.2; simp; omega⟩, by trivial⟩
                case measure => simp [intOf]; omega
          · have hks : ¬ (j : Int) < (s.size : Int) := by have := HZ.out; omega
            have hks2 : (s.size : Int) ≤ (j : Int) := by have := HZ.out; omega
            have HR : Hid (scanIn l.length (body (l.drop (k + 1))) = ([], 0, 6)) := Lib.hid (by rw [ht.out.2.1.trans (bodyAt_end o (by omega))]; rfl)
            clear hlt
            go_wp2_with fail
            go_ret3
            rw [HR.out]
            exact ⟨rfl, rfl⟩
      · rw [scanV_char h2]
        have g34 : (((l.getD k 0 : Nat) : Int) == 34) = false := by rw [beq_eq_false_iff_ne]; omega
        generalize l.getD k 0 = y at *
        clear hs hsz hm h1 h2
        go_enter Tryd.func29, Tryd.ntmps29
        go_wp2_with fail
        go_ret3
        exact ⟨rfl, rfl⟩

end Go.Proofs.YtmgohahjocdeeaaDoor

/-
  Layer 4: name.Sort. By the verifier.
-/
import Derived.Test.YtpabccmnhaelnaaNSts
import Derived.Test.YtpabccmnhaelnaaNOrd
import Derived.Lib.OwnBridge
import Derived.Sort.OwnSorted
import Derived.Sort.Grow
set_option linter.unusedVariables false
namespace Go.Proofs.Ytpabccmnhaelnaa
open Go.RowKit Go.Sort

/-- Sorted strings are handed back. -/
def SortRes (w : World) (zs : List ByteArray) (e : Ending) (w' : World) : Prop := ∃ B d, e = .returned (.slice B (sortZ zs).length d) ∧ Sts w' B (sortZ zs) ∧ Below w.heap.size w w'

theorem sorted_left {w w1 : World} {g cap n nn q : Nat} {os : Array Obj} {ss : List (List UInt8)} (hown : w1.ownsRow w.heap.size 9 1 (.slice (some ⟨g, 0, none⟩) n cap) n (ss.map encStr)) (hbel : Below w.heap.size w w1) (hbg : w.heap.size ≤ g) (hlen : ss.length = n) :
    (∃ B, (some ⟨g, 0, none⟩ : Option Addr) = B ∧ ∀ zs : List ByteArray, ss = zs.map (·.data.toList) → Sts (putRow encStr (Sort.ahead (grow (putRow encStr (Sort.ahead w1 nn) g 0 (ss.mergeSort fun x y => decide (x ≤ y)).toArray) os) q) g 0 (sortS ss ++ List.replicate (n - (sortS ss).length) []).toArray) B (sortZ zs)) ∧
      Below w.heap.size w (putRow encStr (Sort.ahead (grow (putRow encStr (Sort.ahead w1 nn) g 0 (ss.mergeSort fun x y => decide (x ≤ y)).toArray) os) q) g 0 (sortS ss ++ List.replicate (n - (sortS ss).length) []).toArray) := by
  have hl2 : (ss.mergeSort fun x y => decide (x ≤ y)).length = ss.length := List.length_mergeSort ss
  have hle := Lib.compact_length_le (ss.mergeSort fun x y => decide (x ≤ y))
  subst hlen
  rcases hown.2 with ⟨h0, _⟩ | ⟨g', cap', cur, hv, hbase, hb, h1, h2, h3, h4⟩
  · cases h0
  cases hv
  have hs := ownsRow_sorted (n := nn) (os := os) (ts := ss.mergeSort fun x y => decide (x ≤ y)) hl2 hbase hb h1 h2 h3
  have hc := Lib.ownsRow_putRow (q := q) (k := (sortS ss).length) (ys := sortS ss ++ List.replicate (ss.length - (sortS ss).length) []) hs (by unfold sortS; simp; omega) (by unfold sortS; omega)
  rw [List.take_left] at hc
  refine ⟨⟨_, rfl, fun zs hzs i hi => ?_⟩, Lib.below_putRow (hbel.grown (grownBy_sorted _) hbel.size (fun j hj => by cases hj; exact hbase)) hbg⟩
  have hz : sortZ zs = (sortS ss).map fun l => ⟨l.toArray⟩ := by unfold sortZ; rw [hzs]
  have hlz : (sortZ zs).length = (sortS ss).length := by rw [hz, List.length_map]
  refine ⟨g, 0, rfl, ?_, ?_⟩
  · rcases hc.2 with ⟨h0, _⟩ | ⟨g2, cap2, cur2, hv2, _, hg2, _⟩
    · cases h0
    · cases hv2
      rcases Nat.lt_or_ge g (putRow encStr (Sort.ahead (grow (putRow encStr (Sort.ahead w1 nn) g 0 (ss.mergeSort fun x y => decide (x ≤ y)).toArray) os) q) g 0 (sortS ss ++ List.replicate (ss.length - (sortS ss).length) []).toArray).heap.size with h | h
      · exact h
      · rw [Array.getElem?_eq_none h] at hg2; cases hg2
  · rw [Nat.zero_add, World.ownsRow.cellAt hc i (by omega)]
    have hi2 : i < (sortS ss).length := by omega
    rw [hz]
    simp [List.getD, hi2, encStr]

set_option maxHeartbeats 2000000 in
set_option maxRecDepth 100000 in
theorem sort_tail (n : Nat) (arg : Value) (zs : List ByteArray) (w : World) (hn : n ≤ 1000000) (hzn : zs.length = n)
    (hclone : Calls Try.prog 25 #[arg] w fun e w' => ∃ v', e = .returned v' ∧ w'.ownsRow w.heap.size 9 1 v' n (zs.map Value.string) ∧ v' ≠ .slice none 0 0 ∧ Below w.heap.size w w') :
    Calls Try.prog 19 #[arg] w (SortRes w zs) := by
  obtain ⟨ss, hss⟩ : ∃ ss, ss = zs.map (·.data.toList) := ⟨_, rfl⟩
  have HC : Hid (Calls Try.prog 25 #[arg] w fun e w' => ∃ g cap, e = .returned (.slice (some ⟨g, 0, none⟩) n cap) ∧ w'.ownsRow w.heap.size 9 1 (.slice (some ⟨g, 0, none⟩) n cap) n (ss.map encStr) ∧ Below w.heap.size w w' ∧ w.heap.size ≤ g ∧ g < w'.heap.size ∧ n ≤ cap ∧ cap ≤ maxLen ∧ ss.length = n ∧ Holds encStr w' g 0 ss.toArray) := Lib.hid (hclone.mono fun e w' ⟨v', he, hown, hnn, hbel⟩ => by
    rw [← Lib.map_encStr, ← hss] at hown
    obtain ⟨g, cap, rfl, hbg, hgl, hncap, hcm, hlen, hH⟩ := Lib.holds_of_ownsRow hown hnn
    exact ⟨g, cap, he, hown, hbel, hbg, hgl, hncap, hcm, hlen, hH⟩)
  have HSS := Lib.hid hss
  clear hclone hss hzn
  go_enter Try.func19, Try.ntmps19
  go_wp2_with fail
  refine HC.out.mono ?_
  rintro e w1 ⟨g, cap, rfl, hown, hbel, hbg, hgl, hncap, hcm, hlen, hH⟩
  have hsort := Try.slices_Sort_string g 0 cap ss w1 hH hgl (by omega)
  rw [hlen] at hsort
  have HS := Lib.hid hsort
  have X := Lib.hid (And.intro hown (And.intro hbel (And.intro hbg (And.intro hgl (And.intro hncap (And.intro hcm (And.intro hlen hH)))))))
  clear hown hbel hbg hgl hncap hcm hlen hH hsort HC
  go_wp2_with fail
  refine HS.out.mono ?_
  rintro e w2 ⟨rfl, nn, os, hw2⟩
  have hl2 : (ss.mergeSort fun x y => decide (x ≤ y)).length = n := by rw [List.length_mergeSort]; exact X.out.2.2.2.2.2.2.1
  have hH2 : Holds encStr (grow (putRow encStr (Sort.ahead w1 nn) g 0 (ss.mergeSort fun x y => decide (x ≤ y)).toArray) os) g 0 (ss.mergeSort fun x y => decide (x ≤ y)).toArray :=
    holds_grow encStr _ os g 0 _ (by simpa [putRow, mapBlock, Sort.ahead] using X.out.2.2.2.1) (holds_putRow encStr _ g 0 _ _ (holds_ahead encStr w1 nn g 0 _ X.out.2.2.2.2.2.2.2) (by simp))
  rw [← hw2] at hH2
  have hcomp := Try.slices_Compact_string g 0 cap (ss.mergeSort fun x y => decide (x ≤ y)) w2 hH2 (by omega) (by have := X.out.2.2.2.2.1; omega)
  rw [hl2] at hcomp
  have hres := fun q => sorted_left (nn := nn) (os := os) (q := q) X.out.1 X.out.2.1 X.out.2.2.1 X.out.2.2.2.2.2.2.1
  rw [← hw2] at hres
  have hsl : (sortZ zs).length = (Lib.compact (ss.mergeSort fun x y => decide (x ≤ y))).length := by unfold sortZ; rw [List.length_map, ← HSS.out]; rfl
  have HCO : Hid (Calls Try.prog 27 #[.slice (some ⟨g, 0, none⟩) n cap] w2 (SortRes w zs)) := Lib.hid (hcomp.mono fun e w' ⟨he, q, hw'⟩ => by
    obtain ⟨⟨B, hB, h1⟩, h2⟩ := hres q
    refine ⟨some ⟨g, 0, none⟩, cap, by rw [he, hsl], ?_, ?_⟩
    · rw [hw', hB]
      exact h1 zs HSS.out
    · rw [hw']
      exact h2)
  clear hcomp hres hH2 hl2 hw2 hsl HS X
  go_wp2_with fail
  refine HCO.out.mono ?_
  rintro e w3 ⟨B, d, rfl, h1, h2⟩
  have H3 := Lib.hid (And.intro h1 h2)
  clear h1 h2
  generalize hL : (sortZ zs).length = L
  go_wp2_with fail
  go_ret
  exact ⟨B, d, by rw [hL]; rfl, H3.out⟩

theorem sort_nil (c : Nat) (w : World) : Calls Try.prog 19 #[.slice none 0 c] w (SortRes w []) := by
  have HC := Lib.hid (Try.slices_Clone_string_nil 0 c w)
  have HS := Lib.hid (Try.slices_Sort_string_none none 0 w)
  have HO := Lib.hid (Try.slices_Compact_string_empty none 0 w)
  go_enter Try.func19, Try.ntmps19
  go_wp2_with fail
  refine HC.out.mono ?_
  rintro e w1 ⟨rfl, rfl⟩
  go_wp2_with fail
  refine HS.out.mono ?_
  rintro e w1 ⟨rfl, rfl⟩
  go_wp2_with fail
  refine HO.out.mono ?_
  rintro e w1 ⟨rfl, rfl⟩
  go_wp2_with fail
  go_ret
  have hz : (sortZ []).length = 0 := by
    have := sortZ_len []
    rw [List.length_nil] at this
    omega
  exact ⟨none, 0, by rw [hz]; rfl, (fun i hi => absurd hi (by rw [hz]; omega)), Below.refl _ _⟩

theorem sort_ok (A : Option Addr) (zs : List ByteArray) (c : Nat) (w : World) (h : Sts w A zs) (hlen : zs.length ≤ 1000000) :
    Calls Try.prog 19 #[.slice A zs.length c] w (SortRes w zs) := by
  rcases Nat.eq_zero_or_pos zs.length with h0 | h0
  · obtain rfl : zs = [] := List.eq_nil_of_length_eq_zero h0
    cases A with
    | none => exact sort_nil c w
    | some a => exact sort_tail 0 _ [] w (by omega) rfl (Try.slices_Clone_string_zero a c w)
  · obtain ⟨b, o, rfl, hb, hc⟩ := h.some h0
    refine sort_tail zs.length _ zs w hlen rfl ((Try.slices_Clone_string b o zs.length c zs w (Nat.le_refl _) (by omega) hc).mono fun e w' ⟨v', he, hown, hnn, hbel⟩ => ⟨v', he, ?_, hnn, hbel⟩)
    rw [List.take_length] at hown
    exact hown

end Go.Proofs.Ytpabccmnhaelnaa

/-
  slices.Sort at []uint16: what the rounds of pdqsort do to a range, in plain words. By the verifier.
-/
import Derived.Test.YthdagjlgfffpbaaGreatSU6
import Derived.Test.YthdagjlgfffpbaaGreatPNst
set_option linter.unusedVariables false
namespace Go.Proofs.YthdagjlgfffpbaaGreat.SU
open Go.RowKit Go.Sort

theorem lt_false {x y : Int} : ltInt x y = false ↔ y ≤ x := by unfold ltInt; rw [decide_eq_false_iff_not]; omega
theorem lt_true {x y : Int} : ltInt x y = true ↔ x < y := by unfold ltInt; rw [decide_eq_true_eq]

/-- Nothing in the range is less than what stands ahead of it. -/
abbrev Bel (a b : Nat) (d : Array Int) : Prop := Sort.Below ltInt a b d

/-- The range a' .. b' is what is still to be sorted of the range a .. b. -/
def Goal (a b a' b' : Nat) (dk : Array Int) : Prop := ∀ d', PermIn a' b' dk d' → SortedIn ltInt a' b' d' → SortedIn ltInt a b d'

/-- The state of a round. -/
structure Rd (a b : Nat) (d : Array Int) (a' b' : Nat) (dk : Array Int) : Prop where
  aa : a ≤ a'
  ab : a' ≤ b'
  bb : b' ≤ b
  bs : b ≤ d.size
  perm : PermIn a b d dk
  bel : Bel a' b' dk
  goal : Goal a b a' b' dk

theorem Rd.start {a b : Nat} {d : Array Int} (hab : a ≤ b) (hb : b ≤ d.size) (h : Bel a b d) : Rd a b d a b d := ⟨Nat.le_refl _, hab, Nat.le_refl _, hb, permIn_refl d a b, h, fun _ _ hs => hs⟩
theorem Rd.size {a b a' b' : Nat} {d dk : Array Int} (h : Rd a b d a' b' dk) : dk.size = d.size := h.perm.1
theorem Rd.turn {a b a' b' : Nat} {d dk d1 : Array Int} (h : Rd a b d a' b' dk) (hp : PermIn a' b' dk d1) : Rd a b d a' b' d1 :=
  ⟨h.aa, h.ab, h.bb, h.bs, permIn_trans _ _ _ a b h.perm (permIn_mono dk d1 a' b' a b h.aa h.bb (by rw [h.size]; exact h.bs) hp), Below.perm h.bel (by rw [h.size]; have := h.bb; have := h.bs; omega) hp, fun d' h1 h2 => h.goal d' (permIn_trans _ _ _ a' b' hp h1) h2⟩
theorem Rd.done {a b a' b' : Nat} {d dk d1 : Array Int} (h : Rd a b d a' b' dk) (hp : PermIn a' b' dk d1) (hs : SortedIn ltInt a' b' d1) : PermIn a b d d1 ∧ SortedIn ltInt a b d1 :=
  ⟨(h.turn hp).perm, h.goal d1 hp hs⟩

theorem all_ge {a b : Nat} {d d' : Array Int} (hb : b ≤ d.size) (hp : PermIn a b d d') (P : Int → Prop) (h : ∀ i, a ≤ i → i < b → P d[i]!) : ∀ i, a ≤ i → i < b → P d'[i]! := permIn_all d d' a b P hb hp h

/-- Behind partitionEqual. -/
theorem Rd.even {a b a' b' mid pv : Nat} {d dk d4 : Array Int} (h : Rd a b d a' b' dk) (h0 : 0 < a') (hp : a' ≤ pv ∧ pv < b') (hl : dk[pv]! ≤ dk[a' - 1]!) (he : Evened dk a' b' mid dk[pv]! d4) : Rd a b d mid b' d4 ∧ a' < mid := by
  have hbs : b' ≤ dk.size := by rw [h.size]; have := h.bb; have := h.bs; omega
  have h4 := h.turn he.perm
  obtain ⟨P, hP⟩ : ∃ P, P = dk[pv]! := ⟨_, rfl⟩
  have e1 := he.lo
  have e2 := he.hi
  rw [← hP] at hl e1 e2
  have hge : ∀ i, a' ≤ i → i < b' → P ≤ dk[i]! := fun i h1 h2 => by
    rcases h.bel with hz | hz
    · omega
    · have := lt_false.1 (hz i h1 h2)
      omega
  have hge4 := all_ge hbs he.perm (fun x => P ≤ x) hge
  have am := he.am
  have mb := he.mb
  refine ⟨⟨by have := h.aa; omega, mb, h.bb, h.bs, h4.perm, Or.inr fun i h1 h2 => ?_, fun d' hp' hs' => ?_⟩, am⟩
  · have x1 := lt_false.1 (e1 (mid - 1) (by omega) (by omega))
    have x2 := lt_true.1 (e2 i h1 h2)
    exact lt_false.2 (by omega)
  · have hs4 : b' ≤ d4.size := by rw [he.perm.1]; exact hbs
    have hr := all_ge hs4 hp' (fun x => P < x) (fun i h1 h2 => lt_true.1 (e2 i h1 h2))
    refine h4.goal d' (permIn_mono d4 d' mid b' a' b' (by omega) (Nat.le_refl _) hs4 hp') fun i j h1 h2 h3 => ?_
    by_cases hi : i < mid
    · have xi : d'[i]! = d4[i]! := hp'.2.1 i (Or.inl hi)
      have x1 := lt_false.1 (e1 i h1 hi)
      by_cases hj : j < mid
      · have xj : d'[j]! = d4[j]! := hp'.2.1 j (Or.inl hj)
        have x2 := hge4 j (by omega) (by omega)
        exact lt_false.2 (by rw [xi, xj]; omega)
      · have x2 := hr j (by omega) h3
        exact lt_false.2 (by rw [xi]; omega)
    · exact hs' i j (by omega) h2 h3

theorem glue {a b mid : Nat} {d : Array Int} (h1 : SortedIn ltInt a mid d) (h2 : SortedIn ltInt (mid + 1) b d) (hl : ∀ i, a ≤ i → i < mid → d[i]! < d[mid]!) (hr : ∀ j, mid < j → j < b → d[mid]! ≤ d[j]!) : SortedIn ltInt a b d := by
  intro i j hi hij hj
  by_cases him : i < mid
  · have x1 := hl i hi him
    by_cases hjm : j < mid
    · exact h1 i j hi hij hjm
    · by_cases e : j = mid
      · subst e
        exact lt_false.2 (by omega)
      · have x2 := hr j (by omega) hj
        exact lt_false.2 (by omega)
  · by_cases e : i = mid
    · subst e
      exact lt_false.2 (hr j hij hj)
    · exact h2 i j (by omega) hij hj

/-- Behind partition, the left part sorted. -/
theorem Rd.left {a b a' b' mid : Nat} {d dk d4 d5 : Array Int} (h : Rd a b d a' b' dk) (he : Parted dk a' b' mid d4) (hp : PermIn a' mid d4 d5) (hs : SortedIn ltInt a' mid d5) : Rd a b d (mid + 1) b' d5 := by
  have hbs : b' ≤ dk.size := by rw [h.size]; have := h.bb; have := h.bs; omega
  have h4 := h.turn he.perm
  have hs4 : b' ≤ d4.size := by rw [he.perm.1]; exact hbs
  have am := he.am
  have mb := he.mb
  have hp5 : PermIn a' b' d4 d5 := permIn_mono d4 d5 a' mid a' b' (Nat.le_refl _) (by omega) hs4 hp
  have h5 := h4.turn hp5
  have xm : d5[mid]! = d4[mid]! := hp.2.1 mid (Or.inr (Nat.le_refl _))
  have xl := all_ge (by omega) hp (fun x => x < d4[mid]!) (fun i h1 h2 => lt_true.1 (he.lo i h1 h2))
  have xr : ∀ j, mid < j → j < b' → d4[mid]! ≤ d5[j]! := fun j h1 h2 => by rw [hp.2.1 j (Or.inr (by omega))]; exact lt_false.1 (he.hi j h1 h2)
  refine ⟨by have := h.aa; omega, by omega, h.bb, h.bs, h5.perm, Or.inr fun i h1 h2 => ?_, fun d' hp' hs' => ?_⟩
  · rw [Nat.add_sub_cancel, xm]
    exact lt_false.2 (xr i (by omega) h2)
  · have hs5 : b' ≤ d5.size := by rw [hp.1]; exact hs4
    refine h5.goal d' (permIn_mono d5 d' (mid + 1) b' a' b' (by omega) (Nat.le_refl _) hs5 hp') (glue (mid := mid) (fun i j h1 h2 h3 => ?_) hs' (fun i h1 h2 => ?_) fun j h1 h2 => ?_)
    · rw [hp'.2.1 i (Or.inl (by omega)), hp'.2.1 j (Or.inl (by omega))]
      exact hs i j h1 h2 h3
    · rw [hp'.2.1 i (Or.inl (by omega)), hp'.2.1 mid (Or.inl (by omega)), xm]
      exact xl i h1 h2
    · rw [hp'.2.1 mid (Or.inl (by omega)), xm]
      exact all_ge hs5 hp' (fun x => d4[mid]! ≤ x) (fun i h1 h2 => xr i (by omega) h2) j (by omega) h2

/-- Behind partition, the right part sorted. -/
theorem Rd.right {a b a' b' mid : Nat} {d dk d4 d5 : Array Int} (h : Rd a b d a' b' dk) (he : Parted dk a' b' mid d4) (hp : PermIn (mid + 1) b' d4 d5) (hs : SortedIn ltInt (mid + 1) b' d5) : Rd a b d a' mid d5 := by
  have hbs : b' ≤ dk.size := by rw [h.size]; have := h.bb; have := h.bs; omega
  have h4 := h.turn he.perm
  have hs4 : b' ≤ d4.size := by rw [he.perm.1]; exact hbs
  have am := he.am
  have mb := he.mb
  have hp5 : PermIn a' b' d4 d5 := permIn_mono d4 d5 (mid + 1) b' a' b' (by omega) (Nat.le_refl _) hs4 hp
  have h5 := h4.turn hp5
  have xm : d5[mid]! = d4[mid]! := hp.2.1 mid (Or.inl (by omega))
  have xl : ∀ i, a' ≤ i → i < mid → d5[i]! < d4[mid]! := fun i h1 h2 => by rw [hp.2.1 i (Or.inl (by omega))]; exact lt_true.1 (he.lo i h1 h2)
  have xr := all_ge hs4 hp (fun x => d4[mid]! ≤ x) (fun j h1 h2 => lt_false.1 (he.hi j (by omega) h2))
  refine ⟨h.aa, am, by have := h.bb; omega, h.bs, h5.perm, Below.mono h5.bel (by omega), fun d' hp' hs' => ?_⟩
  have hs5 : b' ≤ d5.size := by rw [hp.1]; exact hs4
  refine h5.goal d' (permIn_mono d5 d' a' mid a' b' (Nat.le_refl _) (by omega) hs5 hp') (glue (mid := mid) hs' (fun i j h1 h2 h3 => ?_) (fun i h1 h2 => ?_) fun j h1 h2 => ?_)
  · rw [hp'.2.1 i (Or.inr (by omega)), hp'.2.1 j (Or.inr (by omega))]
    exact hs i j h1 h2 h3
  · rw [hp'.2.1 mid (Or.inr (Nat.le_refl _)), xm]
    exact all_ge (by omega) hp' (fun x => x < d4[mid]!) xl i h1 h2
  · rw [hp'.2.1 mid (Or.inr (Nat.le_refl _)), xm, hp'.2.1 j (Or.inr (by omega))]
    exact xr j (by omega) h2

theorem Rd.leftBel {a b a' b' mid : Nat} {d dk d4 : Array Int} (h : Rd a b d a' b' dk) (he : Parted dk a' b' mid d4) : Bel a' mid d4 := Below.mono (h.turn he.perm).bel (by have := he.mb; omega)
theorem Rd.rightBel {a b a' b' mid : Nat} {d dk d4 : Array Int} (h : Rd a b d a' b' dk) (he : Parted dk a' b' mid d4) : Bel (mid + 1) b' d4 := Or.inr fun i h1 h2 => by rw [Nat.add_sub_cancel]; exact he.hi i (by omega) h2

end Go.Proofs.YthdagjlgfffpbaaGreat.SU

/-
  slices.Sort at []uint16: pdqsortOrdered, and Sort. By the verifier.
-/
set_option linter.unusedVariables false
namespace Go.Proofs.YthdagjlgfffpbaaGreat.SU
open Go.RowKit Go.Sort

set_option maxHeartbeats 16000000 in
set_option maxRecDepth 100000 in
theorem pdq_ok {w0 : World} {blk off m : Nat} : ∀ (n : Nat) (a b : Nat), a ≤ b → b - a = n → ∀ (d : Array Int) {w : World}, Rw w blk off m d w → ∀ (cap : Nat), b ≤ d.size → d.size ≤ 1000 → Bel a b d → ∀ (l : Nat), l ≤ 1000000 →
    Calls Tryz.prog 71 #[.slice (some ⟨blk, off, none⟩) d.size cap, .int .i64 (a : Int), .int .i64 (b : Int), .int .i64 (l : Int)] w fun e w' => e = .returned (.tuple #[]) ∧ ∃ d', Rw w blk off m d' w' ∧ PermIn a b d d' ∧ SortedIn ltInt a b d' := by
  intro n
  induction n using Nat.strongRecOn with
  | ind n ih =>
  intro a b hab hN d w h cap hb hn hbel l hl
  have IH := Lib.hid ih
  have H := Lib.hid h
  have HR0 := Lib.hid (Rd.start hab hb hbel)
  clear ih h hbel
  go_enter Tryz.func71, Tryz.ntmps71
  go_wp2_with fail
  go_loopw [1, 2, 3, 8, 9] (fun va vb vl v8 v9 wr => ∃ (a' b' : Nat) (dk : Array Int) (l' : Nat) (t8 t9 : Bool), va = .int .i64 (a' : Int) ∧ vb = .int .i64 (b' : Int) ∧ vl = .int .i64 (l' : Int) ∧ v8 = .bool t8 ∧ v9 = .bool t9 ∧ l' ≤ 1000000 ∧ Hid (Rw w blk off m dk wr ∧ Rd a b d a' b' dk)) (fun va vb vl v8 v9 _ => (intOf vb - intOf va).toNat)
  case atStart => exact ⟨a, b, d, l, true, true, rfl, rfl, rfl, rfl, rfl, hl, Lib.hid ⟨H.out, HR0.out⟩⟩
  case round =>
    clear hl
    obtain ⟨a', b', dk, l', t8, t9, rfl, rfl, rfl, rfl, rfl, hl, ho⟩ := hrel
    have HW := Lib.hid ho.out.1
    have HRD := Lib.hid ho.out.2
    have hsk : dk.size = d.size := ho.out.2.size
    have HSK := Lib.hid hsk
    have hab' := ho.out.2.ab
    have hbd' : b' ≤ d.size := by have := ho.out.2.bb; omega
    clear ho
    by_cases h12 : b' - a' ≤ 12
    · have hk12 : (b' : Int) - (a' : Int) ≤ 12 := by omega
      have HI := Lib.hid (insertion_ok HW.out.self cap a' b' hab' (by rw [hsk]; exact hbd') (by rw [hsk]; exact hn))
      rw [hsk] at HI
      have HQ := Lib.hid (insertionSort_holds swo_ltInt dk a' b' hab' (by rw [hsk]; exact hbd'))
      go_wp2_with (go_at_call 93; refine HI.out.mono ?_; rintro e w1 ⟨rfl, hr1⟩; have HW1 := Lib.hid hr1; clear hr1)
      first | go_end0 | refine bodyPost_ret (results_none rfl _ _ _) rfl ?_
      exact ⟨rfl, _, HW.out.comp HW1.out, HRD.out.done HQ.out.1 HQ.out.2⟩
    · have hk12 : ¬ (b' : Int) - (a' : Int) ≤ 12 := by omega
      have HAB : Hid (a' + 12 < b' ∧ b' ≤ d.size) := Lib.hid (by omega)
      by_cases hl0 : l' = 0
      · subst hl0
        have HI := Lib.hid (heap_ok HW.out.self cap a' b' (by omega) (by rw [hsk]; exact hbd') (by rw [hsk]; exact hn))
        rw [hsk] at HI
        have HQ := Lib.hid (heapSort_holds swo_ltInt dk a' b' hab' (by rw [hsk]; exact hbd'))
        have hz : ((0 : Nat) : Int) = 0 := rfl
        rw [hz]
        go_wp2_with (go_at_call 94; refine HI.out.mono ?_; rintro e w1 ⟨rfl, hr1⟩; have HW1 := Lib.hid hr1; clear hr1)
        first | go_end0 | refine bodyPost_ret (results_none rfl _ _ _) rfl ?_
        exact ⟨rfl, _, HW.out.comp HW1.out, HRD.out.done HQ.out.1 HQ.out.2⟩
      · have hkl0 : ¬ (l' : Int) = 0 := by omega
        have hkl1 : ((l' : Int) == 0) = false := by simpa using hl0
        go_upto_if 35 with fail
        go_cut [3] from 19 to 133 (fun s3 wx => ∃ l2 : Nat, s3 = .int .i64 (l2 : Int) ∧ l2 ≤ 1000000 ∧ Hid (∃ d1, Rw w blk off m d1 wx ∧ Rd a b d a' b' d1))
        case first =>
          cases t8 with
          | true =>
            go_wp2_with fail
            go_meet
            exact ⟨l', rfl, hl, Lib.hid ⟨dk, HW.out, HRD.out⟩⟩
          | false =>
            have HBR := Lib.hid (break_ok HW.out.self cap a' b' HAB.out.1 (by rw [hsk]; exact hbd') (by rw [hsk]; exact hn))
            rw [hsk] at HBR
            obtain ⟨l1, hl1⟩ : ∃ l1, l' = l1 + 1 := ⟨l' - 1, by omega⟩
            have hl1i : (l' : Int) - 1 = (l1 : Int) := by omega
            have HL1 := Lib.hid hl1
            clear hl1
            go_wp2_with (go_at_call 95; refine HBR.out.mono ?_; rintro e w1 ⟨rfl, d1, hw1, hp1⟩; have HB1 := Lib.hid (And.intro hw1 hp1); clear hw1 hp1)
            go_meet
            exact ⟨l1, rfl, by have := HL1.out; omega, Lib.hid ⟨d1, HW.out.comp HB1.out.1, HRD.out.turn HB1.out.2⟩⟩
        case rest =>
          clear HW HRD hsk HSK hl0 hkl0 hkl1 hl
          obtain ⟨l2, rfl, hl2, hc⟩ := hcut
          obtain ⟨d1, hw1, hr1⟩ := hc.out
          have HW := Lib.hid hw1
          have HRD := Lib.hid hr1
          have HS1 := Lib.hid hr1.size
          clear hc hw1 hr1
          have HCH := Lib.hid (choose_ok HW.out.self cap a' b' HAB.out.1 (by rw [HS1.out]; exact HAB.out.2) (by rw [HS1.out]; exact hn))
          rw [HS1.out] at HCH
          go_upto_if 50 with (go_at_call 96; refine HCH.out.mono ?_; rintro e w2 ⟨p, t, rfl, ht, hp, hw2⟩; have HP := Lib.hid (And.intro ht hp); have HW2 := Lib.hid (HW.out.comp hw2); clear ht hp hw2)
          go_cut [11, 12] from 19 to 133 (fun s11 s12 wx => ∃ (p : Nat) (t : Int), s11 = .int .i64 (p : Int) ∧ s12 = .int .i64 t ∧ Hid (a' ≤ p ∧ p < b') ∧ Hid (∃ d2, Rw w blk off m d2 wx ∧ Rd a b d a' b' d2))
          case first =>
            by_cases ht2 : t = 2
            · subst ht2
              have HRV := Lib.hid (reverse_ok HW2.out.self cap a' b' (by omega) (by rw [HS1.out]; exact HAB.out.2) (by rw [HS1.out]; exact hn))
              rw [HS1.out] at HRV
              obtain ⟨q, hq⟩ : ∃ q, q = (b' - 1) - (p - a') := ⟨_, rfl⟩
              have hqi : (b' : Int) - 1 - ((p : Int) - (a' : Int)) = (q : Int) := by have := HP.out; omega
              have HQ : Hid (a' ≤ q ∧ q < b') := Lib.hid (by have := HP.out; omega)
              have hp1 : (0 : Int) ≤ (p : Int) - (a' : Int) := by have := HP.out; omega
              have hp2 : (p : Int) ≤ 1000 := by have := HP.out; omega
              clear hq
              go_wp2_with (go_at_call 97; refine HRV.out.mono ?_; rintro e w3 ⟨rfl, d2, hw3, hp3⟩; have HR3 := Lib.hid (And.intro hw3 hp3); clear hw3 hp3)
              go_meet
              exact ⟨q, 1, rfl, rfl, HQ, Lib.hid ⟨d2, HW2.out.comp HR3.out.1, HRD.out.turn HR3.out.2⟩⟩
            · have hkt : (t == 2) = false := by simpa using ht2
              go_wp2_with fail
              go_meet
              exact ⟨p, t, rfl, rfl, Lib.hid HP.out.2, Lib.hid ⟨d1, HW2.out, HRD.out⟩⟩
          case rest =>
            clear HW HW2 HRD HS1 HCH HP
            obtain ⟨p, t, rfl, rfl, HP, hc⟩ := hcut
            obtain ⟨d2, hw2, hr2⟩ := hc.out
            have HW := Lib.hid hw2
            have HRD := Lib.hid hr2
            have HS2 := Lib.hid hr2.size
            clear hc hw2 hr2
            go_upto_region 15 with fail
            go_cut [68] from 19 to 133 (fun sv wx => sv = .bool (t8 && (t9 && (t == 1))) ∧ Hid (Rw w blk off m d2 wx))
            case first =>
              cases t8 with
              | false =>
                go_wp2_with fail
                go_meet
                exact ⟨rfl, HW⟩
              | true =>
                cases t9 with
                | false =>
                  go_wp2_with fail
                  go_meet
                  exact ⟨rfl, HW⟩
                | true =>
                  go_wp2_with fail
                  go_meet
                  exact ⟨rfl, HW⟩
            case rest =>
            clear HW
            obtain ⟨rfl, HW⟩ := hcut
            obtain ⟨w2b, hw2b⟩ : ∃ w2b, w2b = wc := ⟨_, rfl⟩
            rw [← hw2b] at HW ⊢
            clear hw2b
            generalize (t8 && (t9 && (t == 1))) = C
            go_upto_if 68 with fail
            go_cut [3] from 19 to 133 (fun s3 wx => s3 = .int .i64 (l2 : Int) ∧ Hid (∃ d3, Rw w blk off m d3 wx ∧ Rd a b d a' b' d3))
            case first =>
              cases C with
              | true =>
                have HPA := Lib.hid (partial_ok HW.out.self cap a' b' (by omega) (by rw [HS2.out]; exact HAB.out.2) (by rw [HS2.out]; exact hn))
                rw [HS2.out] at HPA
                have HQ := Lib.hid (partialInsertionSort_holds swo_ltInt d2 a' b' (by omega) (by rw [HS2.out]; exact HAB.out.2) HRD.out.bel)
                generalize hR : partialInsertionSort ltInt d2 a' b' = R at HPA HQ
                obtain ⟨d3, done⟩ := R
                cases done with
                | true =>
                  go_wp2_with (go_at_call 98; refine HPA.out.mono ?_; rintro e w3 ⟨rfl, hw3⟩; have HW3 := Lib.hid hw3; clear hw3)
                  first | go_end0 | refine bodyPost_ret (results_none rfl _ _ _) rfl ?_
                  exact ⟨rfl, _, HW.out.comp HW3.out, HRD.out.done HQ.out.1 (HQ.out.2 (by first | trivial | rfl))⟩
                | false =>
                  go_wp2_with (go_at_call 98; refine HPA.out.mono ?_; rintro e w3 ⟨rfl, hw3⟩; have HW3 := Lib.hid hw3; clear hw3)
                  go_meet
                  exact ⟨rfl, Lib.hid ⟨_, HW.out.comp HW3.out, HRD.out.turn HQ.out.1⟩⟩
              | false =>
                go_wp2_with fail
                go_meet
                exact ⟨rfl, Lib.hid ⟨d2, HW.out, HRD.out⟩⟩
            case rest =>
              clear HW HRD HS2
              obtain ⟨rfl, hc⟩ := hcut
              obtain ⟨d3, hw3, hr3⟩ := hc.out
              have HW := Lib.hid hw3
              have HRD := Lib.hid hr3
              have HS3 := Lib.hid hr3.size
              clear hc hw3 hr3
              obtain ⟨G, hG⟩ : ∃ G : Nat → Int, ∀ t, G t = d3[t]! := ⟨fun t => d3[t]!, fun _ => rfl⟩
              have HG := Lib.hid hG
              clear hG
              obtain ⟨w3, hw3⟩ : ∃ w3, w3 = wc := ⟨_, rfl⟩
              rw [← hw3] at HW ⊢
              clear hw3
              have hcw : ∀ t, t < d.size → w3.cell? ⟨blk, off + t, none⟩ = some (.int .u16 (G t)) := fun t ht => by rw [HG.out]; exact HW.out.cell (by rw [HS3.out]; exact ht)
              have hpl : p < d.size := by have := HP.out; omega
              have hal : a' < d.size := by omega
              go_upto_region 17 with fail
              go_cut [87] from 19 to 133 (fun sv wx => ∃ B : Bool, sv = .bool B ∧ Hid ((B = true → 0 < a' ∧ G p ≤ G (a' - 1)) ∧ Rw w blk off m d3 wx))
              case first =>
                by_cases ha0 : 0 < a'
                · have hka0 : (0 : Int) < (a' : Int) := by omega
                  go_quiet (first | (go_at_call 99; refine Calls.quiet_of_same (less_ok _ _ _)))
                  go_wp2_with fail
                  go_meet
                  exact ⟨_, rfl, Lib.hid ⟨fun hB => ⟨ha0, by simpa using hB⟩, HW.out.drewN _⟩⟩
                · have hka0 : ¬ (0 : Int) < (a' : Int) := by omega
                  go_quiet (first | (go_at_call 99; refine Calls.quiet_of_same (less_ok _ _ _)))
                  go_wp2_with fail
                  go_meet
                  exact ⟨false, rfl, Lib.hid ⟨fun hB => (by cases hB), HW.out.drewN _⟩⟩
              case rest =>
                clear HW hcw
                obtain ⟨B, rfl, hc⟩ := hcut
                have HBB := Lib.hid hc.out.1
                have HW := Lib.hid hc.out.2
                clear hc
                cases B with
                | true =>
                  have HEQ := Lib.hid (equal_ok HW.out.self cap a' b' p HP.out.1 HP.out.2 (by rw [HS3.out]; exact HAB.out.2) (by rw [HS3.out]; exact hn))
                  rw [HS3.out] at HEQ
                  go_wp2_with (go_at_call 100; refine HEQ.out.mono ?_; rintro e w4 ⟨mid, d4, rfl, hw4, he4⟩; have HE4 := Lib.hid (And.intro hw4 he4); clear hw4 he4)
                  go_roundw
                  case rel => exact ⟨mid, b', d4, l2, t8, t9, rfl, rfl, rfl, rfl, rfl, hl2, Lib.hid ⟨HW.out.comp HE4.out.1, (HRD.out.even (HBB.out (by first | trivial | rfl)).1 HP.out (by have := (HBB.out (by first | trivial | rfl)).2; rw [HG.out, HG.out] at this; exact this) HE4.out.2).1⟩⟩
                  case measure => have := HE4.out.2.am; have := HE4.out.2.mb; simp [intOf]; omega
                | false =>
                  have HPP := Lib.hid (partition_ok HW.out.self cap a' b' p HP.out.1 HP.out.2 (by rw [HS3.out]; exact HAB.out.2) (by rw [HS3.out]; exact hn))
                  rw [HS3.out] at HPP
                  go_upto_region 21 with (go_at_call 101; refine HPP.out.mono ?_; rintro e w4 ⟨mid, tz, d4, rfl, hw4, hp4⟩; have HW4 := Lib.hid (HW.out.comp hw4); have HPT := Lib.hid hp4; clear hw4 hp4)
                  have HS4 : Hid (d4.size = d.size) := Lib.hid (by rw [HPT.out.perm.1, HS3.out])
                  have hm1 : (a' : Int) ≤ (mid : Int) := by have := HPT.out.am; omega
                  have hm2 : (mid : Int) < (b' : Int) := by have := HPT.out.mb; omega
                  by_cases hlr : mid - a' < b' - mid
                  · have hklr : (mid : Int) - (a' : Int) < (b' : Int) - (mid : Int) := by have := HPT.out.am; have := HPT.out.mb; omega
                    have HREC := Lib.hid (IH.out (mid - a') (by have := HPT.out.am; have := HPT.out.mb; have := HRD.out.aa; have := HRD.out.bb; omega) a' mid (by have := HPT.out.am; have := HPT.out.mb; omega) rfl d4 HW4.out.self cap (by rw [HS4.out]; have := HPT.out.mb; have := HRD.out.bb; omega) (by rw [HS4.out]; exact hn) (HRD.out.leftBel HPT.out) l2 hl2)
                    rw [HS4.out] at HREC
                    go_wp2_with (go_at_call 71; refine HREC.out.mono ?_; rintro e w5 ⟨rfl, d5, hw5, hp5, hs5⟩; have HR5 := Lib.hid (And.intro hw5 (And.intro hp5 hs5)); clear hw5 hp5 hs5)
                    go_roundw
                    case rel => exact ⟨mid + 1, b', d5, l2, _, tz, by go_num, rfl, rfl, rfl, rfl, hl2, Lib.hid ⟨HW4.out.comp HR5.out.1, HRD.out.left HPT.out HR5.out.2.1 HR5.out.2.2⟩⟩
                    case measure => have := HPT.out.am; have := HPT.out.mb; simp [intOf]; omega
                  · have hklr : ¬ (mid : Int) - (a' : Int) < (b' : Int) - (mid : Int) := by have := HPT.out.am; have := HPT.out.mb; omega
                    have HREC := Lib.hid (IH.out (b' - (mid + 1)) (by have := HPT.out.am; have := HPT.out.mb; have := HRD.out.aa; have := HRD.out.bb; omega) (mid + 1) b' (by have := HPT.out.am; have := HPT.out.mb; omega) rfl d4 HW4.out.self cap (by rw [HS4.out]; have := HPT.out.mb; have := HRD.out.bb; omega) (by rw [HS4.out]; exact hn) (HRD.out.rightBel HPT.out) l2 hl2)
                    rw [HS4.out] at HREC
                    rw [show ((mid + 1 : Nat) : Int) = (mid : Int) + 1 from rfl] at HREC
                    go_wp2_with (go_at_call 71; refine HREC.out.mono ?_; rintro e w5 ⟨rfl, d5, hw5, hp5, hs5⟩; have HR5 := Lib.hid (And.intro hw5 (And.intro hp5 hs5)); clear hw5 hp5 hs5)
                    go_roundw
                    case rel => exact ⟨a', mid, d5, l2, _, tz, rfl, rfl, rfl, rfl, rfl, hl2, Lib.hid ⟨HW4.out.comp HR5.out.1, HRD.out.right HPT.out HR5.out.2.1 HR5.out.2.2⟩⟩
                    case measure => have := HPT.out.am; have := HPT.out.mb; simp [intOf]; omega

end Go.Proofs.YthdagjlgfffpbaaGreat.SU

/-
  slices.Sort at []uint16: what it leaves, as the contract that Normal asks. By the verifier.
-/
set_option linter.unusedVariables false
namespace Go.Proofs.YthdagjlgfffpbaaGreat
open Go.RowKit Go.Sort Go.Lib SU

theorem insertion_nil (w : World) : Calls Tryz.prog 93 #[.slice none 0 0, .int .i64 0, .int .i64 0] w fun e w' => e = .returned (.tuple #[]) ∧ w' = w := by
  go_enter Tryz.func93, Tryz.ntmps93
  go_wp2
  go_loopw [6] (fun vi wr => vi = .int .i64 1 ∧ wr = w) (fun _ _ => 0)
  case atStart => exact ⟨rfl, rfl⟩
  case round =>
    obtain ⟨rfl, rfl⟩ := hrel
    go_wp2
    go_end0
    exact ⟨rfl, rfl⟩

theorem pdq_nil (l : Int) (w : World) : Calls Tryz.prog 71 #[.slice none 0 0, .int .i64 0, .int .i64 0, .int .i64 l] w fun e w' => e = .returned (.tuple #[]) ∧ w' = w := by
  go_enter Tryz.func71, Tryz.ntmps71
  go_wp2_with fail
  go_loopw [1, 2, 3, 8, 9] (fun va vb vl v8 v9 wr => va = .int .i64 0 ∧ vb = .int .i64 0 ∧ vl = .int .i64 l ∧ v8 = .bool true ∧ v9 = .bool true ∧ wr = w) (fun _ _ _ _ _ _ => 0)
  case atStart => exact ⟨rfl, rfl, rfl, rfl, rfl, rfl⟩
  case round =>
    obtain ⟨rfl, rfl, rfl, rfl, rfl, rfl⟩ := hrel
    go_wp2_with (go_at_call 93; refine (insertion_nil _).mono ?_; rintro e w1 ⟨rfl, rfl⟩)
    first | go_end0 | refine bodyPost_ret (results_none rfl _ _ _) rfl ?_
    exact ⟨rfl, rfl⟩

theorem len_ok (n : Nat) (h : n ≤ 1000) (w : World) : Calls Tryz.prog 72 #[.int .u64 (n : Int)] w fun e w' => ∃ k : Nat, e = .returned (.int .i64 (k : Int)) ∧ k ≤ 62 ∧ w' = w := by
  refine (Any.bits_Len Tryz.bitsLen (n : Int) w (by omega) (by omega)).mono ?_
  rintro e w' ⟨rfl, rfl⟩
  exact ⟨_, rfl, by rw [Int.toNat_natCast]; exact Lib.bitLen_le n 62 (by omega) (by omega), rfl⟩

theorem sort_walk (A : Option Addr) (n cap : Nat) (w : World) (hn : n ≤ 1000) (Q : Ending → World → Prop) (h : ∀ k : Nat, k ≤ 62 → Calls Tryz.prog 71 #[.slice A n cap, .int .i64 0, .int .i64 (n : Int), .int .i64 (k : Int)] w fun e w' => e = .returned (.tuple #[]) ∧ Q e w') :
    Calls Tryz.prog 37 #[.slice A n cap] w fun e w' => e = .returned (.tuple #[]) ∧ Q e w' := by
  have HL := Lib.hid (len_ok n hn)
  have HH := Lib.hid h
  have hn1 : (n : Int) ≤ 1000 := by omega
  clear h hn
  go_enter Tryz.func37, Tryz.ntmps37
  go_wp2_with (first
    | (go_at_call 72; refine (HL.out _).mono ?_; rintro e w1 ⟨k, rfl, hk, rfl⟩; have HK := Lib.hid (HH.out k hk); clear hk)
    | (go_at_call 71; refine HK.out.mono ?_; rintro e w2 ⟨rfl, hq⟩; have HQ := Lib.hid hq; clear hq))
  go_end0
  exact ⟨rfl, HQ.out⟩

theorem sortU16 : SortU16 := by
  intro l w base v ho hl
  have hlen := ho.1
  rcases ho.2 with ⟨hv, hn⟩ | ⟨g, cap, cur, hv, hb, hg, hnc, hcm, hcs, htk⟩
  · have hl0 : l = [] := List.eq_nil_of_length_eq_zero hn
    subst hl0
    rw [hv]
    refine sort_walk none 0 0 w (by omega) (fun e w' => OwnC w' base 32 1 (.slice none 0 0) 0 ((sortU []).map U16) ∧ Turn (fun b => Value.ownBlock (.slice none 0 0) = some b) w w') fun k hk => (pdq_nil _ w).mono ?_
    rintro e w' ⟨rfl, rfl⟩
    exact ⟨rfl, by rw [show sortU [] = [] by simp [sortU]]; exact OwnC.nil w' base _ 1, Turn.refl _ _⟩
  · have hlt : g < w.heap.size := (Array.getElem?_eq_some_iff.1 hg).1
    obtain ⟨d, hd⟩ : ∃ d : Array Int, d = (l.map fun x : Nat => (x : Int)).toArray := ⟨_, rfl⟩
    have hds : d.size = l.length := by rw [hd]; simp
    have hrow : ∀ i, i < d.size → cur[0 + i]? = some (.int .u16 d[i]!) := fun i hi => by
      rw [Nat.zero_add]
      have hi' : i < l.length := by omega
      have h1 : (cur.toList.take (l.length * 1))[i]? = (l.map U16)[i]? := by rw [htk]
      rw [List.getElem?_take_of_lt (by omega), Array.getElem?_toList] at h1
      rw [h1, getElem!_pos d i hi]
      simp [hd, hi', U16]
    have hR : Rw w g 0 cur.size d w := ⟨Turn.refl _ _, ⟨cur, hg, rfl, hrow⟩, hlt⟩
    rw [hv, ← hds]
    refine sort_walk (some ⟨g, 0, none⟩) d.size cap w (by omega) (fun e w' => OwnC w' base 32 1 (.slice (some ⟨g, 0, none⟩) d.size cap) d.size ((sortU l).map U16) ∧ Turn (fun b => Value.ownBlock (.slice (some ⟨g, 0, none⟩) d.size cap) = some b) w w') fun k hk => ?_
    have hp := pdq_ok (w0 := w) d.size 0 d.size (Nat.zero_le _) rfl d hR cap (Nat.le_refl _) (by omega) (Or.inl rfl) k (by omega)
    refine Calls.mono hp ?_
    rintro e w' ⟨rfl, d', hr', hpm, hst⟩
    refine ⟨rfl, ?_, hr'.turn.mono fun i _ hi => by rw [hi]; rfl⟩
    have hd's : d'.size = l.length := by rw [hpm.1, hds]
    have hperm : d'.toList.Perm d.toList := by
      have h1 := hpm.2.2
      have e1 : d'.extract 0 d.size = d' := by rw [← hpm.1]; simp
      have e2 : d.extract 0 d.size = d := by simp
      rw [e1, e2] at h1
      exact h1
    have hdl : d.toList = l.map fun x : Nat => (x : Int) := by rw [hd]
    have hr : (d'.toList.map Int.toNat).Perm l := by
      have := hperm.map Int.toNat
      rw [hdl, List.map_map] at this
      simpa [Function.comp_def] using this
    have hpos : ∀ x ∈ d'.toList, 0 ≤ x := fun x hx => by
      have := hperm.mem_iff.1 hx
      rw [hdl] at this
      obtain ⟨y, -, rfl⟩ := List.mem_map.1 this
      omega
    have hsort : (d'.toList.map Int.toNat).Pairwise (· ≤ ·) := by
      rw [List.pairwise_map, List.pairwise_iff_getElem]
      intro i j hi hj hij
      have hi' : i < d'.size := by simpa using hi
      have hj' : j < d'.size := by simpa using hj
      have := hst i j (Nat.zero_le _) hij (by rw [← hpm.1]; exact hj')
      rw [getElem!_pos d' i hi', getElem!_pos d' j hj'] at this
      have h2 := lt_false.1 this
      simp only [Array.getElem_toList]
      omega
    have hU := sortU_unique hr hsort
    have hmap : (sortU l).map U16 = d'.toList.map fun x => .int .u16 x := by
      rw [← hU, List.map_map]
      refine List.map_congr_left fun x hx => ?_
      have := hpos x hx
      simp only [Function.comp_def, U16]
      congr 1
      omega
    obtain ⟨cur', hg', hm', hall'⟩ := hr'.row
    refine ⟨by rw [List.length_map, sortU_len, hds]; omega, .inr ⟨g, cap, cur', rfl, hb, hg', by omega, hcm, by omega, ?_⟩⟩
    rw [hmap]
    apply List.ext_getElem?
    intro t
    by_cases ht : t < d.size
    · rw [List.getElem?_take_of_lt (by omega), Array.getElem?_toList]
      have := hall' t (by rw [hpm.1]; exact ht)
      rw [Nat.zero_add] at this
      rw [this, getElem!_pos d' t (by rw [hpm.1]; exact ht)]
      simp [hpm.1, ht]
    · rw [List.getElem?_eq_none (by rw [List.length_take]; omega), List.getElem?_eq_none (by simp [hpm.1]; omega)]

end Go.Proofs.YthdagjlgfffpbaaGreat

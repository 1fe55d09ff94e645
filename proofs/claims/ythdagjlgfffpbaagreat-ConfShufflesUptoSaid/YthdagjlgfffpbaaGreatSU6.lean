/-
  slices.Sort at []uint16: partitionOrdered. By the verifier.
-/
import Derived.Test.YthdagjlgfffpbaaGreatSU1
import Derived.Deep.DeepCutAuto
import Derived.Deep.CutRange
set_option linter.unusedVariables false
namespace Go.Proofs.YthdagjlgfffpbaaGreat.SU
open Go.RowKit Go.Sort

/-- While a range is parted by its first place's value p: what lies behind it up to i is of the one kind, what lies from j on of the other. -/
structure Inv (Lb : Int → Bool) (p : Int) (d0 : Array Int) (a b i j : Nat) (dk : Array Int) : Prop where
  perm : PermIn a b d0 dk
  ai : a < i
  ij : i ≤ j + 1
  jb : j < b
  bs : b ≤ d0.size
  piv : dk[a]! = p
  lo : ∀ t, a < t → t < i → Lb dk[t]! = true
  hi : ∀ t, j < t → t < b → Lb dk[t]! = false

theorem Inv.start {Lb : Int → Bool} {p : Int} {d : Array Int} {a b pv j : Nat} (hap : a ≤ pv) (hpb : pv < b) (hb : b ≤ d.size) (hp : p = d[pv]!) (hj : b = j + 1) : Inv Lb p d a b (a + 1) j (swp d a pv) := by
  refine ⟨swp_permIn d a b a pv (Nat.le_refl _) (by omega) hap hpb hb, by omega, by omega, by omega, hb, ?_, fun t h1 h2 => by omega, fun t h1 h2 => by omega⟩
  by_cases e : a = pv
  · subst e
    rw [swp_right d a a (by omega), hp]
  · rw [swp_left d a pv (by omega) e, hp]
theorem Inv.up {Lb : Int → Bool} {p : Int} {d0 dk : Array Int} {a b i j : Nat} (h : Inv Lb p d0 a b i j dk) (hij : i ≤ j) (hl : Lb dk[i]! = true) : Inv Lb p d0 a b (i + 1) j dk :=
  ⟨h.perm, by have := h.ai; omega, by omega, h.jb, h.bs, h.piv, fun t h1 h2 => by
    by_cases e : t = i
    · subst e; exact hl
    · exact h.lo t h1 (by omega), h.hi⟩
theorem Inv.down {Lb : Int → Bool} {p : Int} {d0 dk : Array Int} {a b i j : Nat} (h : Inv Lb p d0 a b i j dk) (hij : i ≤ j) (hl : Lb dk[j]! = false) : Inv Lb p d0 a b i (j - 1) dk :=
  ⟨h.perm, h.ai, by have := h.ai; omega, by have := h.jb; omega, h.bs, h.piv, h.lo, fun t h1 h2 => by
    by_cases e : t = j
    · subst e; exact hl
    · exact h.hi t (by omega) h2⟩
theorem Inv.swap {Lb : Int → Bool} {p : Int} {d0 dk : Array Int} {a b i j : Nat} (h : Inv Lb p d0 a b i j dk) (hij : i ≤ j) (hi : Lb dk[i]! = false) (hj : Lb dk[j]! = true) (hs : j < dk.size) : Inv Lb p d0 a b (i + 1) (j - 1) (swp dk i j) := by
  have hne : i ≠ j := fun e => by subst e; rw [hi] at hj; cases hj
  have ha := h.ai
  have hjb := h.jb
  have hsz := h.perm.1
  have hbs := h.bs
  refine ⟨permIn_trans _ _ _ a b h.perm (swp_permIn dk a b i j (by omega) (by omega) (by omega) hjb (by omega)), by omega, by omega, by omega, h.bs, ?_, fun t h1 h2 => ?_, fun t h1 h2 => ?_⟩
  · rw [swp_other dk i j a (by omega) (by omega)]
    exact h.piv
  · by_cases e : t = i
    · subst e
      rw [swp_left dk t j (by omega) hne]
      exact hj
    · rw [swp_other dk i j t e (by omega)]
      exact h.lo t h1 (by omega)
  · by_cases e : t = j
    · subst e
      rw [swp_right dk i t hs]
      exact hi
    · rw [swp_other dk i j t (by omega) e]
      exact h.hi t (by omega) h2

/-- A range that is parted at mid. -/
structure Parted (d0 : Array Int) (a b mid : Nat) (d : Array Int) : Prop where
  am : a ≤ mid
  mb : mid < b
  perm : PermIn a b d0 d
  lo : ∀ t, a ≤ t → t < mid → ltInt d[t]! d[mid]! = true
  hi : ∀ t, mid < t → t < b → ltInt d[t]! d[mid]! = false

theorem Inv.part {Lb : Int → Bool} {p : Int} {d0 dk : Array Int} {a b i j : Nat} (h : Inv Lb p d0 a b i j dk) (hL : ∀ x, Lb x = decide (x < p)) (hij : i = j + 1) (hs : j < dk.size) : Parted d0 a b j (swp dk j a) := by
  have ha := h.ai
  have hjb := h.jb
  have hsz := h.perm.1
  have hbs := h.bs
  have hmid : (swp dk j a)[j]! = p := by
    by_cases e : j = a
    · subst e
      rw [swp_right dk j j hs]
      exact h.piv
    · rw [swp_left dk j a hs e]
      exact h.piv
  refine ⟨by omega, hjb, permIn_trans _ _ _ a b h.perm (swp_permIn dk a b j a (by omega) hjb (Nat.le_refl _) (by omega) (by omega)), fun t h1 h2 => ?_, fun t h1 h2 => ?_⟩
  · rw [hmid]
    by_cases e : t = a
    · subst e
      rw [swp_right dk j t (by omega)]
      have := h.lo j (by omega) (by omega)
      rw [hL] at this
      exact this
    · rw [swp_other dk j a t (by omega) e]
      have := h.lo t (by omega) (by omega)
      rw [hL] at this
      exact this
  · rw [hmid, swp_other dk j a t (by omega) (by omega)]
    have := h.hi t h1 h2
    rw [hL] at this
    exact this

/-- A range whose first elements are p, and whose others are greater. -/
structure Evened (d0 : Array Int) (a b mid : Nat) (p : Int) (d : Array Int) : Prop where
  am : a < mid
  mb : mid ≤ b
  perm : PermIn a b d0 d
  lo : ∀ t, a ≤ t → t < mid → ltInt p d[t]! = false
  hi : ∀ t, mid ≤ t → t < b → ltInt p d[t]! = true

theorem Inv.same {Lb : Int → Bool} {p : Int} {d0 dk : Array Int} {a b i j : Nat} (h : Inv Lb p d0 a b i j dk) (hL : ∀ x, Lb x = !decide (p < x)) (hij : i = j + 1) : Evened d0 a b i p dk := by
  have ha := h.ai
  have hjb := h.jb
  refine ⟨ha, by omega, h.perm, fun t h1 h2 => ?_, fun t h1 h2 => ?_⟩
  · by_cases e : t = a
    · subst e
      rw [h.piv]
      exact decide_eq_false (by omega)
    · have := h.lo t (by omega) h2
      rw [hL] at this
      simpa [ltInt] using this
  · have := h.hi t (by omega) h2
    rw [hL] at this
    simpa [ltInt] using this

set_option maxHeartbeats 16000000 in
set_option maxRecDepth 100000 in
theorem partition_ok {w : World} {blk off m : Nat} {d : Array Int} (h : Rw w blk off m d w) (cap a b pv : Nat) (hap : a ≤ pv) (hpb : pv < b) (hb : b ≤ d.size) (hn : d.size ≤ 1000) :
    Calls Tryz.prog 101 #[.slice (some ⟨blk, off, none⟩) d.size cap, .int .i64 (a : Int), .int .i64 (b : Int), .int .i64 (pv : Int)] w fun e w' => ∃ (mid : Nat) (t : Bool) (d' : Array Int), e = .returned (.tuple #[.int .i64 (mid : Int), .bool t]) ∧ Rw w blk off m d' w' ∧ Parted d a b mid d' := by
  obtain ⟨j, hj⟩ : ∃ j, b = j + 1 := ⟨b - 1, by omega⟩
  have hji : (b : Int) - 1 = (j : Int) := by omega
  obtain ⟨p, hp⟩ : ∃ p, p = d[pv]! := ⟨_, rfl⟩
  obtain ⟨Lb, hLb⟩ : ∃ Lb : Int → Bool, ∀ x, Lb x = decide (x < p) := ⟨_, fun _ => rfl⟩
  have HLB := Lib.hid hLb
  have HV0 : Hid (Inv Lb p d a b (a + 1) j (swp d a pv)) := Lib.hid (Inv.start hap hpb hb hp hj)
  have HSZ : Hid (d.size = d.size) := Lib.hid rfl
  obtain ⟨G, hG⟩ : ∃ G : Nat → Int, ∀ t, G t = d[t]! := ⟨fun t => d[t]!, fun _ => rfl⟩
  have HG := Lib.hid hG
  obtain ⟨w3, hw3⟩ : ∃ w3, w3 = w := ⟨_, rfl⟩
  have HW0 := h
  rw [← hw3] at HW0
  have HW : Hid (Rw w blk off m d w3) := Lib.hid (by rw [hw3]; exact h)
  rw [show (Calls Tryz.prog 101 #[.slice (some ⟨blk, off, none⟩) d.size cap, .int .i64 (a : Int), .int .i64 (b : Int), .int .i64 (pv : Int)] w) = Calls Tryz.prog 101 #[.slice (some ⟨blk, off, none⟩) d.size cap, .int .i64 (a : Int), .int .i64 (b : Int), .int .i64 (pv : Int)] w3 by rw [hw3]]
  have HP := Lib.hid (And.intro hp hj)
  clear h hp hLb hG hw3 HW0 hj
  go_enter Tryz.func101, Tryz.ntmps101
  have hcw : ∀ t, t < d.size → w3.cell? ⟨blk, off + t, none⟩ = some (.int .u16 (G t)) := fun t ht => by rw [HG.out]; exact HW.out.cell (by have := HSZ.out; omega)
  have hfw : ∀ t, t < d.size → w3.frozen? ⟨blk, off + t, none⟩ = false := fun t ht => HW.out.free _
  obtain ⟨u, hu⟩ := HW.out.kept (i := a) (j := pv) (.int .u16 (G pv)) (by have := HSZ.out; omega)
  go_wp2_with fail
  go_region
  all_goals go_wp2_with fail
  have hs4 : Rw w blk off m (swp d a pv) (((w3.setCell ⟨blk, off + a, none⟩ (.int .u16 (G pv))).setCell ⟨blk, off + pv, none⟩ (.int .u16 (G a)))).drew := by
    rw [HG.out, HG.out]
    exact (HW.out.swap (i := a) (j := pv) (by have := HSZ.out; omega) (by have := HSZ.out; omega)).drew
  have HS := Lib.hid hs4
  try generalize ((w3.setCell ⟨blk, off + a, none⟩ (.int .u16 (G pv))).setCell ⟨blk, off + pv, none⟩ (.int .u16 (G a))).drew = w4 at *
  clear hs4 hcw hfw hu
  have HWN := HS
  clear HW
  have HW := HWN
  clear HWN HS HG HSZ
  obtain ⟨dk, hdk⟩ : ∃ dk, dk = swp d a pv := ⟨_, rfl⟩
  rw [← hdk] at HW
  have HV : Hid (Inv Lb p d a b (a + 1) j dk) := Lib.hid (by rw [hdk]; exact HV0.out)
  clear HV0 hdk
  go_loopw [10] (fun vi wr => ∃ i : Nat, vi = .int .i64 (i : Int) ∧ (a + 1) ≤ i ∧ Hid (Rw w blk off m dk wr ∧ Inv Lb p d a b i j dk)) (fun vi _ => j + 1 - (intOf vi).toNat)
  case atStart => exact ⟨(a + 1), by first | rfl | go_num, Nat.le_refl _, Lib.hid ⟨HW.out, HV.out⟩⟩
  case round =>
    clear HW HV
    obtain ⟨i, rfl, hsi, ho⟩ := hrel
    have HW := Lib.hid ho.out.1
    have HV := Lib.hid ho.out.2
    have hia := HV.out.ai
    have hijj := HV.out.ij
    have hjb := HV.out.jb
    clear ho
    obtain ⟨G, hG⟩ : ∃ G : Nat → Int, ∀ t, G t = dk[t]! := ⟨fun t => dk[t]!, fun _ => rfl⟩
    have HG := Lib.hid hG
    have HSZ : Hid (dk.size = d.size) := Lib.hid HV.out.perm.1
    clear hG
    have hcw : ∀ t, t < d.size → wr.cell? ⟨blk, off + t, none⟩ = some (.int .u16 (G t)) := fun t ht => by rw [HG.out]; exact HW.out.cell (by have := HSZ.out; omega)
    have hfw : ∀ t, t < d.size → wr.frozen? ⟨blk, off + t, none⟩ = false := fun t ht => HW.out.free _
    go_upto_region 3 with fail
    go_cut [43] from 30 to 45 (fun sv wx => sv = .bool (decide (i ≤ j) && decide (G i < G a)) ∧ Hid (Rw w blk off m dk wx))
    case first =>
      by_cases hij : i ≤ j
      · have hki : (i : Int) ≤ (j : Int) := by omega
        go_quiet (first | (go_at_call 99; refine Calls.quiet_of_same (less_ok _ _ _)))
        go_wp2_with fail
        go_meet
        exact ⟨by simp [hij], Lib.hid (HW.out.drewN _)⟩
      · have hki : ¬ (i : Int) ≤ (j : Int) := by omega
        go_quiet (first | (go_at_call 99; refine Calls.quiet_of_same (less_ok _ _ _)))
        go_wp2_with fail
        go_meet
        exact ⟨by simp [hij], Lib.hid (HW.out.drewN _)⟩
    case rest =>
      obtain ⟨rfl, hcut2⟩ := hcut
      have HB : Hid (decide (G i < G a) = Lb dk[i]!) := Lib.hid (by rw [HLB.out, HG.out, HG.out, HV.out.piv])
      generalize hB : (decide (i ≤ j) && decide (G i < G a)) = B
      cases B with
      | true =>
        rw [Bool.and_eq_true, decide_eq_true_eq] at hB
        have HB1 := Lib.hid (And.intro hB.1 hB.2)
        have hle := hB.1
        clear hB hcw hfw
        go_wp2_with fail
        go_roundw
        case rel => exact ⟨i + 1, by go_num, by omega, Lib.hid ⟨hcut2.out, HV.out.up HB1.out.1 (by rw [← HB.out]; exact HB1.out.2)⟩⟩
        case measure => simp [intOf]; omega
      | false =>
        have HUP : Hid (i ≤ j → Lb dk[i]! = false) := Lib.hid (fun (hle : i ≤ j) => by rw [decide_eq_true hle, Bool.true_and] at hB; rw [← HB.out]; exact hB)
        have HW2 := Lib.hid hcut2.out
        clear hB HB hcw hfw hcut2 HW
        obtain ⟨w3, hw3⟩ : ∃ w3, w3 = wc := ⟨_, rfl⟩
        rw [← hw3] at HW2 ⊢
        clear hw3
        have HW := HW2
        clear HW2
        go_wp2_with fail
        go_loopw [11] (fun vj wr => ∃ jj : Nat, vj = .int .i64 (jj : Int) ∧ jj ≤ j ∧ Hid (Rw w blk off m dk wr ∧ Inv Lb p d a b i jj dk ∧ (i ≤ jj → Lb dk[i]! = false))) (fun vj _ => (intOf vj).toNat)
        case atStart => exact ⟨j, rfl, Nat.le_refl _, Lib.hid ⟨HW.out, HV.out, HUP.out⟩⟩
        case round =>
          clear HW HV HUP hijj hjb
          obtain ⟨jj, rfl, hsj, ho⟩ := hrel
          have HW := Lib.hid ho.out.1
          have HV := Lib.hid ho.out.2.1
          have HUP := Lib.hid ho.out.2.2
          have hijj := HV.out.ij
          have hjb := HV.out.jb
          clear ho
          have hcw : ∀ t, t < d.size → wr.cell? ⟨blk, off + t, none⟩ = some (.int .u16 (G t)) := fun t ht => by rw [HG.out]; exact HW.out.cell (by have := HSZ.out; omega)
          have hfw : ∀ t, t < d.size → wr.frozen? ⟨blk, off + t, none⟩ = false := fun t ht => HW.out.free _
          go_upto_region 5 with fail
          go_cut [60] from 46 to 62 (fun sv wx => sv = .bool (decide (i ≤ jj) && (!decide (G jj < G a))) ∧ Hid (Rw w blk off m dk wx))
          case first =>
            by_cases hij : i ≤ jj
            · have hki : (i : Int) ≤ (jj : Int) := by omega
              go_quiet (first | (go_at_call 99; refine Calls.quiet_of_same (less_ok _ _ _)))
              go_wp2_with fail
              go_meet
              exact ⟨by simp [hij], Lib.hid (HW.out.drewN _)⟩
            · have hki : ¬ (i : Int) ≤ (jj : Int) := by omega
              go_quiet (first | (go_at_call 99; refine Calls.quiet_of_same (less_ok _ _ _)))
              go_wp2_with fail
              go_meet
              exact ⟨by simp [hij], Lib.hid (HW.out.drewN _)⟩
          case rest =>
            obtain ⟨rfl, hcut2⟩ := hcut
            have HB : Hid ((!decide (G jj < G a)) = !Lb dk[jj]!) := Lib.hid (by rw [HLB.out, HG.out, HG.out, HV.out.piv] <;> simp)
            generalize hB : (decide (i ≤ jj) && (!decide (G jj < G a))) = B
            cases B with
            | true =>
              rw [Bool.and_eq_true, decide_eq_true_eq] at hB
              have HB1 := Lib.hid (And.intro hB.1 hB.2)
              have hle := hB.1
              obtain ⟨j2, hj2⟩ : ∃ j2, jj = j2 + 1 := ⟨jj - 1, by omega⟩
              have hj2i : (jj : Int) - 1 = (j2 : Int) := by omega
              have HJ2 := Lib.hid hj2
              clear hB hcw hfw hj2
              go_wp2_with fail
              go_roundw
              case rel => exact ⟨j2, rfl, by have := HJ2.out; omega, Lib.hid ⟨hcut2.out, by have h1 := HV.out.down HB1.out.1 (by have h2 := HB1.out.2; rw [HB.out] at h2; simpa using h2); rw [HJ2.out] at h1; exact h1, fun h => HUP.out (by have := HJ2.out; omega)⟩⟩
              case measure => have := HJ2.out; simp [intOf]; omega
            | false =>
              have HDN : Hid (i ≤ jj → Lb dk[jj]! = true) := Lib.hid (fun (hle : i ≤ jj) => by
                have h2 := HB.out
                rw [decide_eq_true hle, Bool.true_and] at hB
                rw [hB] at h2
                simpa using h2.symm)
              have HW2 := Lib.hid hcut2.out
              clear hB HB hcw hfw hcut2 HW
              obtain ⟨w3, hw3⟩ : ∃ w3, w3 = wc := ⟨_, rfl⟩
              rw [← hw3] at HW2 ⊢
              clear hw3
              have HW := HW2
              clear HW2
              by_cases hgt : jj < i
              · have hki : (jj : Int) < (i : Int) := by omega
                have HIJ : Hid (i = jj + 1) := Lib.hid (by omega)
                have hcw : ∀ t, t < d.size → w3.cell? ⟨blk, off + t, none⟩ = some (.int .u16 (G t)) := fun t ht => by rw [HG.out]; exact HW.out.cell (by have := HSZ.out; omega)
                have hfw : ∀ t, t < d.size → w3.frozen? ⟨blk, off + t, none⟩ = false := fun t ht => HW.out.free _
                obtain ⟨u, hu⟩ := HW.out.kept (i := jj) (j := a) (.int .u16 (G a)) (by have := HSZ.out; omega)
                go_wp2_with fail
                go_region
                all_goals go_wp2_with fail
                have hs4 : Rw w blk off m (swp dk jj a) (((w3.setCell ⟨blk, off + jj, none⟩ (.int .u16 (G a))).setCell ⟨blk, off + a, none⟩ (.int .u16 (G jj)))).drew := by
                  rw [HG.out, HG.out]
                  exact (HW.out.swap (i := jj) (j := a) (by have := HSZ.out; omega) (by have := HSZ.out; omega)).drew
                have HS := Lib.hid hs4
                try generalize ((w3.setCell ⟨blk, off + jj, none⟩ (.int .u16 (G a))).setCell ⟨blk, off + a, none⟩ (.int .u16 (G jj))).drew = w4 at *
                clear hs4 hcw hfw hu
                refine bodyPost_ret (results_tmp2 rfl _ _ _) rfl ?_
                exact ⟨jj, true, swp dk jj a, rfl, HS.out, HV.out.part HLB.out HIJ.out (by have := HSZ.out; omega)⟩
              · have hki : ¬ (jj : Int) < (i : Int) := by omega
                have hle : i ≤ jj := by omega
                have hcw : ∀ t, t < d.size → w3.cell? ⟨blk, off + t, none⟩ = some (.int .u16 (G t)) := fun t ht => by rw [HG.out]; exact HW.out.cell (by have := HSZ.out; omega)
                have hfw : ∀ t, t < d.size → w3.frozen? ⟨blk, off + t, none⟩ = false := fun t ht => HW.out.free _
                obtain ⟨u, hu⟩ := HW.out.kept (i := i) (j := jj) (.int .u16 (G jj)) (by have := HSZ.out; omega)
                go_wp2_with fail
                go_region
                all_goals go_wp2_with fail
                have hs4 : Rw w blk off m (swp dk i jj) (((w3.setCell ⟨blk, off + i, none⟩ (.int .u16 (G jj))).setCell ⟨blk, off + jj, none⟩ (.int .u16 (G i)))).drew := by
                  rw [HG.out, HG.out]
                  exact (HW.out.swap (i := i) (j := jj) (by have := HSZ.out; omega) (by have := HSZ.out; omega)).drew
                have HS := Lib.hid hs4
                try generalize ((w3.setCell ⟨blk, off + i, none⟩ (.int .u16 (G jj))).setCell ⟨blk, off + jj, none⟩ (.int .u16 (G i))).drew = w4 at *
                clear hs4 hcw hfw hu
                obtain ⟨j2, hj2⟩ : ∃ j2, jj = j2 + 1 := ⟨jj - 1, by omega⟩
                have hj2i : (jj : Int) - 1 = (j2 : Int) := by omega
                have HJ2 := Lib.hid hj2
                have HL2 := Lib.hid hle
                clear hj2 hle
                go_wp2_with fail
                go_loopw [10, 11] (fun vi vj wr => ∃ (i j : Nat) (dk : Array Int), vi = .int .i64 (i : Int) ∧ vj = .int .i64 (j : Int) ∧ Hid (Rw w blk off m dk wr ∧ Inv Lb p d a b i j dk)) (fun vi vj _ => (intOf vj).toNat + 1 - (intOf vi).toNat)
                case atStart => exact ⟨i + 1, j2, swp dk i jj, by go_num, by first | rfl | exact congrArg (Value.int .i64) hj2i, Lib.hid ⟨HS.out, by have h1 := HV.out.swap HL2.out (HUP.out HL2.out) (HDN.out HL2.out) (by have := HSZ.out; omega); rw [HJ2.out] at h1 ⊢; exact h1⟩⟩
                case round =>
                  clear HS HV HUP HDN HL2 HJ2 HG HSZ HW hijj hjb hia hj2i
                  obtain ⟨i0, j, dk, rfl, rfl, ho⟩ := hrel
                  have HW := Lib.hid ho.out.1
                  have HV := Lib.hid ho.out.2
                  clear ho
                  go_wp2_with fail
                  go_loopw [10] (fun vi wr => ∃ i : Nat, vi = .int .i64 (i : Int) ∧ i0 ≤ i ∧ Hid (Rw w blk off m dk wr ∧ Inv Lb p d a b i j dk)) (fun vi _ => j + 1 - (intOf vi).toNat)
                  case atStart => exact ⟨i0, by first | rfl | go_num, Nat.le_refl _, Lib.hid ⟨HW.out, HV.out⟩⟩
                  case round =>
                    clear HW HV
                    obtain ⟨i, rfl, hsi, ho⟩ := hrel
                    have HW := Lib.hid ho.out.1
                    have HV := Lib.hid ho.out.2
                    have hia := HV.out.ai
                    have hijj := HV.out.ij
                    have hjb := HV.out.jb
                    clear ho
                    obtain ⟨G, hG⟩ : ∃ G : Nat → Int, ∀ t, G t = dk[t]! := ⟨fun t => dk[t]!, fun _ => rfl⟩
                    have HG := Lib.hid hG
                    have HSZ : Hid (dk.size = d.size) := Lib.hid HV.out.perm.1
                    clear hG
                    have hcw : ∀ t, t < d.size → wr.cell? ⟨blk, off + t, none⟩ = some (.int .u16 (G t)) := fun t ht => by rw [HG.out]; exact HW.out.cell (by have := HSZ.out; omega)
                    have hfw : ∀ t, t < d.size → wr.frozen? ⟨blk, off + t, none⟩ = false := fun t ht => HW.out.free _
                    go_upto_region 13 with fail
                    go_cut [112] from 99 to 114 (fun sv wx => sv = .bool (decide (i ≤ j) && decide (G i < G a)) ∧ Hid (Rw w blk off m dk wx))
                    case first =>
                      by_cases hij : i ≤ j
                      · have hki : (i : Int) ≤ (j : Int) := by omega
                        go_quiet (first | (go_at_call 99; refine Calls.quiet_of_same (less_ok _ _ _)))
                        go_wp2_with fail
                        go_meet
                        exact ⟨by simp [hij], Lib.hid (HW.out.drewN _)⟩
                      · have hki : ¬ (i : Int) ≤ (j : Int) := by omega
                        go_quiet (first | (go_at_call 99; refine Calls.quiet_of_same (less_ok _ _ _)))
                        go_wp2_with fail
                        go_meet
                        exact ⟨by simp [hij], Lib.hid (HW.out.drewN _)⟩
                    case rest =>
                      obtain ⟨rfl, hcut2⟩ := hcut
                      have HB : Hid (decide (G i < G a) = Lb dk[i]!) := Lib.hid (by rw [HLB.out, HG.out, HG.out, HV.out.piv])
                      generalize hB : (decide (i ≤ j) && decide (G i < G a)) = B
                      cases B with
                      | true =>
                        rw [Bool.and_eq_true, decide_eq_true_eq] at hB
                        have HB1 := Lib.hid (And.intro hB.1 hB.2)
                        have hle := hB.1
                        clear hB hcw hfw
                        go_wp2_with fail
                        go_roundw
                        case rel => exact ⟨i + 1, by go_num, by omega, Lib.hid ⟨hcut2.out, HV.out.up HB1.out.1 (by rw [← HB.out]; exact HB1.out.2)⟩⟩
                        case measure => simp [intOf]; omega
                      | false =>
                        have HUP : Hid (i ≤ j → Lb dk[i]! = false) := Lib.hid (fun (hle : i ≤ j) => by rw [decide_eq_true hle, Bool.true_and] at hB; rw [← HB.out]; exact hB)
                        have HW2 := Lib.hid hcut2.out
                        clear hB HB hcw hfw hcut2 HW
                        obtain ⟨w3, hw3⟩ : ∃ w3, w3 = wc := ⟨_, rfl⟩
                        rw [← hw3] at HW2 ⊢
                        clear hw3
                        have HW := HW2
                        clear HW2
                        go_wp2_with fail
                        go_loopw [11] (fun vj wr => ∃ jj : Nat, vj = .int .i64 (jj : Int) ∧ jj ≤ j ∧ Hid (Rw w blk off m dk wr ∧ Inv Lb p d a b i jj dk ∧ (i ≤ jj → Lb dk[i]! = false))) (fun vj _ => (intOf vj).toNat)
                        case atStart => exact ⟨j, rfl, Nat.le_refl _, Lib.hid ⟨HW.out, HV.out, HUP.out⟩⟩
                        case round =>
                          clear HW HV HUP hijj hjb
                          obtain ⟨jj, rfl, hsj, ho⟩ := hrel
                          have HW := Lib.hid ho.out.1
                          have HV := Lib.hid ho.out.2.1
                          have HUP := Lib.hid ho.out.2.2
                          have hijj := HV.out.ij
                          have hjb := HV.out.jb
                          clear ho
                          have hcw : ∀ t, t < d.size → wr.cell? ⟨blk, off + t, none⟩ = some (.int .u16 (G t)) := fun t ht => by rw [HG.out]; exact HW.out.cell (by have := HSZ.out; omega)
                          have hfw : ∀ t, t < d.size → wr.frozen? ⟨blk, off + t, none⟩ = false := fun t ht => HW.out.free _
                          go_upto_region 15 with fail
                          go_cut [129] from 115 to 131 (fun sv wx => sv = .bool (decide (i ≤ jj) && (!decide (G jj < G a))) ∧ Hid (Rw w blk off m dk wx))
                          case first =>
                            by_cases hij : i ≤ jj
                            · have hki : (i : Int) ≤ (jj : Int) := by omega
                              go_quiet (first | (go_at_call 99; refine Calls.quiet_of_same (less_ok _ _ _)))
                              go_wp2_with fail
                              go_meet
                              exact ⟨by simp [hij], Lib.hid (HW.out.drewN _)⟩
                            · have hki : ¬ (i : Int) ≤ (jj : Int) := by omega
                              go_quiet (first | (go_at_call 99; refine Calls.quiet_of_same (less_ok _ _ _)))
                              go_wp2_with fail
                              go_meet
                              exact ⟨by simp [hij], Lib.hid (HW.out.drewN _)⟩
                          case rest =>
                            obtain ⟨rfl, hcut2⟩ := hcut
                            have HB : Hid ((!decide (G jj < G a)) = !Lb dk[jj]!) := Lib.hid (by rw [HLB.out, HG.out, HG.out, HV.out.piv] <;> simp)
                            generalize hB : (decide (i ≤ jj) && (!decide (G jj < G a))) = B
                            cases B with
                            | true =>
                              rw [Bool.and_eq_true, decide_eq_true_eq] at hB
                              have HB1 := Lib.hid (And.intro hB.1 hB.2)
                              have hle := hB.1
                              obtain ⟨j2, hj2⟩ : ∃ j2, jj = j2 + 1 := ⟨jj - 1, by omega⟩
                              have hj2i : (jj : Int) - 1 = (j2 : Int) := by omega
                              have HJ2 := Lib.hid hj2
                              clear hB hcw hfw hj2
                              go_wp2_with fail
                              go_roundw
                              case rel => exact ⟨j2, rfl, by have := HJ2.out; omega, Lib.hid ⟨hcut2.out, by have h1 := HV.out.down HB1.out.1 (by have h2 := HB1.out.2; rw [HB.out] at h2; simpa using h2); rw [HJ2.out] at h1; exact h1, fun h => HUP.out (by have := HJ2.out; omega)⟩⟩
                              case measure => have := HJ2.out; simp [intOf]; omega
                            | false =>
                              have HDN : Hid (i ≤ jj → Lb dk[jj]! = true) := Lib.hid (fun (hle : i ≤ jj) => by
                                have h2 := HB.out
                                rw [decide_eq_true hle, Bool.true_and] at hB
                                rw [hB] at h2
                                simpa using h2.symm)
                              have HW2 := Lib.hid hcut2.out
                              clear hB HB hcw hfw hcut2 HW
                              obtain ⟨w3, hw3⟩ : ∃ w3, w3 = wc := ⟨_, rfl⟩
                              rw [← hw3] at HW2 ⊢
                              clear hw3
                              have HW := HW2
                              clear HW2
                              by_cases hgt : jj < i
                              · have hki : (jj : Int) < (i : Int) := by omega
                                have HIJ : Hid (i = jj + 1) := Lib.hid (by omega)
                                have hcw : ∀ t, t < d.size → w3.cell? ⟨blk, off + t, none⟩ = some (.int .u16 (G t)) := fun t ht => by rw [HG.out]; exact HW.out.cell (by have := HSZ.out; omega)
                                have hfw : ∀ t, t < d.size → w3.frozen? ⟨blk, off + t, none⟩ = false := fun t ht => HW.out.free _
                                obtain ⟨u, hu⟩ := HW.out.kept (i := jj) (j := a) (.int .u16 (G a)) (by have := HSZ.out; omega)
                                go_wp2_with fail
                                go_region
                                all_goals go_wp2_with fail
                                have hs4 : Rw w blk off m (swp dk jj a) (((w3.setCell ⟨blk, off + jj, none⟩ (.int .u16 (G a))).setCell ⟨blk, off + a, none⟩ (.int .u16 (G jj)))).drew := by
                                  rw [HG.out, HG.out]
                                  exact (HW.out.swap (i := jj) (j := a) (by have := HSZ.out; omega) (by have := HSZ.out; omega)).drew
                                have HS := Lib.hid hs4
                                try generalize ((w3.setCell ⟨blk, off + jj, none⟩ (.int .u16 (G a))).setCell ⟨blk, off + a, none⟩ (.int .u16 (G jj))).drew = w4 at *
                                clear hs4 hcw hfw hu
                                refine bodyPost_ret (results_tmp2 rfl _ _ _) rfl ?_
                                exact ⟨jj, false, swp dk jj a, rfl, HS.out, HV.out.part HLB.out HIJ.out (by have := HSZ.out; omega)⟩
                              · have hki : ¬ (jj : Int) < (i : Int) := by omega
                                have hle : i ≤ jj := by omega
                                have hcw : ∀ t, t < d.size → w3.cell? ⟨blk, off + t, none⟩ = some (.int .u16 (G t)) := fun t ht => by rw [HG.out]; exact HW.out.cell (by have := HSZ.out; omega)
                                have hfw : ∀ t, t < d.size → w3.frozen? ⟨blk, off + t, none⟩ = false := fun t ht => HW.out.free _
                                obtain ⟨u, hu⟩ := HW.out.kept (i := i) (j := jj) (.int .u16 (G jj)) (by have := HSZ.out; omega)
                                go_wp2_with fail
                                go_region
                                all_goals go_wp2_with fail
                                have hs4 : Rw w blk off m (swp dk i jj) (((w3.setCell ⟨blk, off + i, none⟩ (.int .u16 (G jj))).setCell ⟨blk, off + jj, none⟩ (.int .u16 (G i)))).drew := by
                                  rw [HG.out, HG.out]
                                  exact (HW.out.swap (i := i) (j := jj) (by have := HSZ.out; omega) (by have := HSZ.out; omega)).drew
                                have HS := Lib.hid hs4
                                try generalize ((w3.setCell ⟨blk, off + i, none⟩ (.int .u16 (G jj))).setCell ⟨blk, off + jj, none⟩ (.int .u16 (G i))).drew = w4 at *
                                clear hs4 hcw hfw hu
                                obtain ⟨j2, hj2⟩ : ∃ j2, jj = j2 + 1 := ⟨jj - 1, by omega⟩
                                have hj2i : (jj : Int) - 1 = (j2 : Int) := by omega
                                have HJ2 := Lib.hid hj2
                                have HL2 := Lib.hid hle
                                clear hj2 hle
                                go_wp2_with fail
                                go_roundw
                                case rel => exact ⟨i + 1, j2, swp dk i jj, by go_num, by first | rfl | exact congrArg (Value.int .i64) hj2i, Lib.hid ⟨HS.out, by have h1 := HV.out.swap HL2.out (HUP.out HL2.out) (HDN.out HL2.out) (by have := HSZ.out; omega); rw [HJ2.out] at h1 ⊢; exact h1⟩⟩
                                case measure => have := HJ2.out; have := HL2.out; simp [intOf]; omega

set_option maxHeartbeats 16000000 in
set_option maxRecDepth 100000 in
theorem equal_ok {w : World} {blk off m : Nat} {d : Array Int} (h : Rw w blk off m d w) (cap a b pv : Nat) (hap : a ≤ pv) (hpb : pv < b) (hb : b ≤ d.size) (hn : d.size ≤ 1000) :
    Calls Tryz.prog 100 #[.slice (some ⟨blk, off, none⟩) d.size cap, .int .i64 (a : Int), .int .i64 (b : Int), .int .i64 (pv : Int)] w fun e w' => ∃ (mid : Nat) (d' : Array Int), e = .returned (.int .i64 (mid : Int)) ∧ Rw w blk off m d' w' ∧ Evened d a b mid d[pv]! d' := by
  obtain ⟨j, hj⟩ : ∃ j, b = j + 1 := ⟨b - 1, by omega⟩
  have hji : (b : Int) - 1 = (j : Int) := by omega
  obtain ⟨p, hp⟩ : ∃ p, p = d[pv]! := ⟨_, rfl⟩
  obtain ⟨Lb, hLb⟩ : ∃ Lb : Int → Bool, ∀ x, Lb x = !decide (p < x) := ⟨_, fun _ => rfl⟩
  have HLB := Lib.hid hLb
  have HV0 : Hid (Inv Lb p d a b (a + 1) j (swp d a pv)) := Lib.hid (Inv.start hap hpb hb hp hj)
  have HSZ : Hid (d.size = d.size) := Lib.hid rfl
  obtain ⟨G, hG⟩ : ∃ G : Nat → Int, ∀ t, G t = d[t]! := ⟨fun t => d[t]!, fun _ => rfl⟩
  have HG := Lib.hid hG
  obtain ⟨w3, hw3⟩ : ∃ w3, w3 = w := ⟨_, rfl⟩
  have HW0 := h
  rw [← hw3] at HW0
  have HW : Hid (Rw w blk off m d w3) := Lib.hid (by rw [hw3]; exact h)
  rw [show (Calls Tryz.prog 100 #[.slice (some ⟨blk, off, none⟩) d.size cap, .int .i64 (a : Int), .int .i64 (b : Int), .int .i64 (pv : Int)] w) = Calls Tryz.prog 100 #[.slice (some ⟨blk, off, none⟩) d.size cap, .int .i64 (a : Int), .int .i64 (b : Int), .int .i64 (pv : Int)] w3 by rw [hw3]]
  have HP := Lib.hid (And.intro hp hj)
  clear h hp hLb hG hw3 HW0 hj
  go_enter Tryz.func100, Tryz.ntmps100
  have hcw : ∀ t, t < d.size → w3.cell? ⟨blk, off + t, none⟩ = some (.int .u16 (G t)) := fun t ht => by rw [HG.out]; exact HW.out.cell (by have := HSZ.out; omega)
  have hfw : ∀ t, t < d.size → w3.frozen? ⟨blk, off + t, none⟩ = false := fun t ht => HW.out.free _
  obtain ⟨u, hu⟩ := HW.out.kept (i := a) (j := pv) (.int .u16 (G pv)) (by have := HSZ.out; omega)
  go_wp2_with fail
  go_region
  all_goals go_wp2_with fail
  have hs4 : Rw w blk off m (swp d a pv) (((w3.setCell ⟨blk, off + a, none⟩ (.int .u16 (G pv))).setCell ⟨blk, off + pv, none⟩ (.int .u16 (G a)))).drew := by
    rw [HG.out, HG.out]
    exact (HW.out.swap (i := a) (j := pv) (by have := HSZ.out; omega) (by have := HSZ.out; omega)).drew
  have HS := Lib.hid hs4
  try generalize ((w3.setCell ⟨blk, off + a, none⟩ (.int .u16 (G pv))).setCell ⟨blk, off + pv, none⟩ (.int .u16 (G a))).drew = w4 at *
  clear hs4 hcw hfw hu
  have HWN := HS
  clear HW
  have HW := HWN
  clear HWN HS HG HSZ
  obtain ⟨dk, hdk⟩ : ∃ dk, dk = swp d a pv := ⟨_, rfl⟩
  rw [← hdk] at HW
  have HV : Hid (Inv Lb p d a b (a + 1) j dk) := Lib.hid (by rw [hdk]; exact HV0.out)
  clear HV0 hdk
  go_loopw [9, 10] (fun vi vj wr => ∃ (i j : Nat) (dk : Array Int), vi = .int .i64 (i : Int) ∧ vj = .int .i64 (j : Int) ∧ Hid (Rw w blk off m dk wr ∧ Inv Lb p d a b i j dk)) (fun vi vj _ => (intOf vj).toNat + 1 - (intOf vi).toNat)
  case atStart => exact ⟨a + 1, j, dk, by go_num, by first | rfl | exact congrArg (Value.int .i64) hji, Lib.hid ⟨HW.out, HV.out⟩⟩
  case round =>
    clear HW HV hji
    obtain ⟨i0, j, dk, rfl, rfl, ho⟩ := hrel
    have HW := Lib.hid ho.out.1
    have HV := Lib.hid ho.out.2
    clear ho
    go_wp2_with fail
    go_loopw [9] (fun vi wr => ∃ i : Nat, vi = .int .i64 (i : Int) ∧ i0 ≤ i ∧ Hid (Rw w blk off m dk wr ∧ Inv Lb p d a b i j dk)) (fun vi _ => j + 1 - (intOf vi).toNat)
    case atStart => exact ⟨i0, by first | rfl | go_num, Nat.le_refl _, Lib.hid ⟨HW.out, HV.out⟩⟩
    case round =>
      clear HW HV
      obtain ⟨i, rfl, hsi, ho⟩ := hrel
      have HW := Lib.hid ho.out.1
      have HV := Lib.hid ho.out.2
      have hia := HV.out.ai
      have hijj := HV.out.ij
      have hjb := HV.out.jb
      clear ho
      obtain ⟨G, hG⟩ : ∃ G : Nat → Int, ∀ t, G t = dk[t]! := ⟨fun t => dk[t]!, fun _ => rfl⟩
      have HG := Lib.hid hG
      have HSZ : Hid (dk.size = d.size) := Lib.hid HV.out.perm.1
      clear hG
      have hcw : ∀ t, t < d.size → wr.cell? ⟨blk, off + t, none⟩ = some (.int .u16 (G t)) := fun t ht => by rw [HG.out]; exact HW.out.cell (by have := HSZ.out; omega)
      have hfw : ∀ t, t < d.size → wr.frozen? ⟨blk, off + t, none⟩ = false := fun t ht => HW.out.free _
      go_upto_region 3 with fail
      go_cut [43] from 29 to 45 (fun sv wx => sv = .bool (decide (i ≤ j) && (!decide (G a < G i))) ∧ Hid (Rw w blk off m dk wx))
      case first =>
        by_cases hij : i ≤ j
        · have hki : (i : Int) ≤ (j : Int) := by omega
          go_quiet (first | (go_at_call 99; refine Calls.quiet_of_same (less_ok _ _ _)))
          go_wp2_with fail
          go_meet
          exact ⟨by simp [hij], Lib.hid (HW.out.drewN _)⟩
        · have hki : ¬ (i : Int) ≤ (j : Int) := by omega
          go_quiet (first | (go_at_call 99; refine Calls.quiet_of_same (less_ok _ _ _)))
          go_wp2_with fail
          go_meet
          exact ⟨by simp [hij], Lib.hid (HW.out.drewN _)⟩
      case rest =>
        obtain ⟨rfl, hcut2⟩ := hcut
        have HB : Hid ((!decide (G a < G i)) = Lb dk[i]!) := Lib.hid (by rw [HLB.out, HG.out, HG.out, HV.out.piv])
        generalize hB : (decide (i ≤ j) && (!decide (G a < G i))) = B
        cases B with
        | true =>
          rw [Bool.and_eq_true, decide_eq_true_eq] at hB
          have HB1 := Lib.hid (And.intro hB.1 hB.2)
          have hle := hB.1
          clear hB hcw hfw
          go_wp2_with fail
          go_roundw
          case rel => exact ⟨i + 1, by go_num, by omega, Lib.hid ⟨hcut2.out, HV.out.up HB1.out.1 (by rw [← HB.out]; exact HB1.out.2)⟩⟩
          case measure => simp [intOf]; omega
        | false =>
          have HUP : Hid (i ≤ j → Lb dk[i]! = false) := Lib.hid (fun (hle : i ≤ j) => by rw [decide_eq_true hle, Bool.true_and] at hB; rw [← HB.out]; exact hB)
          have HW2 := Lib.hid hcut2.out
          clear hB HB hcw hfw hcut2 HW
          obtain ⟨w3, hw3⟩ : ∃ w3, w3 = wc := ⟨_, rfl⟩
          rw [← hw3] at HW2 ⊢
          clear hw3
          have HW := HW2
          clear HW2
          go_wp2_with fail
          go_loopw [10] (fun vj wr => ∃ jj : Nat, vj = .int .i64 (jj : Int) ∧ jj ≤ j ∧ Hid (Rw w blk off m dk wr ∧ Inv Lb p d a b i jj dk ∧ (i ≤ jj → Lb dk[i]! = false))) (fun vj _ => (intOf vj).toNat)
          case atStart => exact ⟨j, rfl, Nat.le_refl _, Lib.hid ⟨HW.out, HV.out, HUP.out⟩⟩
          case round =>
            clear HW HV HUP hijj hjb
            obtain ⟨jj, rfl, hsj, ho⟩ := hrel
            have HW := Lib.hid ho.out.1
            have HV := Lib.hid ho.out.2.1
            have HUP := Lib.hid ho.out.2.2
            have hijj := HV.out.ij
            have hjb := HV.out.jb
            clear ho
            have hcw : ∀ t, t < d.size → wr.cell? ⟨blk, off + t, none⟩ = some (.int .u16 (G t)) := fun t ht => by rw [HG.out]; exact HW.out.cell (by have := HSZ.out; omega)
            have hfw : ∀ t, t < d.size → wr.frozen? ⟨blk, off + t, none⟩ = false := fun t ht => HW.out.free _
            go_upto_region 5 with fail
            go_cut [59] from 46 to 61 (fun sv wx => sv = .bool (decide (i ≤ jj) && decide (G a < G jj)) ∧ Hid (Rw w blk off m dk wx))
            case first =>
              by_cases hij : i ≤ jj
              · have hki : (i : Int) ≤ (jj : Int) := by omega
                go_quiet (first | (go_at_call 99; refine Calls.quiet_of_same (less_ok _ _ _)))
                go_wp2_with fail
                go_meet
                exact ⟨by simp [hij], Lib.hid (HW.out.drewN _)⟩
              · have hki : ¬ (i : Int) ≤ (jj : Int) := by omega
                go_quiet (first | (go_at_call 99; refine Calls.quiet_of_same (less_ok _ _ _)))
                go_wp2_with fail
                go_meet
                exact ⟨by simp [hij], Lib.hid (HW.out.drewN _)⟩
            case rest =>
              obtain ⟨rfl, hcut2⟩ := hcut
              have HB : Hid (decide (G a < G jj) = !Lb dk[jj]!) := Lib.hid (by rw [HLB.out, HG.out, HG.out, HV.out.piv] <;> simp)
              generalize hB : (decide (i ≤ jj) && decide (G a < G jj)) = B
              cases B with
              | true =>
                rw [Bool.and_eq_true, decide_eq_true_eq] at hB
                have HB1 := Lib.hid (And.intro hB.1 hB.2)
                have hle := hB.1
                obtain ⟨j2, hj2⟩ : ∃ j2, jj = j2 + 1 := ⟨jj - 1, by omega⟩
                have hj2i : (jj : Int) - 1 = (j2 : Int) := by omega
                have HJ2 := Lib.hid hj2
                clear hB hcw hfw hj2
                go_wp2_with fail
                go_roundw
                case rel => exact ⟨j2, rfl, by have := HJ2.out; omega, Lib.hid ⟨hcut2.out, by have h1 := HV.out.down HB1.out.1 (by have h2 := HB1.out.2; rw [HB.out] at h2; simpa using h2); rw [HJ2.out] at h1; exact h1, fun h => HUP.out (by have := HJ2.out; omega)⟩⟩
                case measure => have := HJ2.out; simp [intOf]; omega
              | false =>
                have HDN : Hid (i ≤ jj → Lb dk[jj]! = true) := Lib.hid (fun (hle : i ≤ jj) => by
                  have h2 := HB.out
                  rw [decide_eq_true hle, Bool.true_and] at hB
                  rw [hB] at h2
                  simpa using h2.symm)
                have HW2 := Lib.hid hcut2.out
                clear hB HB hcw hfw hcut2 HW
                obtain ⟨w3, hw3⟩ : ∃ w3, w3 = wc := ⟨_, rfl⟩
                rw [← hw3] at HW2 ⊢
                clear hw3
                have HW := HW2
                clear HW2
                by_cases hgt : jj < i
                · have hki : (jj : Int) < (i : Int) := by omega
                  have HIJ : Hid (i = jj + 1) := Lib.hid (by omega)
                  go_wp2_with fail
                  go_ret
                  exact ⟨i, dk, rfl, HW.out, by rw [← HP.out.1]; exact HV.out.same HLB.out HIJ.out⟩
                · have hki : ¬ (jj : Int) < (i : Int) := by omega
                  have hle : i ≤ jj := by omega
                  have hcw : ∀ t, t < d.size → w3.cell? ⟨blk, off + t, none⟩ = some (.int .u16 (G t)) := fun t ht => by rw [HG.out]; exact HW.out.cell (by have := HSZ.out; omega)
                  have hfw : ∀ t, t < d.size → w3.frozen? ⟨blk, off + t, none⟩ = false := fun t ht => HW.out.free _
                  obtain ⟨u, hu⟩ := HW.out.kept (i := i) (j := jj) (.int .u16 (G jj)) (by have := HSZ.out; omega)
                  go_wp2_with fail
                  go_region
                  all_goals go_wp2_with fail
                  have hs4 : Rw w blk off m (swp dk i jj) (((w3.setCell ⟨blk, off + i, none⟩ (.int .u16 (G jj))).setCell ⟨blk, off + jj, none⟩ (.int .u16 (G i)))).drew := by
                    rw [HG.out, HG.out]
                    exact (HW.out.swap (i := i) (j := jj) (by have := HSZ.out; omega) (by have := HSZ.out; omega)).drew
                  have HS := Lib.hid hs4
                  try generalize ((w3.setCell ⟨blk, off + i, none⟩ (.int .u16 (G jj))).setCell ⟨blk, off + jj, none⟩ (.int .u16 (G i))).drew = w4 at *
                  clear hs4 hcw hfw hu
                  obtain ⟨j2, hj2⟩ : ∃ j2, jj = j2 + 1 := ⟨jj - 1, by omega⟩
                  have hj2i : (jj : Int) - 1 = (j2 : Int) := by omega
                  have HJ2 := Lib.hid hj2
                  have HL2 := Lib.hid hle
                  clear hj2 hle
                  go_wp2_with fail
                  go_roundw
                  case rel => exact ⟨i + 1, j2, swp dk i jj, by go_num, by first | rfl | exact congrArg (Value.int .i64) hj2i, Lib.hid ⟨HS.out, by have h1 := HV.out.swap HL2.out (HUP.out HL2.out) (HDN.out HL2.out) (by have := HSZ.out; omega); rw [HJ2.out] at h1 ⊢; exact h1⟩⟩
                  case measure => have := HJ2.out; have := HL2.out; simp [intOf]; omega

end Go.Proofs.YthdagjlgfffpbaaGreat.SU

/-
  slices.Sort at []uint16: partialInsertionSortOrdered. By the verifier.
-/
set_option linter.unusedVariables false
namespace Go.Proofs.YthdagjlgfffpbaaGreat.SU
open Go.RowKit Go.Sort

theorem lt_not {x y a b : Int} (hx : x = a) (hy : y = b) (h : x < y) : ¬ (!ltInt a b) = true := by rw [lt_yes hx hy h]; simp
theorem lt_is {x y a b : Int} (hx : x = a) (hy : y = b) (h : ¬ x < y) : (!ltInt a b) = true := by have := lt_no hx hy h; simpa using this

theorem part_step (a b s i : Nat) (d : Array Int) : partialIns ltInt a b (s + 1) i d = if scanSorted ltInt d b i = b then (d, true) else if b - a < 50 then (d, false) else
    partialIns ltInt a b s (scanSorted ltInt d b i) (if 2 ≤ b - scanSorted ltInt d b i then shiftUp ltInt b (scanSorted ltInt d b i + 1) (if 2 ≤ scanSorted ltInt d b i - a then shiftDown ltInt (scanSorted ltInt d b i - 1) (swp d (scanSorted ltInt d b i) (scanSorted ltInt d b i - 1)) else swp d (scanSorted ltInt d b i) (scanSorted ltInt d b i - 1)) else (if 2 ≤ scanSorted ltInt d b i - a then shiftDown ltInt (scanSorted ltInt d b i - 1) (swp d (scanSorted ltInt d b i) (scanSorted ltInt d b i - 1)) else swp d (scanSorted ltInt d b i) (scanSorted ltInt d b i - 1))) := rfl

set_option maxHeartbeats 16000000 in
set_option maxRecDepth 100000 in
theorem partial_ok {w : World} {blk off m : Nat} {d : Array Int} (h : Rw w blk off m d w) (cap a b : Nat) (hab : a < b) (hb : b ≤ d.size) (hn : d.size ≤ 1000) :
    Calls Tryz.prog 98 #[.slice (some ⟨blk, off, none⟩) d.size cap, .int .i64 (a : Int), .int .i64 (b : Int)] w fun e w' => e = .returned (.bool (partialInsertionSort ltInt d a b).2) ∧ Rw w blk off m (partialInsertionSort ltInt d a b).1 w' := by
  obtain ⟨R0, hR0⟩ : ∃ R0, R0 = partialInsertionSort ltInt d a b := ⟨_, rfl⟩
  rw [← hR0]
  have HR0 : Hid (partialIns ltInt a b 5 (a + 1) d = R0) := Lib.hid (by rw [hR0]; rfl)
  have H := Lib.hid h
  clear h hR0
  go_enter Tryz.func98, Tryz.ntmps98
  go_wp2_with fail
  go_loopw [7, 8] (fun vi vs wr => ∃ (s i : Nat) (dk : Array Int), vi = .int .i64 (i : Int) ∧ vs = .int .i64 (5 - (s : Int)) ∧ s ≤ 5 ∧ a < i ∧ i ≤ b ∧ dk.size = d.size ∧ Hid (Rw w blk off m dk wr ∧ partialIns ltInt a b s i dk = R0)) (fun vi vs _ => (5 - intOf vs).toNat)
  case atStart => exact ⟨5, a + 1, d, by go_num, by go_num, by omega, by omega, by omega, rfl, Lib.hid ⟨H.out, HR0.out⟩⟩
  case round =>
    obtain ⟨s, i0, dk, rfl, rfl, hs5, hai0, hib0, hsk, ho⟩ := hrel
    have HSK := Lib.hid hsk
    have HW0 := Lib.hid ho.out.1
    have HE0 := Lib.hid ho.out.2
    clear ho
    cases s with
    | zero =>
      have hks : ¬ (5 : Int) - ((0 : Nat) : Int) < 5 := by omega
      go_wp2_with fail
      go_ret
      have e : R0 = (dk, false) := by rw [← HE0.out]; rfl
      rw [e]
      exact ⟨rfl, HW0.out⟩
    | succ s =>
      have hks : (5 : Int) - ((s + 1 : Nat) : Int) < 5 := by omega
      have hsv : (5 : Int) - ((s + 1 : Nat) : Int) + 1 = 5 - (s : Int) := by omega
      obtain ⟨S, hS⟩ : ∃ S : Int, S = 5 - ((s + 1 : Nat) : Int) := ⟨_, rfl⟩
      rw [← hS] at hks hsv ⊢
      have HSV := Lib.hid (And.intro hsv hS)
      have hS0 : (0 : Int) ≤ S := by omega
      clear hS hsv
      go_wp2_with fail
      go_loopw [7] (fun vi wr => ∃ i : Nat, vi = .int .i64 (i : Int) ∧ a < i ∧ i ≤ b ∧ Hid (Rw w blk off m dk wr ∧ scanSorted ltInt dk b i = scanSorted ltInt dk b i0)) (fun vi _ => b - (intOf vi).toNat)
      case atStart => exact ⟨i0, rfl, hai0, hib0, Lib.hid ⟨HW0.out, rfl⟩⟩
      case round =>
        clear HW0
        obtain ⟨i, rfl, hai, hib, ho⟩ := hrel
        have HW := Lib.hid ho.out.1
        have HSC := Lib.hid ho.out.2
        clear ho
        obtain ⟨G, hG⟩ : ∃ G : Nat → Int, ∀ t, G t = dk[t]! := ⟨fun t => dk[t]!, fun _ => rfl⟩
        have HG := Lib.hid hG
        clear hG
        have hcw : ∀ t, t < d.size → wr.cell? ⟨blk, off + t, none⟩ = some (.int .u16 (G t)) := fun t ht => by rw [HG.out]; exact HW.out.cell (by rw [HSK.out]; exact ht)
        have hfw : ∀ t, t < d.size → wr.frozen? ⟨blk, off + t, none⟩ = false := fun t ht => HW.out.free _
        go_upto_region 5 with fail
        go_cut [32] from 17 to 34 (fun sv wx => sv = .bool (decide (i < b) && (!decide (G i < G (i - 1)))) ∧ Hid (Rw w blk off m dk wx))
        case first =>
          by_cases hij : i < b
          · have hki : (i : Int) < (b : Int) := by omega
            go_quiet (first | (go_at_call 99; refine Calls.quiet_of_same (less_ok _ _ _)))
            go_wp2_with fail
            go_meet
            exact ⟨by simp [hij], Lib.hid (HW.out.drewN _)⟩
          · have hki : ¬ (i : Int) < (b : Int) := by omega
            go_quiet (first | (go_at_call 99; refine Calls.quiet_of_same (less_ok _ _ _)))
            go_wp2_with fail
            go_meet
            exact ⟨by simp [hij], Lib.hid (HW.out.drewN _)⟩
        case rest =>
          obtain ⟨rfl, hcut2⟩ := hcut
          generalize hB : (decide (i < b) && (!decide (G i < G (i - 1)))) = B
          cases B with
          | true =>
            rw [Bool.and_eq_true, decide_eq_true_eq] at hB
            have hle := hB.1
            have HL : Hid ((decide (i < b) && !ltInt dk[i]! dk[i - 1]!) = true) := Lib.hid (by rw [decide_eq_true hB.1, Bool.true_and]; exact lt_is (HG.out _) (HG.out _) (by simpa using hB.2))
            clear hB hcw hfw
            go_wp2_with fail
            go_roundw
            case rel => exact ⟨i + 1, by go_num, by omega, by omega, Lib.hid ⟨hcut2.out, by rw [← HSC.out]; conv => rhs; rw [scanSorted, if_pos HL.out]⟩⟩
            case measure => simp [intOf]; omega
          | false =>
            have HST : Hid (scanSorted ltInt dk b i0 = i) := Lib.hid (by
              rw [← HSC.out, scanSorted, if_neg]
              intro hh
              rw [Bool.and_eq_true, decide_eq_true_eq] at hh
              rw [decide_eq_true hh.1, Bool.true_and] at hB
              have h2 := hh.2
              have h3 : G i < G (i - 1) := by simpa using hB
              exact lt_not (HG.out _) (HG.out _) h3 h2)
            have HW2 := Lib.hid hcut2.out
            clear hB hcw hfw hcut2 HW HSC
            obtain ⟨w3, hw3⟩ : ∃ w3, w3 = wc := ⟨_, rfl⟩
            rw [← hw3] at HW2 ⊢
            clear hw3
            by_cases hieb : i = b
            · have hkib : (i : Int) = (b : Int) := by omega
              have e : R0 = (dk, true) := by
                rw [← HE0.out, part_step, HST.out, if_pos hieb]
              clear hieb
              go_wp2_with fail
              go_ret
              rw [e]
              exact ⟨rfl, HW2.out⟩
            · have hkib : ¬ (i : Int) = (b : Int) := by omega
              by_cases h50 : b - a < 50
              · have hk50 : (b : Int) - (a : Int) < 50 := by omega
                have e : R0 = (dk, false) := by
                  rw [← HE0.out, part_step, HST.out, if_neg hieb, if_pos h50]
                go_wp2_with fail
                go_ret
                rw [e]
                exact ⟨rfl, HW2.out⟩
              · have hk50 : ¬ (b : Int) - (a : Int) < 50 := by omega
                have hib2 : i < b := by omega
                obtain ⟨d1, hd1⟩ : ∃ d1, d1 = swp dk i (i - 1) := ⟨_, rfl⟩
                have HEQ : Hid (partialIns ltInt a b s i (if 2 ≤ b - i then shiftUp ltInt b (i + 1) (if 2 ≤ i - a then shiftDown ltInt (i - 1) d1 else d1) else (if 2 ≤ i - a then shiftDown ltInt (i - 1) d1 else d1)) = R0) := Lib.hid (by
                  rw [hd1, ← HE0.out, part_step, HST.out, if_neg hieb, if_neg h50])
                have HS1 : Hid (d1.size = d.size) := Lib.hid (by rw [hd1, size_swp]; exact hsk)
                clear HE0 HST
                have hcw : ∀ t, t < d.size → w3.cell? ⟨blk, off + t, none⟩ = some (.int .u16 (G t)) := fun t ht => by rw [HG.out]; exact HW2.out.cell (by rw [HSK.out]; exact ht)
                have hfw : ∀ t, t < d.size → w3.frozen? ⟨blk, off + t, none⟩ = false := fun t ht => HW2.out.free _
                obtain ⟨u, hu⟩ := HW2.out.kept (i := i) (j := i - 1) (.int .u16 (G (i - 1))) (by rw [HSK.out]; omega)
                go_wp2_with fail
                go_region
                all_goals skip
                have hs4 : Rw w blk off m (Sort.swp dk (i) (i - 1)) (((w3.setCell ⟨blk, off + (i), none⟩ (.int .u16 (G (i - 1)))).setCell ⟨blk, off + (i - 1), none⟩ (.int .u16 (G (i))))).drew := by
                  rw [HG.out, HG.out]
                  exact (HW2.out.swap (i := i) (j := i - 1) (by rw [HSK.out]; omega) (by rw [HSK.out]; omega)).drew
                have HS := Lib.hid hs4
                try generalize ((w3.setCell ⟨blk, off + (i), none⟩ (.int .u16 (G (i - 1)))).setCell ⟨blk, off + (i - 1), none⟩ (.int .u16 (G (i)))).drew = w5 at *
                clear hs4 hcw hfw hu
                rw [← hd1] at HS
                have HR1 := HS
                clear HS hd1 HG HW2 HSK hsk hai0 hib0
                by_cases hia2 : 2 ≤ i - a
                · have hka : (2 : Int) ≤ (i : Int) - (a : Int) := by omega
                  obtain ⟨i1, hi1⟩ : ∃ i1, i1 = i - 1 := ⟨_, rfl⟩
                  have hi1i : (i : Int) - 1 = (i1 : Int) := by omega
                  have HI1 := Lib.hid hi1
                  have hi1b : i1 < b := by omega
                  have hi1i2 : i1 < i := by omega
                  clear hi1
                  go_wp2_with fail
                  go_loopw [9] (fun vj wr => ∃ (j : Nat) (dj : Array Int), vj = .int .i64 (j : Int) ∧ j ≤ i1 ∧ dj.size = d.size ∧ Hid (Rw w blk off m dj wr ∧ shiftDown ltInt j dj = shiftDown ltInt i1 d1)) (fun vj _ => (intOf vj).toNat)
                  case atStart => exact ⟨i1, d1, by first | rfl | exact congrArg (Value.int .i64) hi1i, Nat.le_refl _, HS1.out, Lib.hid ⟨HR1.out, rfl⟩⟩
                  case round =>
                    clear hi1i
                    obtain ⟨j, dj, rfl, hji, hsj, hq⟩ := hrel
                    have HSJ := Lib.hid hsj
                    have HQ := Lib.hid hq.out.1
                    have HU := Lib.hid hq.out.2
                    clear hq
                    cases j with
                    | succ j =>
                      have hkj : (1 : Int) ≤ ((j + 1 : Nat) : Int) := by omega
                      have hj1 : ((j + 1 : Nat) : Int) - 1 = (j : Int) := by omega
                      have HJ : Hid (((j + 1 : Nat) : Int) - 1 = (j : Int)) := Lib.hid hj1
                      obtain ⟨k, hk⟩ : ∃ k, k = j + 1 := ⟨_, rfl⟩
                      have HK := Lib.hid hk
                      rw [← hk] at hkj hj1 hji ⊢
                      have hk1 : k - 1 = j := by omega
                      obtain ⟨F, hG⟩ : ∃ G : Nat → Int, ∀ t, G t = dj[t]! := ⟨fun t => dj[t]!, fun _ => rfl⟩
                      have HF := Lib.hid hG
                      clear hG
                      have hcw : ∀ t, t < d.size → wr.cell? ⟨blk, off + t, none⟩ = some (.int .u16 (F t)) := fun t ht => by rw [HF.out]; exact HQ.out.cell (by rw [HSJ.out]; exact ht)
                      have hfw : ∀ t, t < d.size → wr.frozen? ⟨blk, off + t, none⟩ = false := fun t ht => HQ.out.free _
                      clear hk hj1 hk1
                      go_wp2_with fail
                      go_quiet (first | (go_at_call 99; refine Calls.quiet_of_same (less_ok _ _ _)))
                      generalize hB : decide (F k < F (k - 1)) = B
                      have HQ2 := Lib.hid (HQ.out.drewN nq)
                      generalize wr.drewN nq = w6 at *
                      clear hcw hfw
                      cases B with
                      | true =>
                        have hl := of_decide_eq_true hB
                        go_wp2_with fail
                        have hcw : ∀ t, t < d.size → w6.cell? ⟨blk, off + t, none⟩ = some (.int .u16 (F t)) := fun t ht => by rw [HF.out]; exact HQ2.out.cell (by rw [HSJ.out]; exact ht)
                        have hfw : ∀ t, t < d.size → w6.frozen? ⟨blk, off + t, none⟩ = false := fun t ht => HQ2.out.free _
                        obtain ⟨u, hu⟩ := HQ2.out.kept (i := k) (j := k - 1) (.int .u16 (F (k - 1))) (by rw [HSJ.out]; omega)
                        go_wp2_with fail
                        go_region
                        all_goals go_wp2_with fail
                        have hs4 : Rw w blk off m (Sort.swp dj (k) (k - 1)) (((w6.setCell ⟨blk, off + (k), none⟩ (.int .u16 (F (k - 1)))).setCell ⟨blk, off + (k - 1), none⟩ (.int .u16 (F (k))))).drew := by
                          rw [HF.out, HF.out]
                          exact (HQ2.out.swap (i := k) (j := k - 1) (by rw [HSJ.out]; omega) (by rw [HSJ.out]; omega)).drew
                        have HS6 := Lib.hid hs4
                        try generalize ((w6.setCell ⟨blk, off + (k), none⟩ (.int .u16 (F (k - 1)))).setCell ⟨blk, off + (k - 1), none⟩ (.int .u16 (F (k)))).drew = w7 at *
                        clear hs4 hcw hfw hu
                        go_wp2_with fail
                        go_roundw
                        case rel => exact ⟨j, Sort.swp dj k (k - 1), by have := HK.out; congr 1; omega, by have := HK.out; omega, by rw [size_swp]; exact hsj, Lib.hid ⟨HS6.out, by have e := HU.out; have h2 := lt_not (HF.out _) (HF.out _) hl; rw [HK.out, Nat.add_sub_cancel] at h2 ⊢; rw [shiftDown, if_neg h2] at e; exact e⟩⟩
                        case measure => have := HK.out; simp [intOf]; omega
                      | false =>
                        have hl := of_decide_eq_false hB
                        have HE : Hid (shiftDown ltInt i1 d1 = dj) := Lib.hid (by have e := HU.out; have h2 := lt_is (HF.out _) (HF.out _) hl; rw [HK.out, Nat.add_sub_cancel] at h2; rw [shiftDown, if_pos h2] at e; exact e.symm)
                        clear hB
                        have HEQ2 : Hid (partialIns ltInt a b s i (if 2 ≤ b - i then shiftUp ltInt b (i + 1) dj else dj) = R0) := Lib.hid (by rw [← HEQ.out, if_pos hia2, ← HI1.out, HE.out])
                        clear HSJ HF HU
                        have HSJ : Hid (dj.size = d.size) := Lib.hid hsj
                        by_cases hbi : 2 ≤ b - i
                        · have hkb : (2 : Int) ≤ (b : Int) - (i : Int) := by omega
                          go_wp2_with fail
                          go_loopw [10] (fun vj wr => ∃ (j : Nat) (dl : Array Int), vj = .int .i64 (j : Int) ∧ i < j ∧ j ≤ b ∧ dl.size = d.size ∧ Hid (Rw w blk off m dl wr ∧ shiftUp ltInt b j dl = shiftUp ltInt b (i + 1) dj)) (fun vj _ => b - (intOf vj).toNat)
                          case atStart => exact ⟨i + 1, dj, by first | rfl | go_num, by omega, by omega, HSJ.out, Lib.hid ⟨HQ2.out, rfl⟩⟩
                          case round =>
                            obtain ⟨j, dl, rfl, hij, hjb, hsj, hq⟩ := hrel
                            have HSU := Lib.hid hsj
                            have HQ := Lib.hid hq.out.1
                            have HU := Lib.hid hq.out.2
                            clear hq
                            by_cases hlt : j < b
                            · have hkj : (j : Int) < (b : Int) := by omega
                              obtain ⟨F, hG⟩ : ∃ G : Nat → Int, ∀ t, G t = dl[t]! := ⟨fun t => dl[t]!, fun _ => rfl⟩
                              have HF := Lib.hid hG
                              clear hG
                              have hcw : ∀ t, t < d.size → wr.cell? ⟨blk, off + t, none⟩ = some (.int .u16 (F t)) := fun t ht => by rw [HF.out]; exact HQ.out.cell (by rw [HSU.out]; exact ht)
                              have hfw : ∀ t, t < d.size → wr.frozen? ⟨blk, off + t, none⟩ = false := fun t ht => HQ.out.free _
                              go_wp2_with fail
                              go_quiet (first | (go_at_call 99; refine Calls.quiet_of_same (less_ok _ _ _)))
                              generalize hB : decide (F j < F (j - 1)) = B
                              have HQ2 := Lib.hid (HQ.out.drewN nq)
                              generalize wr.drewN nq = w6 at *
                              clear hcw hfw
                              cases B with
                              | true =>
                                have hl := of_decide_eq_true hB
                                go_wp2_with fail
                                have hcw : ∀ t, t < d.size → w6.cell? ⟨blk, off + t, none⟩ = some (.int .u16 (F t)) := fun t ht => by rw [HF.out]; exact HQ2.out.cell (by rw [HSU.out]; exact ht)
                                have hfw : ∀ t, t < d.size → w6.frozen? ⟨blk, off + t, none⟩ = false := fun t ht => HQ2.out.free _
                                obtain ⟨u, hu⟩ := HQ2.out.kept (i := j) (j := j - 1) (.int .u16 (F (j - 1))) (by rw [HSU.out]; omega)
                                go_wp2_with fail
                                go_region
                                all_goals go_wp2_with fail
                                have hs4 : Rw w blk off m (Sort.swp dl (j) (j - 1)) (((w6.setCell ⟨blk, off + (j), none⟩ (.int .u16 (F (j - 1)))).setCell ⟨blk, off + (j - 1), none⟩ (.int .u16 (F (j))))).drew := by
                                  rw [HF.out, HF.out]
                                  exact (HQ2.out.swap (i := j) (j := j - 1) (by rw [HSU.out]; omega) (by rw [HSU.out]; omega)).drew
                                have HS6 := Lib.hid hs4
                                try generalize ((w6.setCell ⟨blk, off + (j), none⟩ (.int .u16 (F (j - 1)))).setCell ⟨blk, off + (j - 1), none⟩ (.int .u16 (F (j)))).drew = w7 at *
                                clear hs4 hcw hfw hu
                                go_wp2_with fail
                                go_roundw
                                case rel => exact ⟨j + 1, Sort.swp dl j (j - 1), by go_num, by omega, by omega, by rw [size_swp]; exact hsj, Lib.hid ⟨HS6.out, by rw [← HU.out]; conv => rhs; rw [shiftUp, if_pos hlt, if_neg (lt_not (HF.out _) (HF.out _) hl)]⟩⟩
                                case measure => simp [intOf]; omega
                              | false =>
                                have hl := of_decide_eq_false hB
                                have HE : Hid (shiftUp ltInt b (i + 1) dj = dl) := Lib.hid (by rw [← HU.out, shiftUp, if_pos hlt, if_pos (lt_is (HF.out _) (HF.out _) hl)])
                                clear hB
                                go_wp2_with fail
                                go_roundw
                                case rel => exact ⟨s, i, dl, rfl, by have := HSV.out; first | rfl | (congr 1; omega), by omega, by omega, by omega, hsj, Lib.hid ⟨HQ2.out, by rw [← HEQ2.out, if_pos hbi, HE.out]⟩⟩
                                case measure => have := HSV.out; simp [intOf]; omega
                            · have hkj : ¬ (j : Int) < (b : Int) := by omega
                              have HE : Hid (shiftUp ltInt b (i + 1) dj = dl) := Lib.hid (by rw [← HU.out, shiftUp, if_neg hlt])
                              go_wp2_with fail
                              go_roundw
                              case rel => exact ⟨s, i, dl, rfl, by have := HSV.out; first | rfl | (congr 1; omega), by omega, by omega, by omega, hsj, Lib.hid ⟨HQ.out, by rw [← HEQ2.out, if_pos hbi, HE.out]⟩⟩
                              case measure => have := HSV.out; simp [intOf]; omega
                        · have hkb : ¬ (2 : Int) ≤ (b : Int) - (i : Int) := by omega
                          go_wp2_with fail
                          go_roundw
                          case rel => exact ⟨s, i, dj, rfl, by have := HSV.out; first | rfl | (congr 1; omega), by omega, by omega, by omega, HSJ.out, Lib.hid ⟨HQ2.out, by rw [← HEQ2.out, if_neg hbi]⟩⟩
                          case measure => have := HSV.out; simp [intOf]; omega
                    | zero =>
                      have hkj : ¬ (1 : Int) ≤ ((0 : Nat) : Int) := by omega
                      have HE : Hid (shiftDown ltInt i1 d1 = dj) := Lib.hid (by have e := HU.out; rw [shiftDown] at e; exact e.symm)
                      have HEQ2 : Hid (partialIns ltInt a b s i (if 2 ≤ b - i then shiftUp ltInt b (i + 1) dj else dj) = R0) := Lib.hid (by rw [← HEQ.out, if_pos hia2, ← HI1.out, HE.out])
                      clear HU
                      by_cases hbi : 2 ≤ b - i
                      · have hkb : (2 : Int) ≤ (b : Int) - (i : Int) := by omega
                        go_wp2_with fail
                        go_loopw [10] (fun vj wr => ∃ (j : Nat) (dl : Array Int), vj = .int .i64 (j : Int) ∧ i < j ∧ j ≤ b ∧ dl.size = d.size ∧ Hid (Rw w blk off m dl wr ∧ shiftUp ltInt b j dl = shiftUp ltInt b (i + 1) dj)) (fun vj _ => b - (intOf vj).toNat)
                        case atStart => exact ⟨i + 1, dj, by first | rfl | go_num, by omega, by omega, HSJ.out, Lib.hid ⟨HQ.out, rfl⟩⟩
                        case round =>
                          obtain ⟨j, dl, rfl, hij, hjb, hsj, hq⟩ := hrel
                          have HSU := Lib.hid hsj
                          have HQ := Lib.hid hq.out.1
                          have HU := Lib.hid hq.out.2
                          clear hq
                          by_cases hlt : j < b
                          · have hkj : (j : Int) < (b : Int) := by omega
                            obtain ⟨F, hG⟩ : ∃ G : Nat → Int, ∀ t, G t = dl[t]! := ⟨fun t => dl[t]!, fun _ => rfl⟩
                            have HF := Lib.hid hG
                            clear hG
                            have hcw : ∀ t, t < d.size → wr.cell? ⟨blk, off + t, none⟩ = some (.int .u16 (F t)) := fun t ht => by rw [HF.out]; exact HQ.out.cell (by rw [HSU.out]; exact ht)
                            have hfw : ∀ t, t < d.size → wr.frozen? ⟨blk, off + t, none⟩ = false := fun t ht => HQ.out.free _
                            go_wp2_with fail
                            go_quiet (first | (go_at_call 99; refine Calls.quiet_of_same (less_ok _ _ _)))
                            generalize hB : decide (F j < F (j - 1)) = B
                            have HQ2 := Lib.hid (HQ.out.drewN nq)
                            generalize wr.drewN nq = w6 at *
                            clear hcw hfw
                            cases B with
                            | true =>
                              have hl := of_decide_eq_true hB
                              go_wp2_with fail
                              have hcw : ∀ t, t < d.size → w6.cell? ⟨blk, off + t, none⟩ = some (.int .u16 (F t)) := fun t ht => by rw [HF.out]; exact HQ2.out.cell (by rw [HSU.out]; exact ht)
                              have hfw : ∀ t, t < d.size → w6.frozen? ⟨blk, off + t, none⟩ = false := fun t ht => HQ2.out.free _
                              obtain ⟨u, hu⟩ := HQ2.out.kept (i := j) (j := j - 1) (.int .u16 (F (j - 1))) (by rw [HSU.out]; omega)
                              go_wp2_with fail
                              go_region
                              all_goals go_wp2_with fail
                              have hs4 : Rw w blk off m (Sort.swp dl (j) (j - 1)) (((w6.setCell ⟨blk, off + (j), none⟩ (.int .u16 (F (j - 1)))).setCell ⟨blk, off + (j - 1), none⟩ (.int .u16 (F (j))))).drew := by
                                rw [HF.out, HF.out]
                                exact (HQ2.out.swap (i := j) (j := j - 1) (by rw [HSU.out]; omega) (by rw [HSU.out]; omega)).drew
                              have HS6 := Lib.hid hs4
                              try generalize ((w6.setCell ⟨blk, off + (j), none⟩ (.int .u16 (F (j - 1)))).setCell ⟨blk, off + (j - 1), none⟩ (.int .u16 (F (j)))).drew = w7 at *
                              clear hs4 hcw hfw hu
                              go_wp2_with fail
                              go_roundw
                              case rel => exact ⟨j + 1, Sort.swp dl j (j - 1), by go_num, by omega, by omega, by rw [size_swp]; exact hsj, Lib.hid ⟨HS6.out, by rw [← HU.out]; conv => rhs; rw [shiftUp, if_pos hlt, if_neg (lt_not (HF.out _) (HF.out _) hl)]⟩⟩
                              case measure => simp [intOf]; omega
                            | false =>
                              have hl := of_decide_eq_false hB
                              have HE : Hid (shiftUp ltInt b (i + 1) dj = dl) := Lib.hid (by rw [← HU.out, shiftUp, if_pos hlt, if_pos (lt_is (HF.out _) (HF.out _) hl)])
                              clear hB
                              go_wp2_with fail
                              go_roundw
                              case rel => exact ⟨s, i, dl, rfl, by have := HSV.out; first | rfl | (congr 1; omega), by omega, by omega, by omega, hsj, Lib.hid ⟨HQ2.out, by rw [← HEQ2.out, if_pos hbi, HE.out]⟩⟩
                              case measure => have := HSV.out; simp [intOf]; omega
                          · have hkj : ¬ (j : Int) < (b : Int) := by omega
                            have HE : Hid (shiftUp ltInt b (i + 1) dj = dl) := Lib.hid (by rw [← HU.out, shiftUp, if_neg hlt])
                            go_wp2_with fail
                            go_roundw
                            case rel => exact ⟨s, i, dl, rfl, by have := HSV.out; first | rfl | (congr 1; omega), by omega, by omega, by omega, hsj, Lib.hid ⟨HQ.out, by rw [← HEQ2.out, if_pos hbi, HE.out]⟩⟩
                            case measure => have := HSV.out; simp [intOf]; omega
                      · have hkb : ¬ (2 : Int) ≤ (b : Int) - (i : Int) := by omega
                        go_wp2_with fail
                        go_roundw
                        case rel => exact ⟨s, i, dj, rfl, by have := HSV.out; first | rfl | (congr 1; omega), by omega, by omega, by omega, HSJ.out, Lib.hid ⟨HQ.out, by rw [← HEQ2.out, if_neg hbi]⟩⟩
                        case measure => have := HSV.out; simp [intOf]; omega
                · have hka : ¬ (2 : Int) ≤ (i : Int) - (a : Int) := by omega
                  have HEQ2 : Hid (partialIns ltInt a b s i (if 2 ≤ b - i then shiftUp ltInt b (i + 1) d1 else d1) = R0) := Lib.hid (by rw [← HEQ.out, if_neg hia2])
                  by_cases hbi : 2 ≤ b - i
                  · have hkb : (2 : Int) ≤ (b : Int) - (i : Int) := by omega
                    go_wp2_with fail
                    go_loopw [10] (fun vj wr => ∃ (j : Nat) (dl : Array Int), vj = .int .i64 (j : Int) ∧ i < j ∧ j ≤ b ∧ dl.size = d.size ∧ Hid (Rw w blk off m dl wr ∧ shiftUp ltInt b j dl = shiftUp ltInt b (i + 1) d1)) (fun vj _ => b - (intOf vj).toNat)
                    case atStart => exact ⟨i + 1, d1, by first | rfl | go_num, by omega, by omega, HS1.out, Lib.hid ⟨HR1.out, rfl⟩⟩
                    case round =>
                      obtain ⟨j, dl, rfl, hij, hjb, hsj, hq⟩ := hrel
                      have HSU := Lib.hid hsj
                      have HQ := Lib.hid hq.out.1
                      have HU := Lib.hid hq.out.2
                      clear hq
                      by_cases hlt : j < b
                      · have hkj : (j : Int) < (b : Int) := by omega
                        obtain ⟨F, hG⟩ : ∃ G : Nat → Int, ∀ t, G t = dl[t]! := ⟨fun t => dl[t]!, fun _ => rfl⟩
                        have HF := Lib.hid hG
                        clear hG
                        have hcw : ∀ t, t < d.size → wr.cell? ⟨blk, off + t, none⟩ = some (.int .u16 (F t)) := fun t ht => by rw [HF.out]; exact HQ.out.cell (by rw [HSU.out]; exact ht)
                        have hfw : ∀ t, t < d.size → wr.frozen? ⟨blk, off + t, none⟩ = false := fun t ht => HQ.out.free _
                        go_wp2_with fail
                        go_quiet (first | (go_at_call 99; refine Calls.quiet_of_same (less_ok _ _ _)))
                        generalize hB : decide (F j < F (j - 1)) = B
                        have HQ2 := Lib.hid (HQ.out.drewN nq)
                        generalize wr.drewN nq = w6 at *
                        clear hcw hfw
                        cases B with
                        | true =>
                          have hl := of_decide_eq_true hB
                          go_wp2_with fail
                          have hcw : ∀ t, t < d.size → w6.cell? ⟨blk, off + t, none⟩ = some (.int .u16 (F t)) := fun t ht => by rw [HF.out]; exact HQ2.out.cell (by rw [HSU.out]; exact ht)
                          have hfw : ∀ t, t < d.size → w6.frozen? ⟨blk, off + t, none⟩ = false := fun t ht => HQ2.out.free _
                          obtain ⟨u, hu⟩ := HQ2.out.kept (i := j) (j := j - 1) (.int .u16 (F (j - 1))) (by rw [HSU.out]; omega)
                          go_wp2_with fail
                          go_region
                          all_goals go_wp2_with fail
                          have hs4 : Rw w blk off m (Sort.swp dl (j) (j - 1)) (((w6.setCell ⟨blk, off + (j), none⟩ (.int .u16 (F (j - 1)))).setCell ⟨blk, off + (j - 1), none⟩ (.int .u16 (F (j))))).drew := by
                            rw [HF.out, HF.out]
                            exact (HQ2.out.swap (i := j) (j := j - 1) (by rw [HSU.out]; omega) (by rw [HSU.out]; omega)).drew
                          have HS6 := Lib.hid hs4
                          try generalize ((w6.setCell ⟨blk, off + (j), none⟩ (.int .u16 (F (j - 1)))).setCell ⟨blk, off + (j - 1), none⟩ (.int .u16 (F (j)))).drew = w7 at *
                          clear hs4 hcw hfw hu
                          go_wp2_with fail
                          go_roundw
                          case rel => exact ⟨j + 1, Sort.swp dl j (j - 1), by go_num, by omega, by omega, by rw [size_swp]; exact hsj, Lib.hid ⟨HS6.out, by rw [← HU.out]; conv => rhs; rw [shiftUp, if_pos hlt, if_neg (lt_not (HF.out _) (HF.out _) hl)]⟩⟩
                          case measure => simp [intOf]; omega
                        | false =>
                          have hl := of_decide_eq_false hB
                          have HE : Hid (shiftUp ltInt b (i + 1) d1 = dl) := Lib.hid (by rw [← HU.out, shiftUp, if_pos hlt, if_pos (lt_is (HF.out _) (HF.out _) hl)])
                          clear hB
                          go_wp2_with fail
                          go_roundw
                          case rel => exact ⟨s, i, dl, rfl, by have := HSV.out; first | rfl | (congr 1; omega), by omega, by omega, by omega, hsj, Lib.hid ⟨HQ2.out, by rw [← HEQ2.out, if_pos hbi, HE.out]⟩⟩
                          case measure => have := HSV.out; simp [intOf]; omega
                      · have hkj : ¬ (j : Int) < (b : Int) := by omega
                        have HE : Hid (shiftUp ltInt b (i + 1) d1 = dl) := Lib.hid (by rw [← HU.out, shiftUp, if_neg hlt])
                        go_wp2_with fail
                        go_roundw
                        case rel => exact ⟨s, i, dl, rfl, by have := HSV.out; first | rfl | (congr 1; omega), by omega, by omega, by omega, hsj, Lib.hid ⟨HQ.out, by rw [← HEQ2.out, if_pos hbi, HE.out]⟩⟩
                        case measure => have := HSV.out; simp [intOf]; omega
                  · have hkb : ¬ (2 : Int) ≤ (b : Int) - (i : Int) := by omega
                    go_wp2_with fail
                    go_roundw
                    case rel => exact ⟨s, i, d1, rfl, by have := HSV.out; first | rfl | (congr 1; omega), by omega, by omega, by omega, HS1.out, Lib.hid ⟨HR1.out, by rw [← HEQ2.out, if_neg hbi]⟩⟩
                    case measure => have := HSV.out; simp [intOf]; omega

end Go.Proofs.YthdagjlgfffpbaaGreat.SU

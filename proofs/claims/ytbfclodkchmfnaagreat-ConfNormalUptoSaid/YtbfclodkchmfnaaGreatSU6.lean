/-
  slices.Sort at []uint16: partitionOrdered. By the verifier.
-/
import Derived.Test.YtbfclodkchmfnaaGreatSU1
import Derived.Deep.DeepCutAuto
import Derived.Deep.CutRange
set_option linter.unusedVariables false
namespace Go.Proofs.YtbfclodkchmfnaaGreat.SU
open Go.RowKit Go.Sort

/-- While a range is parted by its first place's value p: what lies behind it up to i is of the one kind, what lies from j on of the other. -/
structure Inv (Lb : Int → Bool) (p : Int) (d0 : Array Int) (a b i j : Nat) (dk : Array Int) : Prop where
  perm : PermIn a b d0 dk
  ai : a < i
  ij : i ≤ j + 1
  jb : j < b
  bs : b ≤ d0.size
  piv : dk[a]! = p
  lo : ∀ t, a < t → t < i → Lb dk[t]! = true
  hi : ∀ t, j < t → t < b → Lb dk[t]! = false

theorem Inv.start {Lb : Int → Bool} {p : Int} {d : Array Int} {a b pv j : Nat} (hap : a ≤ pv) (hpb : pv < b) (hb : b ≤ d.size) (hp : p = d[pv]!) (hj : b = j + 1) : Inv Lb p d a b (a + 1) j (swp d a pv) := by
  refine ⟨swp_permIn d a b a pv (Nat.le_refl _) (by omega) hap hpb hb, by omega, by omega, by omega, hb, ?_, fun t h1 h2 => by omega, fun t h1 h2 => by omega⟩
  by_cases e : a = pv
  · subst e
    rw [swp_right d a a (by omega), hp]
  · rw [swp_left d a pv (by omega) e, hp]
theorem Inv.up {Lb : Int → Bool} {p : Int} {d0 dk : Array Int} {a b i j : Nat} (h : Inv Lb p d0 a b i j dk) (hij : i ≤ j) (hl : Lb dk[i]! = true) : Inv Lb p d0 a b (i + 1) j dk :=
  ⟨h.perm, by have := h.ai; omega, by omega, h.jb, h.bs, h.piv, fun t h1 h2 => by
    by_cases e : t = i
    · subst e; exact hl
    · exact h.lo t h1 (by omega), h.hi⟩
theorem Inv.down {Lb : Int → Bool} {p : Int} {d0 dk : Array Int} {a b i j : Nat} (h : Inv Lb p d0 a b i j dk) (hij : i ≤ j) (hl : Lb dk[j]! = false) : Inv Lb p d0 a b i (j - 1) dk :=
  ⟨h.perm, h.ai, by have := h.ai; omega, by have := h.jb; omega, h.bs, h.piv, h.lo, fun t h1 h2 => by
    by_cases e : t = j
    · subst e; exact hl
    · exact h.hi t (by omega) h2⟩
theorem Inv.swap {Lb : Int → Bool} {p : Int} {d0 dk : Array Int} {a b i j : Nat} (h : Inv Lb p d0 a b i j dk) (hij : i ≤ j) (hi : Lb dk[i]! = false) (hj : Lb dk[j]! = true) (hs : j < dk.size) : Inv Lb p d0 a b (i + 1) (j - 1) (swp dk i j) := by
  have hne : i ≠ j := fun e => by subst e; rw [hi] at hj; cases hj
  have ha := h.ai
  have hjb := h.jb
  have hsz := h.perm.1
  have hbs := h.bs
  refine ⟨permIn_trans _ _ _ a b h.perm (swp_permIn dk a b i j (by omega) (by omega) (by omega) hjb (by omega)), by omega, by omega, by omega, h.bs, ?_, fun t h1 h2 => ?_, fun t h1 h2 => ?_⟩
  · rw [swp_other dk i j a (by omega) (by omega)]
    exact h.piv
  · by_cases e : t = i
    · subst e
      rw [swp_left dk t j (by omega) hne]
      exact hj
    · rw [swp_other dk i j t e (by omega)]
      exact h.lo t h1 (by omega)
  · by_cases e : t = j
    · subst e
      rw [swp_right dk i t hs]
      exact hi
    · rw [swp_other dk i j t (by omega) e]
      exact h.hi t (by omega) h2

/-- A range that is parted at mid. -/
structure Parted (d0 : Array Int) (a b mid : Nat) (d : Array Int) : Prop where
  am : a ≤ mid
  mb : mid < b
  perm : PermIn a b d0 d
  lo : ∀ t, a ≤ t → t < mid → ltInt d[t]! d[mid]! = true
  hi : ∀ t, mid < t → t < b → ltInt d[t]! d[mid]! = false

theorem Inv.part {Lb : Int → Bool} {p : Int} {d0 dk : Array Int} {a b i j : Nat} (h : Inv Lb p d0 a b i j dk) (hL : ∀ x, Lb x = decide (x < p)) (hij : i = j + 1) (hs : j < dk.size) : Parted d0 a b j (swp dk j a) := by
  have ha := h.ai
  have hjb := h.jb
  have hsz := h.perm.1
  have hbs := h.bs
  have hmid : (swp dk j a)[j]! = p := by
    by_cases e : j = a
    · subst e
      rw [swp_right dk j j hs]
      exact h.piv
    · rw [swp_left dk j a hs e]
      exact h.piv
  refine ⟨by omega, hjb, permIn_trans _ _ _ a b h.perm (swp_permIn dk a b j a (by omega) hjb (Nat.le_refl _) (by omega) (by omega)), fun t h1 h2 => ?_, fun t h1 h2 => ?_⟩
  · rw [hmid]
    by_cases e : t = a
    · subst e
      rw [swp_right dk j t (by omega)]
      have := h.lo j (by omega) (by omega)
      rw [hL] at this
      exact this
    · rw [swp_other dk j a t (by omega) e]
      have := h.lo t (by omega) (by omega)
      rw [hL] at this
      exact this
  · rw [hmid, swp_other dk j a t (by omega) (by omega)]
    have := h.hi t h1 h2
    rw [hL] at this
    exact this

/-- A range whose first elements are p, and whose others are greater. -/
structure Evened (d0 : Array Int) (a b mid : Nat) (p : Int) (d : Array Int) : Prop where
  am : a < mid
  mb : mid ≤ b
  perm : PermIn a b d0 d
  lo : ∀ t, a ≤ t → t < mid → ltInt p d[t]! = false
  hi : ∀ t, mid ≤ t → t < b → ltInt p d[t]! = true

theorem Inv.same {Lb : Int → Bool} {p : Int} {d0 dk : Array Int} {a b i j : Nat} (h : Inv Lb p d0 a b i j dk) (hL : ∀ x, Lb x = !decide (p < x)) (hij : i = j + 1) : Evened d0 a b i p dk := by
  have ha := h.ai
  have hjb := h.jb
  refine ⟨ha, by omega, h.perm, fun t h1 h2 => ?_, fun t h1 h2 => ?_⟩
  · by_cases e : t = a
    · subst e
      rw [h.piv]
      exact decide_eq_false (by omega)
    · have := h.lo t (by omega) h2
      rw [hL] at this
      simpa [ltInt] using this
  · have := h.hi t (by omega) h2
    rw [hL] at this
    simpa [ltInt] using this

set_option maxHeartbeats 16000000 in
set_option maxRecDepth 100000 in
theorem partition_ok {w : World} {blk off m : Nat} {d : Array Int} (h : Rw w blk off m d w) (cap a b pv : Nat) (hap : a ≤ pv) (hpb : pv < b) (hb : b ≤ d.size) (hn : d.size ≤ 1000) :
    Calls Tryz.prog 107 #[.slice (some ⟨blk, off, none⟩) d.size cap, .int .i64 (a : Int), .int .i64 (b : Int), .int .i64 (pv : Int)] w fun e w' => ∃ (mid : Nat) (t : Bool) (d' : Array Int), e = .returned (.tuple #[.int .i64 (mid : Int), .bool t]) ∧ Rw w blk off m d' w' ∧ Parted d a b mid d' := by
  obtain ⟨j, hj⟩ : ∃ j, b = j + 1 := ⟨b - 1, by omega⟩
  have hji : (b : Int) - 1 = (j : Int) := by omega
  obtain ⟨p, hp⟩ : ∃ p, p = d[pv]! := ⟨_, rfl⟩
  obtain ⟨Lb, hLb⟩ : ∃ Lb : Int → Bool, ∀ x, Lb x = decide (x < p) := ⟨_, fun _ => rfl⟩
  have HLB := Lib.hid hLb
  have HV0 : Hid (Inv Lb p d a b (a + 1) j (swp d a pv)) := Lib.hid (Inv.start hap hpb hb hp hj)
  have HSZ : Hid (d.size = d.size) := Lib.hid rfl
  obtain ⟨G, hG⟩ : ∃ G : Nat → Int, ∀ t, G t = d[t]! := ⟨fun t => d[t]!, fun _ => rfl⟩
  have HG := Lib.hid hG
  obtain ⟨w3, hw3⟩ : ∃ w3, w3 = w := ⟨_, rfl⟩
  have HW0 := h
  rw [← hw3] at HW0
  have HW : Hid (Rw w blk off m d w3) := Lib.hid (by rw [hw3]; exact h)
  rw [show (Calls Tryz.prog 107 #[.slice (some ⟨blk, off, none⟩) d.size cap, .int .i64 (a : Int), .int .i64 (b : Int), .int .i64 (pv : Int)] w) = Calls Tryz.prog 107 #[.slice (some ⟨blk, off, none⟩) d.size cap, .int .i64 (a : Int), .int .i64 (b : Int), .int .i64 (pv : Int)] w3 by rw [hw3]]
  have HP := Lib.hid (And.intro hp hj)
  clear h hp hLb hG hw3 HW0 hj
  go_enter Tryz.func107, Tryz.ntmps107
  have hcw : ∀ t, t < d.size → w3.cell? ⟨blk, off + t, none⟩ = some (.int .u16 (G t)) := fun t ht => by rw [HG.out]; exact HW.out.cell (by have := HSZ.out; omega)
  have hfw : ∀ t, t < d.size → w3.frozen? ⟨blk, off + t, none⟩ = false := fun t ht => HW.out.free _
  obtain ⟨u, hu⟩ := HW.out.kept (i := a) (j := pv) (.int .u16 (G pv)) (by have := HSZ.out; omega)
  go_wp2_with fail
  go_region
  all_goals go_wp2_with fail
  have hs4 : Rw w blk off m (swp d a pv) (((w3.setCell ⟨blk, off + a, none⟩ (.int .u16 (G pv))).setCell ⟨blk, off + pv, none⟩ (.int .u16 (G a)))).drew := by
    rw [HG.out, HG.out]
    exact (HW.out.swap (i := a) (j := pv) (by have := HSZ.out; omega) (by have := HSZ.out; omega)).drew
  have HS := Lib.hid hs4
  try generalize ((w3.setCell ⟨blk, off + a, none⟩ (.int .u16 (G pv))).setCell ⟨blk, off + pv, none⟩ (.int .u16 (G a))).drew = w4 at *
  clear hs4 hcw hfw hu
  have HWN := HS
  clear HW
  have HW := HWN
  clear HWN HS HG HSZ
  obtain ⟨dk, hdk⟩ : ∃ dk, dk = swp d a pv := ⟨_, rfl⟩
  rw [← hdk] at HW
  have HV : Hid (Inv Lb p d a b (a + 1) j dk) := Lib.hid (by rw [hdk]; exact HV0.out)
  clear HV0 hdk
  go_loopw [10] (fun vi wr => ∃ i : Nat, vi = .int .i64 (i : Int) ∧ (a + 1) ≤ i ∧ Hid (Rw w blk off m dk wr ∧ Inv Lb p d a b i j dk)) (fun vi _ => j + 1 - (intOf vi).toNat)
  case atStart => exact ⟨(a + 1), by first | rfl | go_num, Nat.le_refl _, Lib.hid ⟨HW.out, HV.out⟩⟩
  case round =>
    clear HW HV
    obtain ⟨i, rfl, hsi, ho⟩ := hrel
    have HW := Lib.hid ho.out.1
    have HV := Lib.hid ho.out.2
    have hia := HV.out.ai
    have hijj := HV.out.ij
    have hjb := HV.out.jb
    clear ho
    obtain ⟨G, hG⟩ : ∃ G : Nat → Int, ∀ t, G t = dk[t]! := ⟨fun t => dk[t]!, fun _ => rfl⟩
    have HG := Lib.hid hG
    have HSZ : Hid (dk.size = d.size) := Lib.hid HV.out.perm.1
    clear hG
    have hcw : ∀ t, t < d.size → wr.cell? ⟨blk, off + t, none⟩ = some (.int .u16 (G t)) := fun t ht => by rw [HG.out]; exact HW.out.cell (by have := HSZ.out; omega)
    have hfw : ∀ t, t < d.size → wr.frozen? ⟨blk, off + t, none⟩ = false := fun t ht => HW.out.free _
    go_upto_region 3 with fail
    go_cut [43] from 30 to 45 (fun sv wx => sv = .bool (decide (i ≤ j) && decide (G i < G a)) ∧ Hid (Rw w blk off m dk wx))
    case first =>
      by_cases hij : i ≤ j
      · have hki : (i : Int) ≤ (j : Int) := by omega
        go_quiet (first | (go_at_call 105; refine Calls.quiet_of_same (less_ok _ _ _)))
        go_wp2_with fail
        go_meet
        exact ⟨by simp [hij], Lib.hid (HW.out.drewN _)⟩
      · have hki : ¬ (i : Int) ≤ (j : Int) := by omega
        go_quiet (first | (go_at_call 105; refine Calls.quiet_of_same (less_ok _ _ _)))
        go_wp2_with fail
        go_meet
        exact ⟨by simp [hij], Lib.hid (HW.out.drewN _)⟩
    case rest =>
      obtain ⟨rfl, hcut2⟩ := hcut
      have HB : Hid (decide (G i < G a) = Lb dk[i]!) := Lib.hid (by rw [HLB.out, HG.out, HG.out, HV.out.piv])
      generalize hB : (decide (i ≤ j) && decide (G i < G a)) = B
      cases B with
      | true =>
        rw [Bool.and_eq_true, decide_eq_true_eq] at hB
        have HB1 := Lib.hid (And.intro hB.1 hB.2)
        have hle := hB.1
        clear hB hcw hfw
        go_wp2_with fail
        go_roundw
        case rel => exact ⟨i + 1, by go_num, by omega, Lib.hid ⟨hcut2.out, HV.out.up HB1.out.1 (by rw [← HB.out]; exact HB1.out.2)⟩⟩
        case measure => simp [intOf]; omega
      | false =>
        have HUP : Hid (i ≤ j → Lb dk[i]! = false) := Lib.hid (fun (hle : i ≤ j) => by rw [decide_eq_true hle, Bool.true_and] at hB; rw [← HB.out]; exact hB)
        have HW2 := Lib.hid hcut2.out
        clear hB HB hcw hfw hcut2 HW
        obtain ⟨w3, hw3⟩ : ∃ w3, w3 = wc := ⟨_, rfl⟩
        rw [← hw3] at HW2 ⊢
        clear hw3
        have HW := HW2
        clear HW2
        go_wp2_with fail
        go_loopw [11] (fun vj wr => ∃ jj : Nat, vj = .int .i64 (jj : Int) ∧ jj ≤ j ∧ Hid (Rw w blk off m dk wr ∧ Inv Lb p d a b i jj dk ∧ (i ≤ jj → Lb dk[i]! = false))) (fun vj _ => (intOf vj).toNat)
        case atStart => exact ⟨j, rfl, Nat.le_refl _, Lib.hid ⟨HW.out, HV.out, HUP.out⟩⟩
        case round =>
          clear HW HV HUP hijj hjb
          obtain ⟨jj, rfl, hsj, ho⟩ := hrel
          have HW := Lib.hid ho.out.1
          have HV := Lib.hid ho.out.2.1
          have HUP := Lib.hid ho.out.2.2
          have hijj := HV.out.ij
          have hjb := HV.out.jb
          clear ho
          have hcw : ∀ t, t < d.size → wr.cell? ⟨blk, off + t, none⟩ = some (.int .u16 (G t)) := fun t ht => by rw [HG.out]; exact HW.out.cell (by have := HSZ.out; omega)
          have hfw : ∀ t, t < d.size → wr.frozen? ⟨blk, off + t, none⟩ = false := fun t ht => HW.out.free _
          go_upto_region 5 with fail
          go_cut [60] from 46 to 62 (fun sv wx => sv = .bool (decide (i ≤ jj) && (!decide (G jj < G a))) ∧ Hid (Rw w blk off m dk wx))
          case first =>
            by_cases hij : i ≤ jj
            · have hki : (i : Int) ≤ (jj : Int) := by omega
              go_quiet (first | (go_at_call 105; refine Calls.quiet_of_same (less_ok _ _ _)))
              go_wp2_with fail
              go_meet
              exact ⟨by simp [hij], Lib.hid (HW.out.drewN _)⟩
            · have hki : ¬ (i : Int) ≤ (jj : Int) := by omega
              go_quiet (first | (go_at_call 105; refine Calls.quiet_of_same (less_ok _ _ _)))
              go_wp2_with fail
              go_meet
              exact ⟨by simp [hij], Lib.hid (HW.out.drewN _)⟩
          case rest =>
            obtain ⟨rfl, hcut2⟩ := hcut
            have HB : Hid ((!decide (G jj < G a)) = !Lb dk[jj]!) := Lib.hid (by rw [HLB.out, HG.out, HG.out, HV.out.piv] <;> simp)
            generalize hB : (decide (i ≤ jj) && (!decide (G jj < G a))) = B
            cases B with
            | true =>
              rw [Bool.and_eq_true, decide_eq_true_eq] at hB
              have HB1 := Lib.hid (And.intro hB.1 hB.2)
              have hle := hB.1
              obtain ⟨j2, hj2⟩ : ∃ j2, jj = j2 + 1 := ⟨jj - 1, by omega⟩
              have hj2i : (jj : Int) - 1 = (j2 : Int) := by omega
              have HJ2 := Lib.hid hj2
              clear hB hcw hfw hj2
              go_wp2_with fail
              go_roundw
              case rel => exact ⟨j2, rfl, by have := HJ2.out; omega, Lib.hid ⟨hcut2.out, by have h1 := HV.out.down HB1.out.1 (by have h2 := HB1.out.2; rw [HB.out] at h2; simpa using h2); rw [HJ2.out] at h1; exact h1, fun h => HUP.out (by have := HJ2.out; omega)⟩⟩
              case measure => have := HJ2.out; simp [intOf]; omega
            | false =>
              have HDN : Hid (i ≤ jj → Lb dk[jj]! = true) := Lib.hid (fun (hle : i ≤ jj) => by
                have h2 := HB.out
                rw [decide_eq_true hle, Bool.true_and] at hB
                rw [hB] at h2
                simpa using h2.symm)
              have HW2 := Lib.hid hcut2.out
              clear hB HB hcw hfw hcut2 HW
              obtain ⟨w3, hw3⟩ : ∃ w3, w3 = wc := ⟨_, rfl⟩
              rw [← hw3] at HW2 ⊢
              clear hw3
              have HW := HW2
              clear HW2
              by_cases hgt : jj < i
              · have hki : (jj : Int) < (i : Int) := by omega
                have HIJ : Hid (i = jj + 1) := Lib.hid (by omega)
                have hcw : ∀ t, t < d.size → w3.cell? ⟨blk, off + t, none⟩ = some (.int .u16 (G t)) := fun t ht => by rw [HG.out]; exact HW.out.cell (by have := HSZ.out; omega)
                have hfw : ∀ t, t < d.size → w3.frozen? ⟨blk, off + t, none⟩ = false := fun t ht => HW.out.free _
                obtain ⟨u, hu⟩ := HW.out.kept (i := jj) (j := a) (.int .u16 (G a)) (by have := HSZ.out; omega)
                go_wp2_with fail
                go_region
                all_goals go_wp2_with fail
                have hs4 : Rw w blk off m (swp dk jj a) (((w3.setCell ⟨blk, off + jj, none⟩ (.int .u16 (G a))).setCell ⟨blk, off + a, none⟩ (.int .u16 (G jj)))).drew := by
                  rw [HG.out, HG.out]
                  exact (HW.out.swap (i := jj) (j := a) (by have := HSZ.out; omega) (by have := HSZ.out; omega)).drew
                have HS := Lib.hid hs4
                try generalize ((w3.setCell ⟨blk, off + jj, none⟩ (.int .u16 (G a))).setCell ⟨blk, off + a, none⟩ (.int .u16 (G jj))).drew = w4 at *
                clear hs4 hcw hfw hu
                refine bodyPost_ret (results_tmp2 rfl _ _ _) rfl ?_
                exact ⟨jj, true, swp dk jj a, rfl, HS.out, HV.out.part HLB.out HIJ.out (by have := HSZ.out; omega)⟩
              · have hki : ¬ (jj : Int) < (i : Int) := by omega
                have hle : i ≤ jj := by omega
                have hcw : ∀ t, t < d.size → w3.cell? ⟨blk, off + t, none⟩ = some (.int .u16 (G t)) := fun t ht => by rw [HG.out]; exact HW.out.cell (by have := HSZ.out; omega)
                have hfw : ∀ t, t < d.size → w3.frozen? ⟨blk, off + t, none⟩ = false := fun t ht => HW.out.free _
                obtain ⟨u, hu⟩ := HW.out.kept (i := i) (j := jj) (.int .u16 (G jj)) (by have := HSZ.out; omega)
                go_wp2_with fail
                go_region
                all_goals go_wp2_with fail
                have hs4 : Rw w blk off m (swp dk i jj) (((w3.setCell ⟨blk, off + i, none⟩ (.int .u16 (G jj))).setCell ⟨blk, off + jj, none⟩ (.int .u16 (G i)))).drew := by
                  rw [HG.out, HG.out]
                  exact (HW.out.swap (i := i) (j := jj) (by have := HSZ.out; omega) (by have := HSZ.out; omega)).drew
                have HS := Lib.hid hs4
                try generalize ((w3.setCell ⟨blk, off + i, none⟩ (.int .u16 (G jj))).setCell ⟨blk, off + jj, none⟩ (.int .u16 (G i))).drew = w4 at *
                clear hs4 hcw hfw hu
                obtain ⟨j2, hj2⟩ : ∃ j2, jj = j2 + 1 := ⟨jj - 1, by omega⟩
                have hj2i : (jj : Int) - 1 = (j2 : Int) := by omega
                have HJ2 := Lib.hid hj2
                have HL2 := Lib.hid hle
                clear hj2 hle
                go_wp2_with fail
                go_loopw [10, 11] (fun vi vj wr => ∃ (i j : Nat) (dk : Array Int), vi = .int .i64 (i : Int) ∧ vj = .int .i64 (j : Int) ∧ Hid (Rw w blk off m dk wr ∧ Inv Lb p d a b i j dk)) (fun vi vj _ => (intOf vj).toNat + 1 - (intOf vi).toNat)
                case atStart => exact ⟨i + 1, j2, swp dk i jj, by go_num, by first | rfl | exact congrArg (Value.int .i64) hj2i, Lib.hid ⟨HS.out, by have h1 := HV.out.swap HL2.out (HUP.out HL2.out) (HDN.out HL2.out) (by have := HSZ.out; omega); rw [HJ2.out] at h1 ⊢; exact h1⟩⟩
                case round =>
                  clear HS HV HUP HDN HL2 HJ2 HG HSZ HW hijj hjb hia hj2i
                  obtain ⟨i0, j, dk, rfl, rfl, ho⟩ := hrel
                  have HW := Lib.hid ho.out.1
                  have HV := Lib.hid ho.out.2
                  clear ho
                  go_wp2_with fail
                  go_loopw [10] (fun vi wr => ∃ i : Nat, vi = .int .i64 (i : Int) ∧ i0 ≤ i ∧ Hid (Rw w blk off m dk wr ∧ Inv Lb p d a b i j dk)) (fun vi _ => j + 1 - (intOf vi).toNat)
                  case atStart => exact ⟨i0, by first | rfl | go_num, Nat.le_refl _, Lib.hid ⟨HW.out, HV.out⟩⟩
                  case round =>
                    clear HW HV
                    obtain ⟨i, rfl, hsi, ho⟩ := hrel
                    have HW := Lib.hid ho.out.1
                    have HV := Lib.hid ho.out.2
                    have hia := HV.out.ai
                    have hijj := HV.out.ij
                    have hjb := HV.out.jb
                    clear ho
                    obtain ⟨G, hG⟩ : ∃ G : Nat → Int, ∀ t, G t = dk[t]! := ⟨fun t => dk[t]!, fun _ => rfl⟩
                    have HG := Lib.hid hG
                    have HSZ : Hid (dk.size = d.size) := Lib.hid HV.out.perm.1
                    clear hG
                    have hcw : ∀ t, t < d.size → wr.cell? ⟨blk, off + t, none⟩ = some (.int .u16 (G t)) := fun t ht => by rw [HG.out]; exact HW.out.cell (by have := HSZ.out; omega)
                    have hfw : ∀ t, t < d.size → wr.frozen? ⟨blk, off + t, none⟩ = false := fun t ht => HW.out.free _
                    go_upto_region 13 with fail
                    go_cut [112] from 99 to 114 (fun sv wx => sv = .bool (decide (i ≤ j) && decide (G i < G a)) ∧ Hid (Rw w blk off m dk wx))
                    case first =>
                      by_cases hij : i ≤ j
                      · have hki : (i : Int) ≤ (j : Int) := by omega
                        go_quiet (first | (go_at_call 105; refine Calls.quiet_of_same (less_ok _ _ _)))
                        go_wp2_with fail
                        go_meet
                        exact ⟨by simp [hij], Lib.hid (HW.out.drewN _)⟩
                      · have hki : ¬ (i : Int) ≤ (j : Int) := by omega
                        go_quiet (first | (go_at_call 105; refine Calls.quiet_of_same (less_ok _ _ _)))
                        go_wp2_with fail
                        go_meet
                        exact ⟨by simp [hij], Lib.hid (HW.out.drewN _)⟩
                    case rest =>
                      obtain ⟨rfl, hcut2⟩ := hcut
                      have HB : Hid (decide (G i < G a) = Lb dk[i]!) := Lib.hid (by rw [HLB.out, HG.out, HG.out, HV.out.piv])
                      generalize hB : (decide (i ≤ j) && decide (G i < G a)) = B
                      cases B with
                      | true =>
                        rw [Bool.and_eq_true, decide_eq_true_eq] at hB
                        have HB1 := Lib.hid (And.intro hB.1 hB.2)
                        have hle := hB.1
                        clear hB hcw hfw
                        go_wp2_with fail
                        go_roundw
                        case rel => exact ⟨i + 1, by go_num, by omega, Lib.hid ⟨hcut2.out, HV.out.up HB1.out.1 (by rw [← HB.out]; exact HB1.out.2)⟩⟩
                        case measure => simp [intOf]; omega
                      | false =>
                        have HUP : Hid (i ≤ j → Lb dk[i]! = false) := Lib.hid (fun (hle : i ≤ j) => by rw [decide_eq_true hle, Bool.true_and] at hB; rw [← HB.out]; exact hB)
                        have HW2 := Lib.hid hcut2.out
                        clear hB HB hcw hfw hcut2 HW
                        obtain ⟨w3, hw3⟩ : ∃ w3, w3 = wc := ⟨_, rfl⟩
                        rw [← hw3] at HW2 ⊢
                        clear hw3
                        have HW := HW2
                        clear HW2
                        go_wp2_with fail
                        go_loopw [11] (fun vj wr => ∃ jj : Nat, vj = .int .i64 (jj : Int) ∧ jj ≤ j ∧ Hid (Rw w blk off m dk wr ∧ Inv Lb p d a b i jj dk ∧ (i ≤ jj → Lb dk[i]! = false))) (fun vj _ => (intOf vj).toNat)
                        case atStart => exact ⟨j, rfl, Nat.le_refl _, Lib.hid ⟨HW.out, HV.out, HUP.out⟩⟩
                        case round =>
                          clear HW HV HUP hijj hjb
                          obtain ⟨jj, rfl, hsj, ho⟩ := hrel
                          have HW := Lib.hid ho.out.1
                          have HV := Lib.hid ho.out.2.1
                          have HUP := Lib.hid ho.out.2.2
                          have hijj := HV.out.ij
                          have hjb := HV.out.jb
                          clear ho
                          have hcw : ∀ t, t < d.size → wr.cell? ⟨blk, off + t, none⟩ = some (.int .u16 (G t)) := fun t ht => by rw [HG.out]; exact HW.out.cell (by have := HSZ.out; omega)
                          have hfw : ∀ t, t < d.size → wr.frozen? ⟨blk, off + t, none⟩ = false := fun t ht => HW.out.free _
                          go_upto_region 15 with fail
                          go_cut [129] from 115 to 131 (fun sv wx => sv = .bool (decide (i ≤ jj) && (!decide (G jj < G a))) ∧ Hid (Rw w blk off m dk wx))
                          case first =>
                            by_cases hij : i ≤ jj
                            · have hki : (i : Int) ≤ (jj : Int) := by omega
                              go_quiet (first | (go_at_call 105; refine Calls.quiet_of_same (less_ok _ _ _)))
                              go_wp2_with fail
                              go_meet
                              exact ⟨by simp [hij], Lib.hid (HW.out.drewN _)⟩
                            · have hki : ¬ (i : Int) ≤ (jj : Int) := by omega
                              go_quiet (first | (go_at_call 105; refine Calls.quiet_of_same (less_ok _ _ _)))
                              go_wp2_with fail
                              go_meet
                              exact ⟨by simp [hij], Lib.hid (HW.out.drewN _)⟩
                          case rest =>
                            obtain ⟨rfl, hcut2⟩ := hcut
                            have HB : Hid ((!decide (G jj < G a)) = !Lb dk[jj]!) := Lib.hid (by rw [HLB.out, HG.out, HG.out, HV.out.piv] <;> simp)
                            generalize hB : (decide (i ≤ jj) && (!decide (G jj < G a))) = B
                            cases B with
                            | true =>
                              rw [Bool.and_eq_true, decide_eq_true_eq] at hB
                              have HB1 := Lib.hid (And.intro hB.1 hB.2)
                              have hle := hB.1
                              obtain ⟨j2, hj2⟩ : ∃ j2, jj = j2 + 1 := ⟨jj - 1, by omega⟩
                              have hj2i : (jj : Int) - 1 = (j2 : Int) := by omega
                              have HJ2 := Lib.hid hj2
                              clear hB hcw hfw hj2
                              go_wp2_with fail
                              go_roundw
                              case rel => exact ⟨j2, rfl, by have := HJ2.out; omega, Lib.hid ⟨hcut2.out, by have h1 := HV.out.down HB1.out.1 (by have h2 := HB1.out.2; rw [HB.out] at h2; simpa using h2); rw [HJ2.out] at h1; exact h1, fun h => HUP.out (by have := HJ2.out; omega)⟩⟩
                              case measure => have := HJ2.out; simp [intOf]; omega
                            | false =>
                              have HDN : Hid (i ≤ jj → Lb dk[jj]! = true) := Lib.hid (fun (hle : i ≤ jj) => by
                                have h2 := HB.out
                                rw [decide_eq_true hle, Bool.true_and] at hB
                                rw [hB] at h2
                                simpa using h2.symm)
                              have HW2 := Lib.hid hcut2.out
                              clear hB HB hcw hfw hcut2 HW
                              obtain ⟨w3, hw3⟩ : ∃ w3, w3 = wc := ⟨_, rfl⟩
                              rw [← hw3] at HW2 ⊢
                              clear hw3
                              have HW := HW2
                              clear HW2
                              by_cases hgt : jj < i
                              · have hki : (jj : Int) < (i : Int) := by omega
                                have HIJ : Hid (i = jj + 1) := Lib.hid (by omega)
                                have hcw : ∀ t, t < d.size → w3.cell? ⟨blk, off + t, none⟩ = some (.int .u16 (G t)) := fun t ht => by rw [HG.out]; exact HW.out.cell (by have := HSZ.out; omega)
                                have hfw : ∀ t, t < d.size → w3.frozen? ⟨blk, off + t, none⟩ = false := fun t ht => HW.out.free _
                                obtain ⟨u, hu⟩ := HW.out.kept (i := jj) (j := a) (.int .u16 (G a)) (by have := HSZ.out; omega)
                                go_wp2_with fail
                                go_region
                                all_goals go_wp2_with fail
                                have hs4 : Rw w blk off m (swp dk jj a) (((w3.setCell ⟨blk, off + jj, none⟩ (.int .u16 (G a))).setCell ⟨blk, off + a, none⟩ (.int .u16 (G jj)))).drew := by
                                  rw [HG.out, HG.out]
                                  exact (HW.out.swap (i := jj) (j := a) (by have := HSZ.out; omega) (by have := HSZ.out; omega)).drew
                                have HS := Lib.hid hs4
                                try generalize ((w3.setCell ⟨blk, off + jj, none⟩ (.int .u16 (G a))).setCell ⟨blk, off + a, none⟩ (.int .u16 (G jj))).drew = w4 at *
                                clear hs4 hcw hfw hu
                                refine bodyPost_ret (results_tmp2 rfl _ _ _) rfl ?_
                                exact ⟨jj, false, swp dk jj a, rfl, HS.out, HV.out.part HLB.out HIJ.out (by have := HSZ.out; omega)⟩
                              · have hki : ¬ (jj : Int) < (i : Int) := by omega
                                have hle : i ≤ jj := by omega
                                have hcw : ∀ t, t < d.size → w3.cell? ⟨blk, off + t, none⟩ = some (.int .u16 (G t)) := fun t ht => by rw [HG.out]; exact HW.out.cell (by have := HSZ.out; omega)
                                have hfw : ∀ t, t < d.size → w3.frozen? ⟨blk, off + t, none⟩ = false := fun t ht => HW.out.free _
                                obtain ⟨u, hu⟩ := HW.out.kept (i := i) (j := jj) (.int .u16 (G jj)) (by have := HSZ.out; omega)
                                go_wp2_with fail
                                go_region
                                all_goals go_wp2_with fail
                                have hs4 : Rw w blk off m (swp dk i jj) (((w3.setCell ⟨blk, off + i, none⟩ (.int .u16 (G jj))).setCell ⟨blk, off + jj, none⟩ (.int .u16 (G i)))).drew := by
                                  rw [HG.out, HG.out]
                                  exact (HW.out.swap (i := i) (j := jj) (by have := HSZ.out; omega) (by have := HSZ.out; omega)).drew
                                have HS := Lib.hid hs4
                                try generalize ((w3.setCell ⟨blk, off + i, none⟩ (.int .u16 (G jj))).setCell ⟨blk, off + jj, none⟩ (.int .u16 (G i))).drew = w4 at *
                                clear hs4 hcw hfw hu
                                obtain ⟨j2, hj2⟩ : ∃ j2, jj = j2 + 1 := ⟨jj - 1, by omega⟩
                                have hj2i : (jj : Int) - 1 = (j2 : Int) := by omega
                                have HJ2 := Lib.hid hj2
                                have HL2 := Lib.hid hle
                                clear hj2 hle
                                go_wp2_with fail
                                go_roundw
                                case rel => exact ⟨i + 1, j2, swp dk i jj, by go_num, by first | rfl | exact congrArg (Value.int .i64) hj2i, Lib.hid ⟨HS.out, by have h1 := HV.out.swap HL2.out (HUP.out HL2.out) (HDN.out HL2.out) (by have := HSZ.out; omega); rw [HJ2.out] at h1 ⊢; exact h1⟩⟩
                                case measure => have := HJ2.out; have := HL2.out; simp [intOf]; omega

set_option maxHeartbeats 16000000 in
set_option maxRecDepth 100000 in
theorem equal_ok {w : World} {blk off m : Nat} {d : Array Int} (h : Rw w blk off m d w) (cap a b pv : Nat) (hap : a ≤ pv) (hpb : pv < b) (hb : b ≤ d.size) (hn : d.size ≤ 1000) :
    Calls Tryz.prog 106 #[.slice (some ⟨blk, off, none⟩) d.size cap, .int .i64 (a : Int), .int .i64 (b : Int), .int .i64 (pv : Int)] w fun e w' => ∃ (mid : Nat) (d' : Array Int), e = .returned (.int .i64 (mid : Int)) ∧ Rw w blk off m d' w' ∧ Evened d a b mid d[pv]! d' := by
  obtain ⟨j, hj⟩ : ∃ j, b = j + 1 := ⟨b - 1, by omega⟩
  have hji : (b : Int) - 1 = (j : Int) := by omega
  obtain ⟨p, hp⟩ : ∃ p, p = d[pv]! := ⟨_, rfl⟩
  obtain ⟨Lb, hLb⟩ : ∃ Lb : Int → Bool, ∀ x, Lb x = !decide (p < x) := ⟨_, fun _ => rfl⟩
  have HLB := Lib.hid hLb
  have HV0 : Hid (Inv Lb p d a b (a + 1) j (swp d a pv)) := Lib.hid (Inv.start hap hpb hb hp hj)
  have HSZ : Hid (d.size = d.size) := Lib.hid rfl
  obtain ⟨G, hG⟩ : ∃ G : Nat → Int, ∀ t, G t = d[t]! := ⟨fun t => d[t]!, fun _ => rfl⟩
  have HG := Lib.hid hG
  obtain ⟨w3, hw3⟩ : ∃ w3, w3 = w := ⟨_, rfl⟩
  have HW0 := h
  rw [← hw3] at HW0
  have HW : Hid (Rw w blk off m d w3) := Lib.hid (by rw [hw3]; exact h)
  rw [show (Calls Tryz.prog 106 #[.slice (some ⟨blk, off, none⟩) d.size cap, .int .i64 (a : Int), .int .i64 (b : Int), .int .i64 (pv : Int)] w) = Calls Tryz.prog 106 #[.slice (some ⟨blk, off, none⟩) d.size cap, .int .i64 (a : Int), .int .i64 (b : Int), .int .i64 (pv : Int)] w3 by rw [hw3]]
  have HP := Lib.hid (And.intro hp hj)
  clear h hp hLb hG hw3 HW0 hj
  go_enter Tryz.func106, Tryz.ntmps106
  have hcw : ∀ t, t < d.size → w3.cell? ⟨blk, off + t, none⟩ = some (.int .u16 (G t)) := fun t ht => by rw [HG.out]; exact HW.out.cell (by have := HSZ.out; omega)
  have hfw : ∀ t, t < d.size → w3.frozen? ⟨blk, off + t, none⟩ = false := fun t ht => HW.out.free _
  obtain ⟨u, hu⟩ := HW.out.kept (i := a) (j := pv) (.int .u16 (G pv)) (by have := HSZ.out; omega)
  go_wp2_with fail
  go_region
  all_goals go_wp2_with fail
  have hs4 : Rw w blk off m (swp d a pv) (((w3.setCell ⟨blk, off + a, none⟩ (.int .u16 (G pv))).setCell ⟨blk, off + pv, none⟩ (.int .u16 (G a)))).drew := by
    rw [HG.out, HG.out]
    exact (HW.out.swap (i := a) (j := pv) (by have := HSZ.out; omega) (by have := HSZ.out; omega)).drew
  have HS := Lib.hid hs4
  try generalize ((w3.setCell ⟨blk, off + a, none⟩ (.int .u16 (G pv))).setCell ⟨blk, off + pv, none⟩ (.int .u16 (G a))).drew = w4 at *
  clear hs4 hcw hfw hu
  have HWN := HS
  clear HW
  have HW := HWN
  clear HWN HS HG HSZ
  obtain ⟨dk, hdk⟩ : ∃ dk, dk = swp d a pv := ⟨_, rfl⟩
  rw [← hdk] at HW
  have HV : Hid (Inv Lb p d a b (a + 1) j dk) := Lib.hid (by rw [hdk]; exact HV0.out)
  clear HV0 hdk
  go_loopw [9, 10] (fun vi vj wr => ∃ (i j : Nat) (dk : Array Int), vi = .int .i64 (i : Int) ∧ vj = .int .i64 (j : Int) ∧ Hid (Rw w blk off m dk wr ∧ Inv Lb p d a b i j dk)) (fun vi vj _ => (intOf vj).toNat + 1 - (intOf vi).toNat)
  case atStart => exact ⟨a + 1, j, dk, by go_num, by first | rfl | exact congrArg (Value.int .i64) hji, Lib.hid ⟨HW.out, HV.out⟩⟩
  case round =>
    clear HW HV hji
    obtain ⟨i0, j, dk, rfl, rfl, ho⟩ := hrel
    have HW := Lib.hid ho.out.1
    have HV := Lib.hid ho.out.2
    clear ho
    go_wp2_with fail
    go_loopw [9] (fun vi wr => ∃ i : Nat, vi = .int .i64 (i : Int) ∧ i0 ≤ i ∧ Hid (Rw w blk off m dk wr ∧ Inv Lb p d a b i j dk)) (fun vi _ => j + 1 - (intOf vi).toNat)
    case atStart => exact ⟨i0, by first | rfl | go_num, Nat.le_refl _, Lib.hid ⟨HW.out, HV.out⟩⟩
    case round =>
      clear HW HV
      obtain ⟨i, rfl, hsi, ho⟩ := hrel
      have HW := Lib.hid ho.out.1
      have HV := Lib.hid ho.out.2
      have hia := HV.out.ai
      have hijj := HV.out.ij
      have hjb := HV.out.jb
      clear ho
      obtain ⟨G, hG⟩ : ∃ G : Nat → Int, ∀ t, G t = dk[t]! := ⟨fun t => dk[t]!, fun _ => rfl⟩
      have HG := Lib.hid hG
      have HSZ : Hid (dk.size = d.size) := Lib.hid HV.out.perm.1
      clear hG
      have hcw : ∀ t, t < d.size → wr.cell? ⟨blk, off + t, none⟩ = some (.int .u16 (G t)) := fun t ht => by rw [HG.out]; exact HW.out.cell (by have := HSZ.out; omega)
      have hfw : ∀ t, t < d.size → wr.frozen? ⟨blk, off + t, none⟩ = false := fun t ht => HW.out.free _
      go_upto_region 3 with fail
      go_cut [43] from 29 to 45 (fun sv wx => sv = .bool (decide (i ≤ j) && (!decide (G a < G i))) ∧ Hid (Rw w blk off m dk wx))
      case first =>
        by_cases hij : i ≤ j
        · have hki : (i : Int) ≤ (j : Int) := by omega
          go_quiet (first | (go_at_call 105; refine Calls.quiet_of_same (less_ok _ _ _)))
          go_wp2_with fail
          go_meet
          exact ⟨by simp [hij], Lib.hid (HW.out.drewN _)⟩
        · have hki : ¬ (i : Int) ≤ (j : Int) := by omega
          go_quiet (first | (go_at_call 105; refine Calls.quiet_of_same (less_ok _ _ _)))
          go_wp2_with fail
          go_meet
          exact ⟨by simp [hij], Lib.hid (HW.out.drewN _)⟩
      case rest =>
        obtain ⟨rfl, hcut2⟩ := hcut
        have HB : Hid ((!decide (G a < G i)) = Lb dk[i]!) := Lib.hid (by rw [HLB.out, HG.out, HG.out, HV.out.piv])
        generalize hB : (decide (i ≤ j) && (!decide (G a < G i))) = B
        cases B with
        | true =>
          rw [Bool.and_eq_true, decide_eq_true_eq] at hB
          have HB1 := Lib.hid (And.intro hB.1 hB.2)
          have hle := hB.1
          clear hB hcw hfw
          go_wp2_with fail
          go_roundw
          case rel => exact ⟨i + 1, by go_num, by omega, Lib.hid ⟨hcut2.out, HV.out.up HB1.out.1 (by rw [← HB.out]; exact HB1.out.2)⟩⟩
          case measure => simp [intOf]; omega
        | false =>
          have HUP : Hid (i ≤ j → Lb dk[i]! = false) := Lib.hid (fun (hle : i ≤ j) => by rw [decide_eq_true hle, Bool.true_and] at hB; rw [← HB.out]; exact hB)
          have HW2 := Lib.hid hcut2.out
          clear hB HB hcw hfw hcut2 HW
          obtain ⟨w3, hw3⟩ : ∃ w3, w3 = wc := ⟨_, rfl⟩
          rw [← hw3] at HW2 ⊢
          clear hw3
          have HW := HW2
          clear HW2
          go_wp2_with fail
          go_loopw [10] (fun vj wr => ∃ jj : Nat, vj = .int .i64 (jj : Int) ∧ jj ≤ j ∧ Hid (Rw w blk off m dk wr ∧ Inv Lb p d a b i jj dk ∧ (i ≤ jj → Lb dk[i]! = false))) (fun vj _ => (intOf vj).toNat)
          case atStart => exact ⟨j, rfl, Nat.le_refl _, Lib.hid ⟨HW.out, HV.out, HUP.out⟩⟩
          case round =>
            clear HW HV HUP hijj hjb
            obtain ⟨jj, rfl, hsj, ho⟩ := hrel
            have HW := Lib.hid ho.out.1
            have HV := Lib.hid ho.out.2.1
            have HUP := Lib.hid ho.out.2.2
            have hijj := HV.out.ij
            have hjb := HV.out.jb
            clear ho
            have hcw : ∀ t, t < d.size → wr.cell? ⟨blk, off + t, none⟩ = some (.int .u16 (G t)) := fun t ht => by rw [HG.out]; exact HW.out.cell (by have := HSZ.out; omega)
            have hfw : ∀ t, t < d.size → wr.frozen? ⟨blk, off + t, none⟩ = false := fun t ht => HW.out.free _
            go_upto_region 5 with fail
            go_cut [59] from 46 to 61 (fun sv wx => sv = .bool (decide (i ≤ jj) && decide (G a < G jj)) ∧ Hid (Rw w blk off m dk wx))
            case first =>
              by_cases hij : i ≤ jj
              · have hki : (i : Int) ≤ (jj : Int) := by omega
                go_quiet (first | (go_at_call 105; refine Calls.quiet_of_same (less_ok _ _ _)))
                go_wp2_with fail
                go_meet
                exact ⟨by simp [hij], Lib.hid (HW.out.drewN _)⟩
              · have hki : ¬ (i : Int) ≤ (jj : Int) := by omega
                go_quiet (first | (go_at_call 105; refine Calls.quiet_of_same (less_ok _ _ _)))
                go_wp2_with fail
                go_meet
                exact ⟨by simp [hij], Lib.hid (HW.out.drewN _)⟩
            case rest =>
              obtain ⟨rfl, hcut2⟩ := hcut
              have HB : Hid (decide (G a < G jj) = !Lb dk[jj]!) := Lib.hid (by rw [HLB.out, HG.out, HG.out, HV.out.piv] <;> simp)
              generalize hB : (decide (i ≤ jj) && decide (G a < G jj)) = B
              cases B with
              | true =>
                rw [Bool.and_eq_true, decide_eq_true_eq] at hB
                have HB1 := Lib.hid (And.intro hB.1 hB.2)
                have hle := hB.1
                obtain ⟨j2, hj2⟩ : ∃ j2, jj = j2 + 1 := ⟨jj - 1, by omega⟩
                have hj2i : (jj : Int) - 1 = (j2 : Int) := by omega
                have HJ2 := Lib.hid hj2
                clear hB hcw hfw hj2
                go_wp2_with fail
                go_roundw
                case rel => exact ⟨j2, rfl, by have := HJ2.out; omega, Lib.hid ⟨hcut2.out, by have h1 := HV.out.down HB1.out.1 (by have h2 := HB1.out.2; rw [HB.out] at h2; simpa using h2); rw [HJ2.out] at h1; exact h1, fun h => HUP.out (by have := HJ2.out; omega)⟩⟩
                case measure => have := HJ2.out; simp [intOf]; omega
              | false =>
                have HDN : Hid (i ≤ jj → Lb dk[jj]! = true) := Lib.hid (fun (hle : i ≤ jj) => by
                  have h2 := HB.out
                  rw [decide_eq_true hle, Bool.true_and] at hB
                  rw [hB] at h2
                  simpa using h2.symm)
                have HW2 := Lib.hid hcut2.out
                clear hB HB hcw hfw hcut2 HW
                obtain ⟨w3, hw3⟩ : ∃ w3, w3 = wc := ⟨_, rfl⟩
                rw [← hw3] at HW2 ⊢
                clear hw3
                have HW := HW2
                clear HW2
                by_cases hgt : jj < i
                · have hki : (jj : Int) < (i : Int) := by omega
                  have HIJ : Hid (i = jj + 1) := Lib.hid (by omega)
                  go_wp2_with fail
                  go_ret
                  exact ⟨i, dk, rfl, HW.out, by rw [← HP.out.1]; exact HV.out.same HLB.out HIJ.out⟩
                · have hki : ¬ (jj : Int) < (i : Int) := by omega
                  have hle : i ≤ jj := by omega
                  have hcw : ∀ t, t < d.size → w3.cell? ⟨blk, off + t, none⟩ = some (.int .u16 (G t)) := fun t ht => by rw [HG.out]; exact HW.out.cell (by have := HSZ.out; omega)
                  have hfw : ∀ t, t < d.size → w3.frozen? ⟨blk, off + t, none⟩ = false := fun t ht => HW.out.free _
                  obtain ⟨u, hu⟩ := HW.out.kept (i := i) (j := jj) (.int .u16 (G jj)) (by have := HSZ.out; omega)
                  go_wp2_with fail
                  go_region
                  all_goals go_wp2_with fail
                  have hs4 : Rw w blk off m (swp dk i jj) (((w3.setCell ⟨blk, off + i, none⟩ (.int .u16 (G jj))).setCell ⟨blk, off + jj, none⟩ (.int .u16 (G i)))).drew := by
                    rw [HG.out, HG.out]
                    exact (HW.out.swap (i := i) (j := jj) (by have := HSZ.out; omega) (by have := HSZ.out; omega)).drew
                  have HS := Lib.hid hs4
                  try generalize ((w3.setCell ⟨blk, off + i, none⟩ (.int .u16 (G jj))).setCell ⟨blk, off + jj, none⟩ (.int .u16 (G i))).drew = w4 at *
                  clear hs4 hcw hfw hu
                  obtain ⟨j2, hj2⟩ : ∃ j2, jj = j2 + 1 := ⟨jj - 1, by omega⟩
                  have hj2i : (jj : Int) - 1 = (j2 : Int) := by omega
                  have HJ2 := Lib.hid hj2
                  have HL2 := Lib.hid hle
                  clear hj2 hle
                  go_wp2_with fail
                  go_roundw
                  case rel => exact ⟨i + 1, j2, swp dk i jj, by go_num, by first | rfl | exact congrArg (Value.int .i64) hj2i, Lib.hid ⟨HS.out, by have h1 := HV.out.swap HL2.out (HUP.out HL2.out) (HDN.out HL2.out) (by have := HSZ.out; omega); rw [HJ2.out] at h1 ⊢; exact h1⟩⟩
                  case measure => have := HJ2.out; have := HL2.out; simp [intOf]; omega

end Go.Proofs.YtbfclodkchmfnaaGreat.SU

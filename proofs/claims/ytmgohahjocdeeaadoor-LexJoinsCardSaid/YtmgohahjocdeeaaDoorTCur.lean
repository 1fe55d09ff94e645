/-
  Layer 6 (lex): the program's cursor: pass, goTo, skip, take. By the verifier.
-/
import Derived.Test.YtmgohahjocdeeaaDoorTRef
import Derived.Deep.RegionWith
set_option linter.unusedVariables false
namespace Go.Proofs.YtmgohahjocdeeaaDoor
open Go.RowKit

/-- What a move of the cursor leaves. -/
def MoveP (W : World) (B : Nat) (p : Nat × Nat) (s : ByteArray) (k : Nat) (w' : World) : Prop := Cur w' B p s k ∧ Sole B W w'

theorem pass_ok (s : ByteArray) (p : Nat × Nat) (k : Nat) (x B : Nat) (W : World) (h : Cur W B p s k) (h1 : p.1 ≤ 2000001) (h2 : p.2 ≤ 2000001) :
    Calls Tryd.prog 43 #[.pointer (some ⟨B, 0, none⟩), .int .u8 (x : Int)] W fun e w' => e = .returned (.tuple #[]) ∧ MoveP W B (stepP p x) s k w' := by
  have hb := h.lt
  have c0 := h.c0
  have c1 := h.c1
  have f0 : W.frozen? ⟨B, 0, none⟩ = false := Row.free h 0
  have f1 : W.frozen? ⟨B, 1, none⟩ = false := Row.free h 1
  have ha : (p.1 : Int) ≤ 2000001 := by omega
  have hc : (p.2 : Int) ≤ 2000001 := by omega
  have e1 : ((p.1 + 1 : Nat) : Int) = (p.1 : Int) + 1 := by omega
  have e2 : ((p.2 + 1 : Nat) : Int) = (p.2 : Int) + 1 := by omega
  by_cases hx : x = 10
  · subst hx
    have q1 := ((h.set0 (p.1 + 1)).set1 0).set1 1
    have q2 : Sole B W (((W.setCell ⟨B, 0, none⟩ (.int .i64 ((p.1 + 1 : Nat) : Int))).setCell ⟨B, 1, none⟩ (.int .i64 ((0 : Nat) : Int))).setCell ⟨B, 1, none⟩ (.int .i64 ((1 : Nat) : Int))) :=
      ((Sole.setCell B W 0 _).trans (Sole.setCell B _ 1 _)).trans (Sole.setCell B _ 1 _)
    rw [e1] at q1 q2
    have HF : Hid (MoveP W B (stepP p 10) s k (((W.setCell ⟨B, 0, none⟩ (.int .i64 ((p.1 : Int) + 1))).setCell ⟨B, 1, none⟩ (.int .i64 0)).setCell ⟨B, 1, none⟩ (.int .i64 1))) := Lib.hid ⟨q1, q2⟩
    clear q1 q2 e1 e2 h h1 h2
    go_enter Tryd.func43, Tryd.ntmps43
    go_wp2_with fail
    go_end0
    exact ⟨rfl, HF.out⟩
  · have q1 := h.set1 (p.2 + 1)
    have q2 := Sole.setCell B W 1 (.int .i64 ((p.2 + 1 : Nat) : Int))
    rw [e2] at q1 q2
    have HF : Hid (MoveP W B (stepP p x) s k (W.setCell ⟨B, 1, none⟩ (.int .i64 ((p.2 : Int) + 1)))) := Lib.hid ⟨by rw [stepP_no _ hx]; exact q1, q2⟩
    have e10 := ne_beq hx 10 rfl
    clear q1 q2 e1 e2 h h1 h2 hx
    go_enter Tryd.func43, Tryd.ntmps43
    go_wp2_with fail
    go_end0
    exact ⟨rfl, HF.out⟩

/-- The cursor's offset, read. -/
def offOf (w : World) (B : Nat) : Nat := match w.cell? ⟨B, 3, none⟩ with | some (.int _ x) => x.toNat | _ => 0
theorem Cur.off {W : World} {B : Nat} {p : Nat × Nat} {s : ByteArray} {k : Nat} (h : Cur W B p s k) : offOf W B = k := by
  unfold offOf
  rw [h.c3]
  simp

theorem goTo_ok (s : ByteArray) (l : List Nat) (hs : Str s l) (hm : l.length ≤ 2000000) (k m B : Nat) (hkm : k ≤ m) (hml : m ≤ l.length) (W : World) (h : Cur W B (placeV l k) s k) :
    Calls Tryd.prog 22 #[.pointer (some ⟨B, 0, none⟩), .int .i64 (m : Int)] W fun e w' => e = .returned (.tuple #[]) ∧ MoveP W B (placeV l m) s m w' := by
  have HS := Lib.hid hs
  have HK := Lib.hid (And.intro hkm (And.intro hml hm))
  have HC := Lib.hid h
  clear hs hm hkm hml h
  go_enter Tryd.func22, Tryd.ntmps22
  go_wp2_with fail
  go_loopw [] (fun wr => ∃ j : Nat, j ≤ m ∧ Hid (Cur wr B (placeV l j) s j ∧ Sole B W wr)) (fun wr => m - offOf wr B)
  case atStart => exact ⟨k, HK.out.1, Lib.hid ⟨HC.out, Sole.refl B W⟩⟩
  case round =>
    obtain ⟨j, hj, hc⟩ := hrel
    obtain ⟨-, hml, hm⟩ := HK.out
    have hb := hc.out.1.lt
    have c2 := hc.out.1.c2
    have c3 := hc.out.1.c3
    have HO := Lib.hid hc.out.1.off
    by_cases hlt : j < m
    · have hji : (j : Int) < (m : Int) := by omega
      have hi := HS.out.index (k := j) (by omega)
      have hbd := placeV_bound l j
      have HP := Lib.hid (pass_ok s (placeV l j) j (l.getD j 0) B wr.drew hc.out.1 (by omega) (by omega))
      have hst := placeV_step (l := l) (k := j) (by omega)
      rw [← hst] at HP
      have HX := Lib.hid (HS.out.2.get j)
      have hj' : (j : Int) ≤ 2000001 := by omega
      generalize l.getD j 0 = y at *
      clear hml hm hbd hst
      go_wp2_with fail
      go_region_with (go_at_call 43; refine HP.out.mono ?_; rintro e w1 ⟨rfl, hcur, hsol⟩; have d3 := hcur.c3; have g3 := Row.free hcur 3; have hb1 := hcur.lt; have HCU := Lib.hid (And.intro hcur hsol); clear hcur hsol c2 c3 hi hb)
      all_goals
        have q1 := HCU.out.1.set3 (j + 1)
        have e1 : ((j + 1 : Nat) : Int) = (j : Int) + 1 := by omega
        have q2 := (hc.out.2.drew.trans HCU.out.2).trans (Sole.setCell B w1 3 (.int .i64 ((j + 1 : Nat) : Int)))
        have q3 := q1.off
        rw [e1] at q1 q2 q3
        have HQ := Lib.hid (And.intro q1 q2)
        have HO2 := Lib.hid q3
        clear q1 q2 q3 e1
        go_wp2_with fail
        go_roundw
        case rel => exact ⟨j + 1, by omega, HQ⟩
        case measure => rw [HO.out, HO2.out]; omega
    · have hji : ¬ (j : Int) < (m : Int) := by omega
      obtain rfl : j = m := by omega
      clear hml hm
      go_wp2_with fail
      go_end0
      exact ⟨rfl, hc.out⟩

set_option maxHeartbeats 1000000 in
theorem pskip_ok (s : ByteArray) (l : List Nat) (hs : Str s l) (hm : l.length ≤ 2000000) (k B : Nat) (hk : k ≤ l.length) (W : World) (h : Cur W B (placeV l k) s k) :
    Calls Tryd.prog 41 #[.pointer (some ⟨B, 0, none⟩)] W fun e w' => e = .returned (.tuple #[]) ∧ MoveP W B (placeV l (atV l k)) s (atV l k) w' := by
  have HZ : Hid ((s.size : Int) = (l.length : Int)) := Lib.hid (by have := hs.size; omega)
  have HS := Lib.hid hs
  have HK := Lib.hid (And.intro hk hm)
  have HC := Lib.hid h
  have hb := h.lt
  have c2 := h.c2
  have c3 := h.c3
  have HG : Hid (∀ n, n = atV l k → Calls Tryd.prog 22 #[.pointer (some ⟨B, 0, none⟩), .int .i64 (n : Int)] W fun e w' => e = .returned (.tuple #[]) ∧ MoveP W B (placeV l (atV l k)) s (atV l k) w') := Lib.hid fun n hn => by
    rw [hn]
    exact goTo_ok s l hs hm k (atV l k) B (atV_le hk).1 (atV_le hk).2 W h
  clear hs hk hm h
  go_enter Tryd.func41, Tryd.ntmps41
  go_wp2_with fail
  go_loopw [2, 3] (fun c i wr => ∃ (cb : Bool) (j : Nat), c = .bool cb ∧ i = .int .i64 (j : Int) ∧ j ≤ l.length ∧ Hid (atV l k = j + skipL cb (l.drop j)) ∧ wr = W) (fun _ i _ => l.length - (intOf i).toNat)
  case atStart => exact ⟨false, k, rfl, rfl, HK.out.1, Lib.hid rfl, rfl⟩
  case round =>
    obtain ⟨cb, j, rfl, rfl, hj, hp, rfl⟩ := hrel
    have hm := HK.out.2
    by_cases hlt : j < l.length
    · have hi := HS.out.index hlt
      have hks : (j : Int) < (s.size : Int) := by have := HZ.out; omega
      have hj' : (j : Int) ≤ 2000001 := by omega
      have hsk := skip_drop cb hlt
      rw [hsk] at hp
      have HB := Lib.hid (pblank_ok (l.getD j 0))
      generalize hnb : noteB cb (l.getD j 0) = nb at *
      generalize hbl : blankB (l.getD j 0) = bl at *
      have HN := Lib.hid hnb
      have HBL := Lib.hid hbl
      clear hsk hm hnb hbl
      have HGO : Hid (nb = true ∨ bl = true → atV l k = (j + 1) + skipL nb (l.drop (j + 1))) := Lib.hid fun ho => by
        rw [hp.out]
        rcases ho with ho | ho
        · subst ho; simp only [Bool.not_true, Bool.false_and, Bool.false_eq_true, if_false]; omega
        · subst ho; simp only [Bool.not_true, Bool.and_false, Bool.false_eq_true, if_false]; omega
      have HST : Hid (nb = false → bl = false → j = atV l k) := Lib.hid fun h1 h2 => by
        rw [hp.out, h1, h2]; rfl
      clear hp
      by_cases h35 : l.getD j 0 = 35
      · have hnt : nb = true := by rw [← HN.out, h35]; rfl
        subst hnt
        have HQ := Lib.hid (HGO.out (Or.inl rfl))
        rw [h35] at hi
        clear h35
        go_wp2_with fail
        go_roundw
        case rel => exact ⟨true, j + 1, rfl, by go_num, by omega, HQ, by trivial⟩
        case measure => simp [intOf]; omega
      · have e35 := ne_beq h35 35 rfl
        by_cases h10 : l.getD j 0 = 10
        · have hnt : nb = false := by rw [← HN.out, h10]; rfl
          have hbt : bl = true := by rw [← HBL.out, h10]; rfl
          subst hnt hbt
          have HQ := Lib.hid (HGO.out (Or.inr rfl))
          rw [h10] at hi e35 HB
          clear h35 h10
          go_wp2_with (go_at_call 56; refine (HB.out _).mono ?_; rintro e w1 ⟨rfl, rfl⟩)
          go_roundw
          case rel => exact ⟨false, j + 1, rfl, by go_num, by omega, HQ, by trivial⟩
          case measure => simp [intOf]; omega
        · have e10 := ne_beq h10 10 rfl
          have hnt : nb = cb := by rw [← HN.out]; unfold noteB; rw [if_neg h10, if_neg h35]
          subst hnt
          generalize l.getD j 0 = y at *
          clear h35 h10 HN HBL
          cases nb with
          | true =>
            have HQ := Lib.hid (HGO.out (Or.inl rfl))
            go_wp2_with fail
            go_roundw
            case rel => exact ⟨true, j + 1, rfl, by go_num, by omega, HQ, by trivial⟩
            case measure => simp [intOf]; omega
          | false =>
            cases bl with
            | true =>
              have HQ := Lib.hid (HGO.out (Or.inr rfl))
              go_wp2_with (go_at_call 56; refine (HB.out _).mono ?_; rintro e w1 ⟨rfl, rfl⟩)
              go_roundw
              case rel => exact ⟨false, j + 1, rfl, by go_num, by omega, HQ, by trivial⟩
              case measure => simp [intOf]; omega
            | false =>
              have HQ := Lib.hid (HG.out j (HST.out rfl rfl))
              go_wp2_with (first | (go_at_call 56; refine (HB.out _).mono ?_; rintro e w1 ⟨rfl, rfl⟩) | (go_at_call 22; refine HQ.out.mono ?_; rintro e w1 ⟨rfl, hmv⟩))
              go_end0
              exact ⟨rfl, hmv⟩
    · have hks : ¬ (j : Int) < (s.size : Int) := by have := HZ.out; omega
      have hst : j = atV l k := by rw [hp.out, skip_past cb (by omega)]; rfl
      have HQ := Lib.hid (HG.out j hst)
      clear hst hm hp
      go_wp2_with (go_at_call 22; refine HQ.out.mono ?_; rintro e w1 ⟨rfl, hmv⟩)
      go_end0
      exact ⟨rfl, hmv⟩

/-- A function that says which bytes belong to a token. -/
structure Bel (f : FuncId) (P : Nat → Bool) : Prop where
  enters : ∀ args w, (callFunc f args).run Tryd.prog w = .ok (.enter f args) w
  call : ∀ (x : Nat) (w : World), Calls Tryd.prog f #[.int .u8 (x : Int)] w fun e w' => e = .returned (.bool (P x)) ∧ w = w'
theorem bel_letter : Bel 58 letterB := ⟨enters_of Tryd.func58 (by kernel_rfl) rfl, pletter_ok⟩
theorem bel_alnum : Bel 74 alnumB := ⟨enters_of Tryd.func74 (by kernel_rfl) rfl, palnum_ok⟩

set_option maxHeartbeats 1000000 in
theorem take_ok6 (f : FuncId) (P : Nat → Bool) (hf : Bel f P) (s : ByteArray) (l : List Nat) (hs : Str s l) (hm : l.length ≤ 2000000) (k B : Nat) (hk : k ≤ l.length) (W : World) (h : Cur W B (placeV l k) s k) (N : Nat) (hN : N = k + ((l.drop k).takeWhile P).length) :
    Calls Tryd.prog 73 #[.pointer (some ⟨B, 0, none⟩), .func (.func f) #[] #[]] W fun e w' => e = .returned (.string (strB ((l.drop k).takeWhile P))) ∧ MoveP W B (placeV l N) s N w' := by
  have HZ : Hid ((s.size : Int) = (l.length : Int)) := Lib.hid (by have := hs.size; omega)
  have hNl : N ≤ l.length := by
    have := takeWhile_len P (l.drop k)
    rw [List.length_drop] at this
    omega
  have HS := Lib.hid hs
  have HK := Lib.hid (And.intro hk hm)
  have hb := h.lt
  have c2 := h.c2
  have c3 := h.c3
  have HC := Lib.hid h
  have hen := hf.enters
  have HF := Lib.hid hf.call
  have HG : Hid (∀ X, Cur X B (placeV l k) s k → ∀ n, n = N → Calls Tryd.prog 22 #[.pointer (some ⟨B, 0, none⟩), .int .i64 (n : Int)] X fun e w' => e = .returned (.tuple #[]) ∧ MoveP X B (placeV l N) s N w') := Lib.hid fun X hX n hn => by
    rw [hn]
    exact goTo_ok s l hs hm k N B (by omega) hNl X hX
  have hcut := hs.cut (a := k) (b := N) (by omega) hNl
  have ecut : (l.drop k).take (N - k) = (l.drop k).takeWhile P := by
    rw [tw_take P (l.drop k), hN]
    congr 1
    omega
  rw [ecut] at hcut
  generalize strB ((l.drop k).takeWhile P) = tk at *
  have HCUT := Lib.hid hcut
  have HN := Lib.hid hN
  clear hs hk hm h hf hcut ecut hNl hN
  go_enter Tryd.func73, Tryd.ntmps73
  go_wp2_with fail
  go_quiet (fail)
  have hdc : Cur (W.drewN nq) B (placeV l k) s k := HC.out
  have hds : Sole B W (W.drewN nq) := ⟨rfl, rfl, rfl, Nat.le_refl _, fun _ _ _ => rfl⟩
  obtain ⟨Wd, hWd⟩ : ∃ Wd, Wd = W.drewN nq := ⟨_, rfl⟩
  rw [← hWd] at hdc hds ⊢
  clear hWd hb c2 c3
  have HD := Lib.hid (And.intro hdc hds)
  have hb := hdc.lt
  have c2 := hdc.c2
  have c3 := hdc.c3
  clear hdc hds
  go_wp2_with fail
  go_loopw [6] (fun i wr => ∃ (j : Nat), i = .int .i64 (j : Int) ∧ j ≤ l.length ∧ Hid (N = j + ((l.drop j).takeWhile P).length) ∧ wr = Wd) (fun i _ => l.length - (intOf i).toNat)
  case atStart => exact ⟨k, rfl, HK.out.1, HN, rfl⟩
  case round =>
    obtain ⟨j, rfl, hj, hp, rfl⟩ := hrel
    have hm := HK.out.2
    by_cases hlt : j < l.length
    · have hi := HS.out.index hlt
      have hks : (j : Int) < (s.size : Int) := by have := HZ.out; omega
      have hj' : (j : Int) ≤ 2000001 := by omega
      have HB := Lib.hid (HF.out (l.getD j 0))
      have HT : Hid (P (l.getD j 0) = true → N = j + 1 + ((l.drop (j + 1)).takeWhile P).length) := Lib.hid fun h => by rw [hp.out, tw_step hlt h]; omega
      have HE : Hid (P (l.getD j 0) = false → j = N) := Lib.hid fun h => by rw [hp.out, tw_stop hlt h]; rfl
      generalize l.getD j 0 = y at *
      clear hm hp
      cases hy : P y with
      | true =>
        have HQ := Lib.hid (HT.out hy)
        rw [hy] at HB
        go_wp2_with fail
        refine (HB.out _).mono ?_
        rintro e w1 ⟨rfl, rfl⟩
        go_wp2_with fail
        go_roundw
        case rel => exact ⟨j + 1, by go_num, by omega, HQ, by trivial⟩
        case measure => simp [intOf]; omega
      | false =>
        have hjN := HE.out hy
        have HQ := Lib.hid (HG.out _ HD.out.1 j hjN)
        rw [hy] at HB
        subst hjN
        go_wp2_with fail
        refine (HB.out _).mono ?_
        rintro e w1 ⟨rfl, rfl⟩
        go_wp2_with (go_at_call 22; refine HQ.out.mono ?_; rintro e w1 ⟨rfl, hmv⟩; have d2 := hmv.1.c2; have HMV := Lib.hid (And.intro hmv.1 (HD.out.2.trans hmv.2)); have hcut := HCUT.out; clear hmv c2 c3)
        go_ret
        exact ⟨rfl, HMV.out⟩
    · have hks : ¬ (j : Int) < (s.size : Int) := by have := HZ.out; omega
      have hjN : j = N := by rw [hp.out, tw_past (by omega)]; rfl
      have HQ := Lib.hid (HG.out _ HD.out.1 j hjN)
      subst hjN
      clear hm hp
      go_wp2_with (go_at_call 22; refine HQ.out.mono ?_; rintro e w1 ⟨rfl, hmv⟩; have d2 := hmv.1.c2; have HMV := Lib.hid (And.intro hmv.1 (HD.out.2.trans hmv.2)); have hcut := HCUT.out; clear hmv c2 c3)
      go_ret
      exact ⟨rfl, HMV.out⟩

end Go.Proofs.YtmgohahjocdeeaaDoor

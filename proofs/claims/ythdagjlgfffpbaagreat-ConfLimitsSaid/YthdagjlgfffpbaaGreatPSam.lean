/-
  Layer 5 (conf): the program's Same. By the verifier.
-/
import Derived.Test.YthdagjlgfffpbaaGreatPEqf
set_option linter.unusedVariables false
namespace Go.Proofs.YthdagjlgfffpbaaGreat
open Go.RowKit

theorem sameV_and (a b : ConfR) : sameV a b = (decide (a.frame = b.frame) && (decide (a.ps.map PartR.key = b.ps.map PartR.key) && (decide (a.ws.map WinR.key = b.ws.map WinR.key) && (decide (a.rs.map RegR.key = b.rs.map RegR.key) && (decide (a.ts.map PortR.key = b.ts.map PortR.key) && decide (a.cs.map ChanR.key = b.cs.map ChanR.key)))))) := by
  unfold sameV
  rw [Bool.eq_iff_iff]
  simp only [Bool.and_eq_true, decide_eq_true_eq, List.mem_cons, List.not_mem_nil, or_false, forall_eq_or_imp, forall_eq]
  simp [ConfR.keys]

/-- The destinations of a configuration are short. -/
def Ds (c : ConfR) : Prop := ∀ x ∈ c.cs, x.dests.length ≤ 1000

/-- Two boxed configurations, and orders asked for. -/
structure TwoG (w : World) (a b : ConfR) (p q : CfgQ) (W : World) : Prop where
  two : TwoIn w a b p q W
  drawn : w.drawn ≤ W.drawn
theorem TwoG.more {w W W' : World} {a b : ConfR} {p q : CfgQ} (h : TwoG w a b p q W) (hg : Gd W W') : TwoG w a b p q W' := ⟨h.two.more hg.1, Nat.le_trans h.drawn hg.2⟩
theorem TwoG.gd {w W : World} {a b : ConfR} {p q : CfgQ} (h : TwoG w a b p q W) : Gd w W := ⟨h.two.below, h.drawn⟩
theorem TwoG.x {w W : World} {a b : ConfR} {p q : CfgQ} (h : TwoG w a b p q W) (k : Nat) : W.cell? ⟨w.heap.size, k, none⟩ = (cfgA a p)[k]? := cell_of_row _ _ k _ _ _ h.two.b1
theorem TwoG.y {w W : World} {a b : ConfR} {p q : CfgQ} (h : TwoG w a b p q W) (k : Nat) : W.cell? ⟨w.heap.size + 1, k, none⟩ = (cfgA b q)[k]? := cell_of_row _ _ k _ _ _ h.two.b2

theorem chan_recs {w : World} {c : ConfR} {q : CfgQ} (h : CfgIn w c q) (hd : Ds c) : ∀ x ∈ q.ch, Cells w x.A (x.r.dests.map U16) ∧ x.r.dests.length ≤ 1000 :=
  fun x hx => ⟨(h.ds x hx).cells, hd x.r (by rw [← h.ch]; exact List.mem_map_of_mem hx)⟩

set_option maxHeartbeats 4000000 in
theorem psame_ok (a b : ConfR) (p q : CfgQ) (w : World) (h1 : CfgIn w a p) (h2 : CfgIn w b q) (d1 : Ds a) (d2 : Ds b) :
    Calls Tryz.prog 19 #[cfgV a p, cfgV b q] w fun e w' => e = .returned (.bool (sameV a b)) ∧ Gd w w' := by
  obtain ⟨W1, hW1⟩ : ∃ W1, W1 = (w.alloc (.cells (cfgA a p) 30)).alloc (.cells (cfgA b q) 30) := ⟨_, rfl⟩
  have hT : TwoG w a b p q W1 := ⟨by rw [hW1]; exact TwoIn.start h1 h2, by rw [hW1]; exact Nat.le_refl _⟩
  have hbox : (w.alloc (.cells #[.int .u64 (a.frame : Int), .slice p.A1 a.ps.length p.c1, .slice p.A2 a.ws.length p.c2, .slice p.A3 a.rs.length p.c3, .slice p.A4 a.ts.length p.c4, .slice p.A5 a.cs.length p.c5] 30)).alloc (.cells #[.int .u64 (b.frame : Int), .slice q.A1 b.ps.length q.c1, .slice q.A2 b.ws.length q.c2, .slice q.A3 b.rs.length q.c3, .slice q.A4 b.ts.length q.c4, .slice q.A5 b.cs.length q.c5] 30) = W1 := hW1.symm
  have HC1 : Hid (∀ W, TwoG w a b p q W → Calls Tryz.prog 55 #[.slice p.A1 a.ps.length p.c1, .slice q.A1 b.ps.length q.c1] W fun e w' => e = .returned (.bool (decide (a.ps.map PartR.key = b.ps.map PartR.key))) ∧ Gd W w') := Lib.hid (fun W hW => equalP_ok a.ps b.ps p.A1 q.A1 p.c1 q.c1 W hW.two.c1.ps hW.two.c2.ps)
  have HC2 : Hid (∀ W, TwoG w a b p q W → Calls Tryz.prog 56 #[.slice p.A2 a.ws.length p.c2, .slice q.A2 b.ws.length q.c2] W fun e w' => e = .returned (.bool (decide (a.ws.map WinR.key = b.ws.map WinR.key))) ∧ Gd W w') := Lib.hid (fun W hW => equalW_ok a.ws b.ws p.A2 q.A2 p.c2 q.c2 W hW.two.c1.ws hW.two.c2.ws)
  have HC3 : Hid (∀ W, TwoG w a b p q W → Calls Tryz.prog 57 #[.slice p.A3 a.rs.length p.c3, .slice q.A3 b.rs.length q.c3] W fun e w' => e = .returned (.bool (decide (a.rs.map RegR.key = b.rs.map RegR.key))) ∧ Gd W w') := Lib.hid (fun W hW => equalR_ok a.rs b.rs p.A3 q.A3 p.c3 q.c3 W hW.two.c1.rs hW.two.c2.rs)
  have HC4 : Hid (∀ W, TwoG w a b p q W → Calls Tryz.prog 58 #[.slice p.A4 a.ts.length p.c4, .slice q.A4 b.ts.length q.c4] W fun e w' => e = .returned (.bool (decide (a.ts.map PortR.key = b.ts.map PortR.key))) ∧ Gd W w') := Lib.hid (fun W hW => equalT_ok a.ts b.ts p.A4 q.A4 p.c4 q.c4 W hW.two.c1.ts hW.two.c2.ts)
  have HC5 : Hid (∀ W, TwoG w a b p q W → Calls Tryz.prog 59 #[.slice p.A5 a.cs.length p.c5, .slice q.A5 b.cs.length q.c5, .func (.func 60) #[] #[]] W fun e w' => e = .returned (.bool (decide (a.cs.map ChanR.key = b.cs.map ChanR.key))) ∧ Gd W w') := Lib.hid (fun W hW => by
    have h := eqf_ok p.ch q.ch p.A5 q.A5 p.c5 q.c5 W hW.two.c1.cs hW.two.c2.cs (chan_recs hW.two.c1 d1) (chan_recs hW.two.c2 d2)
    have e1 : p.ch.map (fun x => x.r.key) = a.cs.map ChanR.key := by rw [← hW.two.c1.ch, List.map_map]; rfl
    have e2 : q.ch.map (fun x => x.r.key) = b.cs.map ChanR.key := by rw [← hW.two.c2.ch, List.map_map]; rfl
    rw [e1, e2, hW.two.c1.len5, hW.two.c2.len5] at h
    exact h)
  rw [sameV_and]
  generalize decide (a.ps.map PartR.key = b.ps.map PartR.key) = r1 at *
  generalize decide (a.ws.map WinR.key = b.ws.map WinR.key) = r2 at *
  generalize decide (a.rs.map RegR.key = b.rs.map RegR.key) = r3 at *
  generalize decide (a.ts.map PortR.key = b.ts.map PortR.key) = r4 at *
  generalize decide (a.cs.map ChanR.key = b.cs.map ChanR.key) = r5 at *
  have x0 : W1.cell? ⟨w.heap.size, 0, none⟩ = some (.int .u64 (a.frame : Int)) := hT.x 0
  have y0 : W1.cell? ⟨w.heap.size + 1, 0, none⟩ = some (.int .u64 (b.frame : Int)) := hT.y 0
  have x1 : W1.cell? ⟨w.heap.size, 1, none⟩ = some (.slice p.A1 a.ps.length p.c1) := hT.x 1
  have y1 : W1.cell? ⟨w.heap.size + 1, 1, none⟩ = some (.slice q.A1 b.ps.length q.c1) := hT.y 1
  have HT0 := Lib.hid hT
  unfold cfgV
  clear hT hW1 h1 h2 d1 d2
  go_enter Tryz.func19, Tryz.ntmps19
  by_cases hfr : a.frame = b.frame
  · have hd : decide (a.frame = b.frame) = true := decide_eq_true hfr
    have hfi : ((a.frame : Int) == (b.frame : Int)) = true := by rw [beq_iff_eq]; omega
    clear hfr
    cases r1 with
    | false =>
      go_wp2_with (first | (go_at_call 55; refine (HC1.out _ HT0.out).mono ?_; rintro e w1 ⟨rfl, hg1⟩; have HT1 := Lib.hid (HT0.out.more hg1); have x2 : w1.cell? ⟨w.heap.size, 2, none⟩ = some (.slice p.A2 a.ws.length p.c2) := HT1.out.x 2; have y2 : w1.cell? ⟨w.heap.size + 1, 2, none⟩ = some (.slice q.A2 b.ws.length q.c2) := HT1.out.y 2; clear hg1))
      go_ret
      exact ⟨by rw [hd]; simp, HT1.out.gd⟩
    | true =>
      cases r2 with
      | false =>
        go_wp2_with (first | (go_at_call 55; refine (HC1.out _ HT0.out).mono ?_; rintro e w1 ⟨rfl, hg1⟩; have HT1 := Lib.hid (HT0.out.more hg1); have x2 : w1.cell? ⟨w.heap.size, 2, none⟩ = some (.slice p.A2 a.ws.length p.c2) := HT1.out.x 2; have y2 : w1.cell? ⟨w.heap.size + 1, 2, none⟩ = some (.slice q.A2 b.ws.length q.c2) := HT1.out.y 2; clear hg1) | (go_at_call 56; refine (HC2.out _ HT1.out).mono ?_; rintro e w2 ⟨rfl, hg2⟩; have HT2 := Lib.hid (HT1.out.more hg2); have x3 : w2.cell? ⟨w.heap.size, 3, none⟩ = some (.slice p.A3 a.rs.length p.c3) := HT2.out.x 3; have y3 : w2.cell? ⟨w.heap.size + 1, 3, none⟩ = some (.slice q.A3 b.rs.length q.c3) := HT2.out.y 3; clear hg2))
        go_ret
        exact ⟨by rw [hd]; simp, HT2.out.gd⟩
      | true =>
        cases r3 with
        | false =>
          go_wp2_with (first | (go_at_call 55; refine (HC1.out _ HT0.out).mono ?_; rintro e w1 ⟨rfl, hg1⟩; have HT1 := Lib.hid (HT0.out.more hg1); have x2 : w1.cell? ⟨w.heap.size, 2, none⟩ = some (.slice p.A2 a.ws.length p.c2) := HT1.out.x 2; have y2 : w1.cell? ⟨w.heap.size + 1, 2, none⟩ = some (.slice q.A2 b.ws.length q.c2) := HT1.out.y 2; clear hg1) | (go_at_call 56; refine (HC2.out _ HT1.out).mono ?_; rintro e w2 ⟨rfl, hg2⟩; have HT2 := Lib.hid (HT1.out.more hg2); have x3 : w2.cell? ⟨w.heap.size, 3, none⟩ = some (.slice p.A3 a.rs.length p.c3) := HT2.out.x 3; have y3 : w2.cell? ⟨w.heap.size + 1, 3, none⟩ = some (.slice q.A3 b.rs.length q.c3) := HT2.out.y 3; clear hg2) | (go_at_call 57; refine (HC3.out _ HT2.out).mono ?_; rintro e w3 ⟨rfl, hg3⟩; have HT3 := Lib.hid (HT2.out.more hg3); have x4 : w3.cell? ⟨w.heap.size, 4, none⟩ = some (.slice p.A4 a.ts.length p.c4) := HT3.out.x 4; have y4 : w3.cell? ⟨w.heap.size + 1, 4, none⟩ = some (.slice q.A4 b.ts.length q.c4) := HT3.out.y 4; clear hg3))
          go_ret
          exact ⟨by rw [hd]; simp, HT3.out.gd⟩
        | true =>
          cases r4 with
          | false =>
            go_wp2_with (first | (go_at_call 55; refine (HC1.out _ HT0.out).mono ?_; rintro e w1 ⟨rfl, hg1⟩; have HT1 := Lib.hid (HT0.out.more hg1); have x2 : w1.cell? ⟨w.heap.size, 2, none⟩ = some (.slice p.A2 a.ws.length p.c2) := HT1.out.x 2; have y2 : w1.cell? ⟨w.heap.size + 1, 2, none⟩ = some (.slice q.A2 b.ws.length q.c2) := HT1.out.y 2; clear hg1) | (go_at_call 56; refine (HC2.out _ HT1.out).mono ?_; rintro e w2 ⟨rfl, hg2⟩; have HT2 := Lib.hid (HT1.out.more hg2); have x3 : w2.cell? ⟨w.heap.size, 3, none⟩ = some (.slice p.A3 a.rs.length p.c3) := HT2.out.x 3; have y3 : w2.cell? ⟨w.heap.size + 1, 3, none⟩ = some (.slice q.A3 b.rs.length q.c3) := HT2.out.y 3; clear hg2) | (go_at_call 57; refine (HC3.out _ HT2.out).mono ?_; rintro e w3 ⟨rfl, hg3⟩; have HT3 := Lib.hid (HT2.out.more hg3); have x4 : w3.cell? ⟨w.heap.size, 4, none⟩ = some (.slice p.A4 a.ts.length p.c4) := HT3.out.x 4; have y4 : w3.cell? ⟨w.heap.size + 1, 4, none⟩ = some (.slice q.A4 b.ts.length q.c4) := HT3.out.y 4; clear hg3) | (go_at_call 58; refine (HC4.out _ HT3.out).mono ?_; rintro e w4 ⟨rfl, hg4⟩; have HT4 := Lib.hid (HT3.out.more hg4); have x5 : w4.cell? ⟨w.heap.size, 5, none⟩ = some (.slice p.A5 a.cs.length p.c5) := HT4.out.x 5; have y5 : w4.cell? ⟨w.heap.size + 1, 5, none⟩ = some (.slice q.A5 b.cs.length q.c5) := HT4.out.y 5; clear hg4))
            go_ret
            exact ⟨by rw [hd]; simp, HT4.out.gd⟩
          | true =>
            cases r5 with
            | false =>
              go_wp2_with (first | (go_at_call 55; refine (HC1.out _ HT0.out).mono ?_; rintro e w1 ⟨rfl, hg1⟩; have HT1 := Lib.hid (HT0.out.more hg1); have x2 : w1.cell? ⟨w.heap.size, 2, none⟩ = some (.slice p.A2 a.ws.length p.c2) := HT1.out.x 2; have y2 : w1.cell? ⟨w.heap.size + 1, 2, none⟩ = some (.slice q.A2 b.ws.length q.c2) := HT1.out.y 2; clear hg1) | (go_at_call 56; refine (HC2.out _ HT1.out).mono ?_; rintro e w2 ⟨rfl, hg2⟩; have HT2 := Lib.hid (HT1.out.more hg2); have x3 : w2.cell? ⟨w.heap.size, 3, none⟩ = some (.slice p.A3 a.rs.length p.c3) := HT2.out.x 3; have y3 : w2.cell? ⟨w.heap.size + 1, 3, none⟩ = some (.slice q.A3 b.rs.length q.c3) := HT2.out.y 3; clear hg2) | (go_at_call 57; refine (HC3.out _ HT2.out).mono ?_; rintro e w3 ⟨rfl, hg3⟩; have HT3 := Lib.hid (HT2.out.more hg3); have x4 : w3.cell? ⟨w.heap.size, 4, none⟩ = some (.slice p.A4 a.ts.length p.c4) := HT3.out.x 4; have y4 : w3.cell? ⟨w.heap.size + 1, 4, none⟩ = some (.slice q.A4 b.ts.length q.c4) := HT3.out.y 4; clear hg3) | (go_at_call 58; refine (HC4.out _ HT3.out).mono ?_; rintro e w4 ⟨rfl, hg4⟩; have HT4 := Lib.hid (HT3.out.more hg4); have x5 : w4.cell? ⟨w.heap.size, 5, none⟩ = some (.slice p.A5 a.cs.length p.c5) := HT4.out.x 5; have y5 : w4.cell? ⟨w.heap.size + 1, 5, none⟩ = some (.slice q.A5 b.cs.length q.c5) := HT4.out.y 5; clear hg4) | (go_at_call 59; refine (HC5.out _ HT4.out).mono ?_; rintro e w5 ⟨rfl, hg5⟩; have HT5 := Lib.hid (HT4.out.more hg5); clear hg5))
              go_ret
              exact ⟨by rw [hd]; simp, HT5.out.gd⟩
            | true =>
              go_wp2_with (first | (go_at_call 55; refine (HC1.out _ HT0.out).mono ?_; rintro e w1 ⟨rfl, hg1⟩; have HT1 := Lib.hid (HT0.out.more hg1); have x2 : w1.cell? ⟨w.heap.size, 2, none⟩ = some (.slice p.A2 a.ws.length p.c2) := HT1.out.x 2; have y2 : w1.cell? ⟨w.heap.size + 1, 2, none⟩ = some (.slice q.A2 b.ws.length q.c2) := HT1.out.y 2; clear hg1) | (go_at_call 56; refine (HC2.out _ HT1.out).mono ?_; rintro e w2 ⟨rfl, hg2⟩; have HT2 := Lib.hid (HT1.out.more hg2); have x3 : w2.cell? ⟨w.heap.size, 3, none⟩ = some (.slice p.A3 a.rs.length p.c3) := HT2.out.x 3; have y3 : w2.cell? ⟨w.heap.size + 1, 3, none⟩ = some (.slice q.A3 b.rs.length q.c3) := HT2.out.y 3; clear hg2) | (go_at_call 57; refine (HC3.out _ HT2.out).mono ?_; rintro e w3 ⟨rfl, hg3⟩; have HT3 := Lib.hid (HT2.out.more hg3); have x4 : w3.cell? ⟨w.heap.size, 4, none⟩ = some (.slice p.A4 a.ts.length p.c4) := HT3.out.x 4; have y4 : w3.cell? ⟨w.heap.size + 1, 4, none⟩ = some (.slice q.A4 b.ts.length q.c4) := HT3.out.y 4; clear hg3) | (go_at_call 58; refine (HC4.out _ HT3.out).mono ?_; rintro e w4 ⟨rfl, hg4⟩; have HT4 := Lib.hid (HT3.out.more hg4); have x5 : w4.cell? ⟨w.heap.size, 5, none⟩ = some (.slice p.A5 a.cs.length p.c5) := HT4.out.x 5; have y5 : w4.cell? ⟨w.heap.size + 1, 5, none⟩ = some (.slice q.A5 b.cs.length q.c5) := HT4.out.y 5; clear hg4) | (go_at_call 59; refine (HC5.out _ HT4.out).mono ?_; rintro e w5 ⟨rfl, hg5⟩; have HT5 := Lib.hid (HT4.out.more hg5); clear hg5))
              go_ret
              exact ⟨by rw [hd]; simp, HT5.out.gd⟩
  · have hd : decide (a.frame = b.frame) = false := decide_eq_false hfr
    have hfi : ¬ (a.frame : Int) = (b.frame : Int) := by omega
    clear hfr
    go_wp2_with fail
    go_ret
    exact ⟨by rw [hd]; simp, HT0.out.gd⟩

end Go.Proofs.YthdagjlgfffpbaaGreat

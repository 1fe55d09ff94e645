/-
  Layer 5 (conf): the reference's Same. By the verifier.
-/
import Derived.Test.YthdagjlgfffpbaaGreatGKeys
import Derived.BigQuiet
set_option linter.unusedVariables false
namespace Go.Proofs.YthdagjlgfffpbaaGreat
open Go.RowKit

def sameV (a b : ConfR) : Bool := decide (a.frame = b.frame) && decide (∀ t ∈ ([1, 2, 3, 4, 5] : List Nat), a.keys (t : Int) = b.keys (t : Int))

theorem mem_five (t : Nat) : t ∈ ([1, 2, 3, 4, 5] : List Nat) ↔ 1 ≤ t ∧ t < 6 := by
  simp only [List.mem_cons, List.not_mem_nil, or_false]
  omega
theorem sameV_yes {a b : ConfR} (h : a.frame = b.frame) (hk : ∀ t : Nat, 1 ≤ t → t < 6 → a.keys (t : Int) = b.keys (t : Int)) : sameV a b = true := by
  rw [sameV, decide_eq_true h, Bool.true_and]
  exact decide_eq_true fun t ht => hk t ((mem_five t).1 ht).1 ((mem_five t).1 ht).2
theorem sameV_no {a b : ConfR} (t : Nat) (h1 : 1 ≤ t) (h6 : t < 6) (h : a.keys (t : Int) ≠ b.keys (t : Int)) : sameV a b = false := by
  rw [sameV, Bool.and_eq_false_iff]
  exact Or.inr (decide_eq_false fun hk => h (hk t ((mem_five t).2 ⟨h1, h6⟩)))
theorem sameV_frame {a b : ConfR} (h : a.frame ≠ b.frame) : sameV a b = false := by
  rw [sameV, decide_eq_false h, Bool.false_and]

theorem lists_eq {l m : List (List Nat)} (hl : l.length = m.length) (h : ∀ i, i < l.length → l.getD i [] = m.getD i []) : l = m := by
  refine List.ext_getElem hl fun i h1 h2 => ?_
  have := h i h1
  simpa [List.getD, h1, h2] using this

theorem load_cfg {w : World} {ops : Array Oper} {rest : List Oper} {op : Oper} {a : Act} {Q : Exit → Act → World → Prop} (hgd : op.guard = none) (x : Operand) (ho : op.op = .load 30 x) (g : Nat) (hx : a.eval x = .pointer (some ⟨g, 0, none⟩)) (cs : Array Value)
    (hs : cs.size = 6) (hg : w.heap[g]? = some (.cells cs 30)) (h : wpList Tryz.prog ops Q rest (a.put op.dst (.agg cs)) w) : wpList Tryz.prog ops Q (op :: rest) a w :=
  wpList_load_row hgd 30 x ho g hx 30 cs (0, 0) _ hg Tryz.underlying30 rfl (by rw [hs]; kernel_rfl) h

/-- The cells of a configuration. -/
def cfgA (c : ConfR) (q : CfgQ) : Array Value := #[.int .u64 (c.frame : Int), .slice q.A1 c.ps.length q.c1, .slice q.A2 c.ws.length q.c2, .slice q.A3 c.rs.length q.c3, .slice q.A4 c.ts.length q.c4, .slice q.A5 c.cs.length q.c5]

/-- Two configurations in memory, boxed. -/
structure TwoIn (w : World) (a b : ConfR) (p q : CfgQ) (wr : World) : Prop where
  b1 : wr.heap[w.heap.size]? = some (.cells (cfgA a p) 30)
  b2 : wr.heap[w.heap.size + 1]? = some (.cells (cfgA b q) 30)
  c1 : CfgIn wr a p
  c2 : CfgIn wr b q
  below : Below w.heap.size w wr
  lt : w.heap.size + 1 < wr.heap.size

theorem TwoIn.more {w wr w' : World} {a b : ConfR} {p q : CfgQ} (h : TwoIn w a b p q wr) (hb : Below wr.heap.size wr w') : TwoIn w a b p q w' :=
  ⟨by rw [hb.block _ (by have := h.lt; omega)]; exact h.b1, by rw [hb.block _ h.lt]; exact h.b2, h.c1.below (Nat.le_refl _) hb, h.c2.below (Nat.le_refl _) hb, h.below.trans (hb.mono h.below.size), Nat.lt_of_lt_of_le h.lt hb.size⟩
theorem TwoIn.start {w : World} {a b : ConfR} {p q : CfgQ} (h1 : CfgIn w a p) (h2 : CfgIn w b q) : TwoIn w a b p q ((w.alloc (.cells (cfgA a p) 30)).alloc (.cells (cfgA b q) 30)) := by
  have hA : Below w.heap.size w (w.alloc (.cells (cfgA a p) 30)) := (Below.refl _ _).alloc (Nat.le_refl _) _
  have hs : (w.alloc (.cells (cfgA a p) 30)).heap.size = w.heap.size + 1 := by simp
  have hB : Below (w.alloc (.cells (cfgA a p) 30)).heap.size (w.alloc (.cells (cfgA a p) 30)) ((w.alloc (.cells (cfgA a p) 30)).alloc (.cells (cfgA b q) 30)) := (Below.refl _ _).alloc (Nat.le_refl _) _
  have hAB := hA.trans (hB.mono hA.size)
  refine ⟨by rw [hB.block _ (by omega)]; exact heap_alloc_new w _, by rw [← hs]; exact heap_alloc_new _ _, h1.below (Nat.le_refl _) hAB, h2.below (Nat.le_refl _) hAB, hAB, by simp⟩

set_option maxHeartbeats 800000 in
theorem same_ok (a b : ConfR) (p q : CfgQ) (w : World) (h1 : CfgIn w a p) (h2 : CfgIn w b q) (s1 : Short a) (s2 : Short b) :
    Calls Tryz.prog 16 #[cfgV a p, cfgV b q] w fun e w' => e = .returned (.bool (sameV a b)) ∧ Below w.heap.size w w' := by
  have hT := TwoIn.start h1 h2
  have hv1 : cfgV a p = .agg (cfgA a p) := rfl
  have hv2 : cfgV b q = .agg (cfgA b q) := rfl
  have hz1 : (cfgA a p).size = 6 := rfl
  have hz2 : (cfgA b q).size = 6 := rfl
  have HK1 : Hid (∀ (s : Nat) W, TwoIn w a b p q W → 1 ≤ s → s < 6 → Calls Tryz.prog 35 #[.agg (cfgA a p), .int .i64 (s : Int)] W fun e w' => ∃ v, e = .returned v ∧ (∃ hs, KeyW (W.heap.size + 1) (a.keys (s : Int)) hs v w') ∧ Below W.heap.size W w') := Lib.hid (fun s W hW h1 h6 => keys_ok a p W hW.c1 s1 (s : Int) (by omega) (by omega))
  have HK2 : Hid (∀ (s : Nat) W, TwoIn w a b p q W → 1 ≤ s → s < 6 → Calls Tryz.prog 35 #[.agg (cfgA b q), .int .i64 (s : Int)] W fun e w' => ∃ v, e = .returned v ∧ (∃ hs, KeyW (W.heap.size + 1) (b.keys (s : Int)) hs v w') ∧ Below W.heap.size W w') := Lib.hid (fun s W hW h1 h6 => keys_ok b q W hW.c2 s2 (s : Int) (by omega) (by omega))
  have hf1 : (cfgA a p)[0]? = some (.int .u64 (a.frame : Int)) := rfl
  have hf2 : (cfgA b q)[0]? = some (.int .u64 (b.frame : Int)) := rfl
  have HL1 := Lib.hid (keys_short a s1)
  have HL2 := Lib.hid (keys_short b s2)
  rw [hv1, hv2]
  obtain ⟨W1, hW1⟩ : ∃ W1, W1 = (w.alloc (.cells (cfgA a p) 30)).alloc (.cells (cfgA b q) 30) := ⟨_, rfl⟩
  have hbox := hW1.symm
  rw [← hW1] at hT
  have b10 : W1.cell? ⟨w.heap.size, 0, none⟩ = some (.int .u64 (a.frame : Int)) := by rw [cell_of_row _ _ 0 _ _ _ hT.b1]; exact hf1
  have b20 : W1.cell? ⟨w.heap.size + 1, 0, none⟩ = some (.int .u64 (b.frame : Int)) := by rw [cell_of_row _ _ 0 _ _ _ hT.b2]; exact hf2
  have HT := Lib.hid hT
  clear hW1 hT hv1 hv2 hf1 hf2 h1 h2 s1 s2



  go_enter Tryz.func16, Tryz.ntmps16
  by_cases hfr : a.frame = b.frame
  · have hfi : (a.frame : Int) = (b.frame : Int) := by omega
    have HFR := Lib.hid hfr
    go_wp2_with fail
    clear b10 b20 hbox hfi hfr
    go_loopw [5] (fun i wr => ∃ s : Nat, 1 ≤ s ∧ s ≤ 6 ∧ i = .int .i64 (s : Int) ∧ Hid ((∀ t : Nat, 1 ≤ t → t < s → a.keys (t : Int) = b.keys (t : Int)) ∧ TwoIn w a b p q wr)) (fun i _ => 6 - (intOf i).toNat)
    case atStart => exact ⟨1, by omega, by omega, rfl, Lib.hid ⟨fun t h1 h2 => absurd h2 (by omega), HT.out⟩⟩
    case round =>
      obtain ⟨s, hs1, hs6, rfl, ho⟩ := hrel
      by_cases hlt : s < 6
      · have hsi : (s : Int) ≤ 5 := by omega
        have hws : wrap64 ((s : Int) + 1) = (s : Int) + 1 := by unfold wrap64; omega
        have HC1 := Lib.hid (HK1.out s wr ho.out.2 hs1 hlt)
        have HC2 := Lib.hid (fun W hW => HK2.out s W hW hs1 hlt)
        have HNO : Hid (a.keys (s : Int) ≠ b.keys (s : Int) → sameV a b = false) := Lib.hid (sameV_no s hs1 hlt)
        have HYES : Hid (a.keys (s : Int) = b.keys (s : Int) → ∀ t : Nat, 1 ≤ t → t < s + 1 → a.keys (t : Int) = b.keys (t : Int)) := Lib.hid (fun h t h1 h2 => by
          rcases Nat.lt_or_ge t s with h3 | h3
          · exact ho.out.1 t h1 h3
          · obtain rfl : t = s := by omega
            exact h)
        have hl1 := HL1.out (s : Int)
        have hl2 := HL2.out (s : Int)
        have HTW := Lib.hid ho.out.2
        clear ho HK1 HK2 HT
        generalize a.keys (s : Int) = K1 at *
        generalize b.keys (s : Int) = K2 at *
        by_cases hlen : K1.length = K2.length
        · have hleni : (K1.length : Int) = (K2.length : Int) := by omega
          go_wp2_with (first
            | (with_reducible refine load_cfg rfl (.tmp 2) rfl w.heap.size rfl (cfgA a p) hz1 HTW.out.b1 ?_)
            | (with_reducible refine load_cfg rfl (.tmp 3) rfl (w.heap.size + 1) rfl (cfgA b q) hz2 HT1.out.b2 ?_)
            | (go_at_call 35; with_reducible refine HC1.out.mono ?_; rintro e w1 ⟨v1, rfl, ⟨hs1, hk1⟩, hb1⟩; obtain ⟨A1, c1, rfl, hin1⟩ := hk1.keysIn; have HI1 := Lib.hid hin1; have HT1 := Lib.hid (HTW.out.more hb1); clear hk1 hb1 hin1)
            | (go_at_call 35; with_reducible refine (HC2.out _ HT1.out).mono ?_; rintro e w2 ⟨v2, rfl, ⟨hs2, hk2⟩, hb2⟩; obtain ⟨A2, c2, rfl, hin2⟩ := hk2.keysIn; have HI2 := Lib.hid hin2; have HI3 := Lib.hid (HI1.out.below hb2); have HT2 := Lib.hid (HT1.out.more hb2); clear hk2 hb2 hin2))
          go_loopw [8] (fun j w3 => ∃ k : Nat, k ≤ K1.length ∧ j = .int .i64 (k : Int) ∧ Hid (Below w2.heap.size w2 w3 ∧ ∀ i, i < k → K1.getD i [] = K2.getD i [])) (fun j _ => K1.length - (intOf j).toNat)
          case atStart => exact ⟨0, by omega, rfl, Lib.hid ⟨Below.refl _ _, fun i h => absurd h (by omega)⟩⟩
          case round =>
            obtain ⟨k, hk, rfl, hq⟩ := hrel
            by_cases hlt2 : k < K1.length
            · have hki : (k : Int) < (K1.length : Int) := by omega
              have hki2 : (k : Int) < (K2.length : Int) := by omega
              have hwk : wrap64 ((k : Int) + 1) = (k : Int) + 1 := by unfold wrap64; omega
              obtain ⟨b1, o1, B1, d1, rfl, hc1, hx1⟩ := (HI3.out.below hq.out.1).at hlt2
              obtain ⟨b2, o2, B2, d2, rfl, hc2, hx2⟩ := (HI2.out.below hq.out.1).at (k := k) (by omega)
              have HCA := Lib.hid (fun n => less_quiet _ _ B1 B2 d1 d2 wr hx1 hx2 (HI3.out.small k hlt2) (HI2.out.small k (by omega)) n)
              have HCB := Lib.hid (fun n => less_quiet _ _ B2 B1 d2 d1 wr hx2 hx1 (HI2.out.small k (by omega)) (HI3.out.small k hlt2) n)
              have HNE : Hid (K1.getD k [] ≠ K2.getD k [] → sameV a b = false) := Lib.hid (fun h => HNO.out (fun he => h (by rw [he])))
              have HEQ : Hid (K1.getD k [] = K2.getD k [] → ∀ i, i < k + 1 → K1.getD i [] = K2.getD i []) := Lib.hid (fun h i hi => by
                rcases Nat.lt_or_ge i k with h3 | h3
                · exact hq.out.2 i h3
                · obtain rfl : i = k := by omega
                  exact h)
              have HBW := Lib.hid (fun n => below_drewN hq.out.1 n)
              have HT3 := Lib.hid (HT2.out.more hq.out.1)
              clear hx1 hx2 hq
              generalize K1.getD k [] = x at *
              generalize K2.getD k [] = y at *
              obtain ⟨lx, hlx⟩ : ∃ lx, lx = x.length := ⟨_, rfl⟩
              obtain ⟨ly, hly⟩ : ∃ ly, ly = y.length := ⟨_, rfl⟩
              obtain ⟨u, hu⟩ : ∃ u, u = lessN x y := ⟨_, rfl⟩
              obtain ⟨v, hv⟩ : ∃ v, v = lessN y x := ⟨_, rfl⟩
              rw [← hlx, ← hly, ← hu] at HCA
              rw [← hlx, ← hly, ← hv] at HCB
              rw [← hlx] at hc1
              rw [← hly] at hc2
              have HU := Lib.hid hu
              have HV := Lib.hid hv
              clear hlx hly hu hv
              cases u with
              | true =>
                have HN2 := Lib.hid (HNE.out (fun h => by have := HU.out; rw [h, lessN_irrefl] at this; cases this))
                clear HU HV HNE HEQ
                go_wp2_with fail
                go_quiet ((go_at_call 36; with_reducible exact HCA.out _))
                go_wp2_with fail
                go_ret
                exact ⟨by rw [HN2.out]; rfl, below_drewN HT3.out.below _⟩
              | false =>
                cases v with
                | true =>
                  have HN2 := Lib.hid (HNE.out (fun h => by have := HV.out; rw [h, lessN_irrefl] at this; cases this))
                  clear HU HV HNE HEQ
                  go_wp2_with fail
                  go_quiet ((first | (go_at_call 36; with_reducible exact HCA.out _) | (go_at_call 36; with_reducible exact HCB.out _)))
                  go_wp2_with fail
                  go_ret
                  exact ⟨by rw [HN2.out]; rfl, below_drewN HT3.out.below _⟩
                | false =>
                  have HN2 := Lib.hid (HEQ.out (lessN_same HU.out.symm HV.out.symm))
                  clear HU HV HNE HEQ
                  go_wp2_with fail
                  go_quiet ((first | (go_at_call 36; with_reducible exact HCA.out _) | (go_at_call 36; with_reducible exact HCB.out _)))
                  go_wp2_with fail
                  go_roundw
                  case rel => exact ⟨k + 1, by omega, by go_num, Lib.hid ⟨HBW.out _, HN2.out⟩⟩
                  case measure => simp [intOf]; omega
            · have hki : ¬ (k : Int) < (K1.length : Int) := by omega
              have HE2 := Lib.hid (HYES.out (lists_eq hlen (fun i hi => hq.out.2 i (by omega))))
              have HT3 := Lib.hid (HT2.out.more hq.out.1)
              go_wp2_with fail
              go_roundw
              case rel => exact ⟨s + 1, by omega, by omega, by go_num, Lib.hid ⟨HE2.out, HT3.out⟩⟩
              case measure => simp [intOf]; omega
        · have hleni : ¬ (K1.length : Int) = (K2.length : Int) := by omega
          go_wp2_with (first
            | (with_reducible refine load_cfg rfl (.tmp 2) rfl w.heap.size rfl (cfgA a p) hz1 HTW.out.b1 ?_)
            | (with_reducible refine load_cfg rfl (.tmp 3) rfl (w.heap.size + 1) rfl (cfgA b q) hz2 HT1.out.b2 ?_)
            | (go_at_call 35; with_reducible refine HC1.out.mono ?_; rintro e w1 ⟨v1, rfl, ⟨hs1, hk1⟩, hb1⟩; obtain ⟨A1, c1, rfl, hin1⟩ := hk1.keysIn; have HT1 := Lib.hid (HTW.out.more hb1); clear hk1 hb1 hin1)
            | (go_at_call 35; with_reducible refine (HC2.out _ HT1.out).mono ?_; rintro e w2 ⟨v2, rfl, ⟨hs2, hk2⟩, hb2⟩; obtain ⟨A2, c2, rfl, hin2⟩ := hk2.keysIn; have HT2 := Lib.hid (HT1.out.more hb2); clear hk2 hb2 hin2))
          go_ret
          exact ⟨by rw [HNO.out (fun h => hlen (by rw [h]))]; rfl, HT2.out.below⟩
      · have hsi : ¬ (s : Int) ≤ 5 := by omega
        have HE : Hid (sameV a b = true) := Lib.hid (sameV_yes HFR.out (fun t h1 h2 => ho.out.1 t h1 (by omega)))
        go_wp2_with fail
        go_ret
        exact ⟨by rw [HE.out]; rfl, ho.out.2.below⟩
  · have hfi : ¬ (a.frame : Int) = (b.frame : Int) := by omega
    have HN := Lib.hid (sameV_frame hfr)
    go_wp2_with fail
    go_ret
    exact ⟨by rw [HN.out]; rfl, HT.out.below⟩

end Go.Proofs.YthdagjlgfffpbaaGreat

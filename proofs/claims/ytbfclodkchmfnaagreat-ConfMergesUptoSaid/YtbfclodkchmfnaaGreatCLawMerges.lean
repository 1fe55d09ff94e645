/-
  The law ConfMerges returns true where what it reads is of bulk at most 1048576: a merged configuration has the frame, the records of all configurations in order, and as many as they have together. By the verifier.
-/
import Derived.Test.YtbfclodkchmfnaaGreatSKin
import Derived.Test.YtbfclodkchmfnaaGreatLBulk
import Derived.Test.YtbfclodkchmfnaaGreatPAlv
import Derived.Test.YtbfclodkchmfnaaGreatPCat
import Derived.Test.YtbfclodkchmfnaaGreatPCnt
import Derived.Test.YtbfclodkchmfnaaGreatMPrd
import Derived.JoinedCond
set_option linter.unusedVariables false
namespace Go.Proofs.YtbfclodkchmfnaaGreat.LawMerges
open Go.RowKit Go.ChangeShapes Go.WideShapes Go.ChangeAt

theorem getD_bool {l : Array Value} {i : Nat} {b : Bool} (h : l[i]?.getD undef = .bool b) : l[i]? = some (.bool b) := by
  cases hl : l[i]? with
  | none => rw [hl] at h; cases h
  | some v => rw [hl] at h; exact congrArg some h

theorem same_refl (a : ConfR) : sameV a a = true := sameV_yes rfl fun _ _ _ => rfl

def isCfg (c : ConfR) : Value → World → Prop := fun v w => ∃ q, v = cfgV c q ∧ CfgIn w c q
theorem isCfg_keeps (c : ConfR) : Keeps (isCfg c) := fun v w w' ⟨q, h1, h2⟩ hb => ⟨q, h1, h2.below (Nat.le_refl _) hb⟩

theorem meas {n k : Nat} (h : k < n) (hw : wrap64 ((k : Int) + 1) = (k : Int) + 1) : n - (intOf (.int .i64 (wrap64 ((k : Int) + 1)))).toNat < n - (intOf (.int .i64 (k : Int))).toNat := by
  rw [hw]
  simp only [intOf]
  omega

theorem nxt {k : Nat} (hw : wrap64 ((k : Int) + 1) = (k : Int) + 1) : (Value.int .i64 (wrap64 ((k : Int) + 1)) : Value) = .int .i64 ((k + 1 : Nat) : Int) := by
  rw [hw]
  rfl

def zero7 : Array Value := #[.int .i64 0, .int .i64 0, .int .i64 0, .int .i64 0, .int .i64 0, .int .i64 0, .int .i64 0]
def cntA (c : ConfR) : Array Value := #[.int .i64 0, .int .i64 (c.ps.length : Int), .int .i64 (c.ws.length : Int), .int .i64 (c.rs.length : Int), .int .i64 (c.ts.length : Int), .int .i64 (c.cs.length : Int), .int .i64 (wrap64 (c.links : Int))]
def numV (c : ConfR) (k : Nat) : Int := if k = 0 then 0 else if k = 1 then c.ps.length else if k = 2 then c.ws.length else if k = 3 then c.rs.length else if k = 4 then c.ts.length else if k = 5 then c.cs.length else wrap64 (c.links : Int)
theorem cntA_at (c : ConfR) {k : Nat} (hk : k < 7) : (cntA c)[k]? = some (.int .i64 (numV c k)) := by
  rcases (by omega : k = 0 ∨ k = 1 ∨ k = 2 ∨ k = 3 ∨ k = 4 ∨ k = 5 ∨ k = 6) with rfl | rfl | rfl | rfl | rfl | rfl | rfl <;> simp [cntA, numV]

def sizes (c : ConfR) : Nat := c.ps.length + c.ws.length + c.rs.length + c.ts.length + c.cs.length + c.links

/-- Few records are at most 120. -/
theorem few_tight {c : ConfR} (hf : fewV c = true) (hb : sizes c ≤ 1048576) : sizes c ≤ 120 ∧ (∀ x ∈ c.ps, x.name.size ≤ 100) ∧ (∀ x ∈ c.ts, x.name.size ≤ 100) := by
  unfold sizes at hb ⊢
  unfold fewV at hf
  simp only [Bool.and_eq_true, List.all_eq_true, decide_eq_true_eq] at hf
  obtain ⟨h1, h2, h3⟩ := hf
  unfold ConfR.total at h3
  have hw : wrap64 (c.links : Int) = (c.links : Int) := wrap_small (by omega) (by omega)
  rw [hw, wrap_small (by omega) (by omega)] at h3
  exact ⟨by omega, h1, h2⟩

/-- The two together. -/
def both (frame : Nat) (a b : ConfR) : ConfR := ⟨frame, a.ps ++ b.ps, a.ws ++ b.ws, a.rs ++ b.rs, a.ts ++ b.ts, a.cs ++ b.cs⟩
theorem both_merge (frame : Nat) (a b : ConfR) : mergeR frame [a, b] = both frame a b := by simp [mergeR, both]
theorem both_links (frame : Nat) (a b : ConfR) : (both frame a b).links = a.links + b.links := by simp [both, ConfR.links]
theorem link_le {c : ConfR} {x : ChanR} (hx : x ∈ c.cs) : x.dests.length ≤ c.links := sum_part (List.mem_map_of_mem (f := fun d : ChanR => d.dests.length) hx)
theorem both_short (frame : Nat) {a b : ConfR} (ha : sizes a ≤ 120 ∧ (∀ x ∈ a.ps, x.name.size ≤ 100) ∧ (∀ x ∈ a.ts, x.name.size ≤ 100)) (hb : sizes b ≤ 120 ∧ (∀ x ∈ b.ps, x.name.size ≤ 100) ∧ (∀ x ∈ b.ts, x.name.size ≤ 100)) : Short (both frame a b) ∧ Small (both frame a b) 1000 := by
  unfold sizes at ha hb
  have hd : ∀ x ∈ (both frame a b).cs, x.dests.length ≤ 1000 := fun x hx => by
    rcases List.mem_append.1 hx with hx | hx
    · have := link_le hx; omega
    · have := link_le hx; omega
  refine ⟨⟨?_, ?_, ?_, ?_, ?_, hd, fun x hx => ?_, fun x hx => ?_⟩, ⟨?_, ?_, ?_, ?_, ?_, hd⟩⟩
  all_goals first
    | (simp only [both, List.length_append]; omega)
    | (rcases List.mem_append.1 hx with hx | hx
       · first
         | (have := ha.2.1 x hx; omega)
         | (have := ha.2.2 x hx; omega)
       · first
         | (have := hb.2.1 x hx; omega)
         | (have := hb.2.2 x hx; omega))
theorem num_add (frame : Nat) {a b : ConfR} (ha : sizes a ≤ 120) (hb : sizes b ≤ 120) (k : Nat) : numV (both frame a b) k = wrap64 (numV a k + numV b k) := by
  unfold sizes at ha hb
  have e : ∀ x y : Nat, x ≤ 120 → y ≤ 120 → wrap64 ((x : Int) + (y : Int)) = ((x + y : Nat) : Int) := fun x y hx hy => by rw [wrap_small (by omega) (by omega)]; rfl
  have w : ∀ x : Nat, x ≤ 240 → wrap64 (x : Int) = (x : Int) := fun x hx => wrap_small (by omega) (by omega)
  unfold numV
  split
  · simp [wrap64]
  · split
    · rw [e _ _ (by omega) (by omega)]; simp [both]
    · split
      · rw [e _ _ (by omega) (by omega)]; simp [both]
      · split
        · rw [e _ _ (by omega) (by omega)]; simp [both]
        · split
          · rw [e _ _ (by omega) (by omega)]; simp [both]
          · split
            · rw [e _ _ (by omega) (by omega)]; simp [both]
            · rw [both_links, w _ (by omega), w a.links (by omega), w b.links (by omega), e _ _ (by omega) (by omega)]

theorem Small.of {c : ConfR} (h : sizes c ≤ 120) : Small c 1000 := by
  unfold sizes at h
  exact ⟨by omega, by omega, by omega, by omega, by omega, fun x hx => by have := link_le hx; omega⟩
theorem zero_small (frame : Nat) : Short (cfg0 frame) := ⟨by simp [cfg0], by simp [cfg0], by simp [cfg0], by simp [cfg0], by simp [cfg0], fun x hx => by simp [cfg0] at hx, fun x hx => by simp [cfg0] at hx, fun x hx => by simp [cfg0] at hx⟩
theorem zero_nums {frame : Nat} (h : frame < 18446744073709551616) : OkCfg (cfg0 frame) := ⟨h, fun x hx => by simp [cfg0] at hx, fun x hx => by simp [cfg0] at hx, fun x hx => by simp [cfg0] at hx, fun x hx => by simp [cfg0] at hx, fun x hx => by simp [cfg0] at hx⟩
theorem both_nums {frame : Nat} (h : frame < 18446744073709551616) {a b : ConfR} (ha : OkCfg a) (hb : OkCfg b) : OkCfg (both frame a b) := by
  refine ⟨h, ?_, ?_, ?_, ?_, ?_⟩
  · intro x hx
    rcases List.mem_append.1 hx with hx | hx
    · exact ha.okp x hx
    · exact hb.okp x hx
  · intro x hx
    rcases List.mem_append.1 hx with hx | hx
    · exact ha.okw x hx
    · exact hb.okw x hx
  · intro x hx
    rcases List.mem_append.1 hx with hx | hx
    · exact ha.okr x hx
    · exact hb.okr x hx
  · intro x hx
    rcases List.mem_append.1 hx with hx | hx
    · exact ha.okt x hx
    · exact hb.okt x hx
  · intro x hx
    rcases List.mem_append.1 hx with hx | hx
    · exact ha.okc x hx
    · exact hb.okc x hx

/-- A row of two lists is a row of both. -/
theorem rec2 {α : Type} {w : World} {B : Option Addr} {d : Nat} {l m : List α} {f : α → List Value} (hc : Cells w B (l.flatMap f ++ m.flatMap f)) (hn : B = none → d = 0) (hf : l.length + m.length ≤ d) (hs : l.length + m.length ≤ 1000) : Recs w B d (l ++ m) f := by
  refine ⟨?_, hn, ?_, ?_⟩
  · rw [List.flatMap_append]
    exact hc
  · rw [List.length_append]
    exact hf
  · rw [List.length_append]
    omega

set_option maxHeartbeats 8000000 in
set_option maxRecDepth 100000 in
theorem walk (frame : Nat) (hfr : frame < 18446744073709551616) (ca cb : ConfR) (p q : CfgQ) (w : World) (h1 : CfgIn w ca p) (h2 : CfgIn w cb q) (ha : sizes ca ≤ 1048576) (hb : sizes cb ≤ 1048576) : Calls Tryz.prog 6 #[.int .u64 (frame : Int), cfgV ca p, cfgV cb q] w fun e w' => e = .returned (.bool true) ∧ Below w.heap.size w w' := by
  have hT := TwoIn.start h1 h2
  obtain ⟨CA, hCA⟩ : ∃ CA, CA = cfgA ca p := ⟨_, rfl⟩
  obtain ⟨CB, hCB⟩ : ∃ CB, CB = cfgA cb q := ⟨_, rfl⟩
  have HCA := Lib.hid hCA
  have HCB := Lib.hid hCB
  have hv1 : cfgV ca p = .agg CA := by rw [hCA]; rfl
  have hv2 : cfgV cb q = .agg CB := by rw [hCB]; rfl
  have HZ1 : Hid (CA.size = 6) := Lib.hid (by rw [hCA]; rfl)
  have HZ2 : Hid (CB.size = 6) := Lib.hid (by rw [hCB]; rfl)
  have HB1 : Hid (∀ W, TwoIn w ca cb p q W → W.heap[w.heap.size]? = some (.cells CA 30)) := Lib.hid fun W hW => by rw [hCA]; exact hW.b1
  have HB2 : Hid (∀ W, TwoIn w ca cb p q W → W.heap[w.heap.size + 1]? = some (.cells CB 30)) := Lib.hid fun W hW => by rw [hCB]; exact hW.b2
  have HAL := Lib.hid alive_ok
  have HFA : Hid (∀ W, TwoIn w ca cb p q W → Calls Tryz.prog 10 #[.agg CA] W fun e w' => e = .returned (.bool (fewV ca)) ∧ Below W.heap.size W w') := Lib.hid fun W hW => by rw [hCA]; exact few_ok ca p W hW.c1
  have HFB : Hid (∀ W, TwoIn w ca cb p q W → Calls Tryz.prog 10 #[.agg CB] W fun e w' => e = .returned (.bool (fewV cb)) ∧ Below W.heap.size W w') := Lib.hid fun W hW => by rw [hCB]; exact few_ok cb q W hW.c2
  have HSA : Hid (fewV ca = true → sizes ca ≤ 120 ∧ (∀ x ∈ ca.ps, x.name.size ≤ 100) ∧ (∀ x ∈ ca.ts, x.name.size ≤ 100)) := Lib.hid fun h => few_tight h ha
  have HSB : Hid (fewV cb = true → sizes cb ≤ 120 ∧ (∀ x ∈ cb.ps, x.name.size ≤ 100) ∧ (∀ x ∈ cb.ts, x.name.size ≤ 100)) := Lib.hid fun h => few_tight h hb
  have HOA := Lib.hid h1.nums
  have HOB := Lib.hid h2.nums
  have HFRM := Lib.hid hfr
  rw [← hCA, ← hCB] at hT
  have HT := Lib.hid hT
  rw [hv1, hv2]
  generalize hfa : fewV ca = fa at *
  generalize hfb : fewV cb = fb at *
  clear hCA hCB hfa hfb hv1 hv2 hT h1 h2 ha hb hfr
  go_enter Tryz.func6, Tryz.ntmps6
  cases fa with
  | false =>
    go_wp2_with (first
      | (with_reducible refine load_cfg rfl (.tmp 4) rfl w.heap.size rfl CA HZ1.out (HB1.out _ HT.out) ?_)
      | (go_at_call 10; refine (HFA.out _ HT.out).mono ?_; rintro e w1 ⟨rfl, hb1⟩; have HT1 := Lib.hid (HT.out.more hb1); clear hb1 HT)
      | (go_at_call 9; refine (HAL.out _).mono ?_; rintro e w2 ⟨rfl, hb2⟩; have HT2 := Lib.hid (HT1.out.more hb2); clear hb2))
    go_ret
    exact ⟨rfl, HT2.out.below⟩
  | true =>
  cases fb with
  | false =>
    go_wp2_with (first
      | (with_reducible refine load_cfg rfl (.tmp 4) rfl w.heap.size rfl CA HZ1.out (HB1.out _ HT.out) ?_)
      | (go_at_call 10; refine (HFA.out _ HT.out).mono ?_; rintro e w1 ⟨rfl, hb1⟩; have HT1 := Lib.hid (HT.out.more hb1); clear hb1 HT)
      | ((with_reducible refine load_cfgw ?_ (.tmp 5) rfl (w.heap.size + 1) rfl CB HZ2.out (HB2.out _ HT1.out) ?_); exact rfl)
      | (go_at_call 10; refine (HFB.out _ HT1.out).mono ?_; rintro e w2 ⟨rfl, hb2⟩; have HT2 := Lib.hid (HT1.out.more hb2); clear hb2)
      | (go_at_call 9; refine (HAL.out _).mono ?_; rintro e w3 ⟨rfl, hb3⟩; have HT3 := Lib.hid (HT2.out.more hb3); clear hb3))
    go_ret
    exact ⟨rfl, HT3.out.below⟩
  | true =>
    have HTA := Lib.hid (HSA.out rfl)
    have HTB := Lib.hid (HSB.out rfl)
    clear HSA HSB
    go_wp2_with (first
      | (with_reducible refine load_cfg rfl (.tmp 4) rfl w.heap.size rfl CA HZ1.out (HB1.out _ HT.out) ?_)
      | (go_at_call 10; refine (HFA.out _ HT.out).mono ?_; rintro e w1 ⟨rfl, hb1⟩; have HT1 := Lib.hid (HT.out.more hb1); clear hb1 HT)
      | ((with_reducible refine load_cfgw ?_ (.tmp 5) rfl (w.heap.size + 1) rfl CB HZ2.out (HB2.out _ HT1.out) ?_); exact rfl)
      | (go_at_call 10; refine (HFB.out _ HT1.out).mono ?_; rintro e w2 ⟨rfl, hb2⟩; have HT2 := Lib.hid (HT1.out.more hb2); clear hb2))
    have HBE : Hid (∀ W, Below w2.heap.size w2 W → Below w.heap.size w W) := Lib.hid fun W hW => (HT2.out.more hW).below
    have HTW : Hid (∀ W, Below w2.heap.size w2 W → TwoIn w ca cb p q W) := Lib.hid fun W hW => HT2.out.more hW
    have HR1 : Hid (∀ W, Below w2.heap.size w2 W → W.heap[w.heap.size]? = some (.cells CA 30)) := Lib.hid fun W hW => HB1.out W (HTW.out W hW)
    have HR2 : Hid (∀ W, Below w2.heap.size w2 W → W.heap[w.heap.size + 1]? = some (.cells CB 30)) := Lib.hid fun W hW => HB2.out W (HTW.out W hW)
    have HC1 : Hid (∀ W, Below w2.heap.size w2 W → ∀ k v, (cfgA ca p)[k]? = some v → W.cell? ⟨w.heap.size, k, none⟩ = some v) := Lib.hid fun W hW k v h => by rw [cell_of_row W w.heap.size k _ _ _ (HR1.out W hW), HCA.out]; exact h
    have HC2 : Hid (∀ W, Below w2.heap.size w2 W → ∀ k v, (cfgA cb q)[k]? = some v → W.cell? ⟨w.heap.size + 1, k, none⟩ = some v) := Lib.hid fun W hW k v h => by rw [cell_of_row W (w.heap.size + 1) k _ _ _ (HR2.out W hW), HCB.out]; exact h
    have HCH : Hid (p.ch.length = ca.cs.length ∧ q.ch.length = cb.cs.length) := Lib.hid ⟨HT2.out.c1.len5, HT2.out.c2.len5⟩
    have HLN : Hid (ca.ps.length ≤ 120 ∧ ca.ws.length ≤ 120 ∧ ca.rs.length ≤ 120 ∧ ca.ts.length ≤ 120 ∧ ca.cs.length ≤ 120 ∧ cb.ps.length ≤ 120 ∧ cb.ws.length ≤ 120 ∧ cb.rs.length ≤ 120 ∧ cb.ts.length ≤ 120 ∧ cb.cs.length ≤ 120) := Lib.hid (by have h1 := HTA.out.1; have h2 := HTB.out.1; unfold sizes at h1 h2; omega)
    have HPP : Hid (PartOk w2 4 ⟨p.A1, ca.ps.length, p.c1, ca.ps.flatMap partV⟩ ∧ PartOk w2 4 ⟨q.A1, cb.ps.length, q.c1, cb.ps.flatMap partV⟩) := Lib.hid ⟨recs_part HT2.out.c1.ps 4 (fun _ => rfl) partV_c1, recs_part HT2.out.c2.ps 4 (fun _ => rfl) partV_c1⟩
    have HPW : Hid (PartOk w2 3 ⟨p.A2, ca.ws.length, p.c2, ca.ws.flatMap winV⟩ ∧ PartOk w2 3 ⟨q.A2, cb.ws.length, q.c2, cb.ws.flatMap winV⟩) := Lib.hid ⟨recs_part HT2.out.c1.ws 3 (fun _ => rfl) winV_c1, recs_part HT2.out.c2.ws 3 (fun _ => rfl) winV_c1⟩
    have HPR : Hid (PartOk w2 5 ⟨p.A3, ca.rs.length, p.c3, ca.rs.flatMap regV⟩ ∧ PartOk w2 5 ⟨q.A3, cb.rs.length, q.c3, cb.rs.flatMap regV⟩) := Lib.hid ⟨recs_part HT2.out.c1.rs 5 (fun _ => rfl) regV_c1, recs_part HT2.out.c2.rs 5 (fun _ => rfl) regV_c1⟩
    have HPT : Hid (PartOk w2 6 ⟨p.A4, ca.ts.length, p.c4, ca.ts.flatMap portV⟩ ∧ PartOk w2 6 ⟨q.A4, cb.ts.length, q.c4, cb.ts.flatMap portV⟩) := Lib.hid ⟨recs_part HT2.out.c1.ts 6 (fun _ => rfl) portV_c1, recs_part HT2.out.c2.ts 6 (fun _ => rfl) portV_c1⟩
    have HPC : Hid (PartOk w2 3 ⟨p.A5, ca.cs.length, p.c5, p.ch.flatMap chanV⟩ ∧ PartOk w2 3 ⟨q.A5, cb.cs.length, q.c5, q.ch.flatMap chanV⟩) := Lib.hid (by
      have h1 := recs_part HT2.out.c1.cs 3 (fun _ => rfl) chanV_c1
      have h2 := recs_part HT2.out.c2.cs 3 (fun _ => rfl) chanV_c1
      rw [HCH.out.1] at h1
      rw [HCH.out.2] at h2
      exact ⟨h1, h2⟩)
    clear HT2 HFA HFB
    refine region_invB w2 [(21, Sq.val (.int .u64 (frame : Int))), (22, Sq.val (.pointer (some ⟨w.heap.size, 1, none⟩))), (23, Sq.val (.slice p.A1 ca.ps.length p.c1)), (24, Sq.val (.pointer (some ⟨w.heap.size + 1, 1, none⟩))), (25, Sq.val (.slice q.A1 cb.ps.length q.c1)), (26, Sq.row 23 1 2 [.slice p.A1 ca.ps.length p.c1, .slice q.A1 cb.ps.length q.c1]), (27, Sq.row 36 4 (ca.ps.length + cb.ps.length) ((ca.ps.flatMap partV) ++ (cb.ps.flatMap partV))), (28, Sq.val (.pointer (some ⟨w.heap.size, 2, none⟩))), (29, Sq.val (.slice p.A2 ca.ws.length p.c2)), (30, Sq.val (.pointer (some ⟨w.heap.size + 1, 2, none⟩))), (31, Sq.val (.slice q.A2 cb.ws.length q.c2)), (32, Sq.row 26 1 2 [.slice p.A2 ca.ws.length p.c2, .slice q.A2 cb.ws.length q.c2]), (33, Sq.row 45 3 (ca.ws.length + cb.ws.length) ((ca.ws.flatMap winV) ++ (cb.ws.flatMap winV))), (34, Sq.val (.pointer (some ⟨w.heap.size, 3, none⟩))), (35, Sq.val (.slice p.A3 ca.rs.length p.c3)), (36, Sq.val (.pointer (some ⟨w.heap.size + 1, 3, none⟩))), (37, Sq.val (.slice q.A3 cb.rs.length q.c3)), (38, Sq.row 27 1 2 [.slice p.A3 ca.rs.length p.c3, .slice q.A3 cb.rs.length q.c3]), (39, Sq.row 47 5 (ca.rs.length + cb.rs.length) ((ca.rs.flatMap regV) ++ (cb.rs.flatMap regV))), (40, Sq.val (.pointer (some ⟨w.heap.size, 4, none⟩))), (41, Sq.val (.slice p.A4 ca.ts.length p.c4)), (42, Sq.val (.pointer (some ⟨w.heap.size + 1, 4, none⟩))), (43, Sq.val (.slice q.A4 cb.ts.length q.c4)), (44, Sq.row 24 1 2 [.slice p.A4 ca.ts.length p.c4, .slice q.A4 cb.ts.length q.c4]), (45, Sq.row 39 6 (ca.ts.length + cb.ts.length) ((ca.ts.flatMap portV) ++ (cb.ts.flatMap portV))), (46, Sq.val (.pointer (some ⟨w.heap.size, 5, none⟩))), (47, Sq.val (.slice p.A5 ca.cs.length p.c5)), (48, Sq.val (.pointer (some ⟨w.heap.size + 1, 5, none⟩))), (49, Sq.val (.slice q.A5 cb.cs.length q.c5)), (50, Sq.row 28 1 2 [.slice p.A5 ca.cs.length p.c5, .slice q.A5 cb.cs.length q.c5]), (51, Sq.row 34 3 (ca.cs.length + cb.cs.length) ((p.ch.flatMap chanV) ++ (q.ch.flatMap chanV))), (52, Sq.of [(0, 21), (6, 27), (12, 33), (18, 39), (24, 45), (30, 51)] (fun l => .agg l.toArray)), (7, Sq.box 30 zeroC [(0, 21), (6, 27), (12, 33), (18, 39), (24, 45), (30, 51)] (fun l => l.toArray) 33)] [(52, [(0, 21), (6, 27), (12, 33), (18, 39), (24, 45), (30, 51)])] [(7, 33, [(0, 21), (6, 27), (12, 33), (18, 39), (24, 45), (30, 51)])] (by kernel_rfl) ?_ (by kernel_rfl) rfl rfl ?_ ?_
    case refine_1 => exact (Below.refl _ _).drew
    case refine_2 =>
      refine ⟨?_, ?_, ?_, ?_, ?_, ?_, ?_, ?_, ?_, ?_, ?_, ?_, ?_, ?_, ?_, ?_, ?_, ?_, ?_, ?_, ?_, ?_, ?_, ?_, ?_, ?_, ?_, ?_, ?_, ?_, ?_, ?_, ?_, ?_, trivial⟩
      case refine_1 =>
        (refine Or.inl ⟨_, rfl, Nat.le_of_ble_eq_true rfl, fun listed a W hst hn hdep K hK => ?_⟩; (have e1 := hst.oldOf hn 0 (by kernel_rfl) rfl; simp only [Array.getD_eq_getD_getElem?] at e1); go_simp; exact hK _ _ (Below.refl _ _) (Sq.of_val rfl))
      case refine_2 =>
        refine Or.inl ⟨_, rfl, Nat.le_of_ble_eq_true rfl, fun listed a W hst hn hdep K hK => ?_⟩
        (have e1 := hst.oldOf hn 4 (by kernel_rfl) rfl; simp only [Array.getD_eq_getD_getElem?] at e1)
        go_simp
        exact hK _ _ (Below.refl _ _) (Sq.of_val rfl)
      case refine_3 =>
        refine Or.inl ⟨_, rfl, Nat.le_of_ble_eq_true rfl, fun listed a W hst hn hdep K hK => ?_⟩
        (have dd := dep_of hdep 1 (by kernel_rfl); have e1 := hst.valOf 1 22 (by kernel_rfl) dd rfl; clear dd)
        have c := HC1.out W hst.glob 1 _ rfl
        go_simp
        exact hK _ _ (Below.refl _ _) (Sq.of_val rfl)
      case refine_4 =>
        refine Or.inl ⟨_, rfl, Nat.le_of_ble_eq_true rfl, fun listed a W hst hn hdep K hK => ?_⟩
        (have e1 := hst.oldOf hn 5 (by kernel_rfl) rfl; simp only [Array.getD_eq_getD_getElem?] at e1)
        go_simp
        exact hK _ _ (Below.refl _ _) (Sq.of_val rfl)
      case refine_5 =>
        refine Or.inl ⟨_, rfl, Nat.le_of_ble_eq_true rfl, fun listed a W hst hn hdep K hK => ?_⟩
        (have dd := dep_of hdep 3 (by kernel_rfl); have e1 := hst.valOf 3 24 (by kernel_rfl) dd rfl; clear dd)
        have c := HC2.out W hst.glob 1 _ rfl
        go_simp
        exact hK _ _ (Below.refl _ _) (Sq.of_val rfl)
      case refine_6 =>
        refine Or.inl ⟨_, rfl, Nat.le_of_ble_eq_true rfl, fun listed a W hst hn hdep K hK => ?_⟩
        (have dd := dep_of hdep 2 (by kernel_rfl); have e1 := hst.valOf 2 23 (by kernel_rfl) dd rfl; clear dd)
        (have dd := dep_of hdep 4 (by kernel_rfl); have e2 := hst.valOf 4 25 (by kernel_rfl) dd rfl; clear dd)
        go_simp
        exact hK _ _ ((Below.refl _ _).alloc (Nat.le_refl _) _) (Sq.of_row rfl (OwnC.lit W 23 1 2 #[.slice p.A1 ca.ps.length p.c1, .slice q.A1 cb.ps.length q.c1] (by unfold maxLen; omega) rfl))
      case refine_7 =>
        refine Or.inl ⟨_, rfl, Nat.le_of_ble_eq_true rfl, fun listed a W hst hn hdep K hK => ?_⟩
        (have dd := dep_of hdep 5 (by kernel_rfl); have r1 := hst.rowOf 5 26 (by kernel_rfl) dd rfl; clear dd)
        have HCAT := Lib.hid (cat2_P r1 (HPP.out.1.below (Below.mono hst.glob (Nat.le_refl _))) (HPP.out.2.below (Below.mono hst.glob (Nat.le_refl _))) (by have := HLN.out; simp only; omega))
        clear r1
        go_simp
        generalize a.tmps[26]?.getD undef = v at HCAT ⊢
        go_wp2_with (go_at_call 23; with_reducible refine HCAT.out.mono ?_; rintro e w1 ⟨v', rfl, ho, hb⟩)
        exact hK _ _ hb (Sq.of_row rfl ho)
      case refine_8 =>
        refine Or.inl ⟨_, rfl, Nat.le_of_ble_eq_true rfl, fun listed a W hst hn hdep K hK => ?_⟩
        (have e1 := hst.oldOf hn 4 (by kernel_rfl) rfl; simp only [Array.getD_eq_getD_getElem?] at e1)
        go_simp
        exact hK _ _ (Below.refl _ _) (Sq.of_val rfl)
      case refine_9 =>
        refine Or.inl ⟨_, rfl, Nat.le_of_ble_eq_true rfl, fun listed a W hst hn hdep K hK => ?_⟩
        (have dd := dep_of hdep 7 (by kernel_rfl); have e1 := hst.valOf 7 28 (by kernel_rfl) dd rfl; clear dd)
        have c := HC1.out W hst.glob 2 _ rfl
        go_simp
        exact hK _ _ (Below.refl _ _) (Sq.of_val rfl)
      case refine_10 =>
        refine Or.inl ⟨_, rfl, Nat.le_of_ble_eq_true rfl, fun listed a W hst hn hdep K hK => ?_⟩
        (have e1 := hst.oldOf hn 5 (by kernel_rfl) rfl; simp only [Array.getD_eq_getD_getElem?] at e1)
        go_simp
        exact hK _ _ (Below.refl _ _) (Sq.of_val rfl)
      case refine_11 =>
        refine Or.inl ⟨_, rfl, Nat.le_of_ble_eq_true rfl, fun listed a W hst hn hdep K hK => ?_⟩
        (have dd := dep_of hdep 9 (by kernel_rfl); have e1 := hst.valOf 9 30 (by kernel_rfl) dd rfl; clear dd)
        have c := HC2.out W hst.glob 2 _ rfl
        go_simp
        exact hK _ _ (Below.refl _ _) (Sq.of_val rfl)
      case refine_12 =>
        refine Or.inl ⟨_, rfl, Nat.le_of_ble_eq_true rfl, fun listed a W hst hn hdep K hK => ?_⟩
        (have dd := dep_of hdep 8 (by kernel_rfl); have e1 := hst.valOf 8 29 (by kernel_rfl) dd rfl; clear dd)
        (have dd := dep_of hdep 10 (by kernel_rfl); have e2 := hst.valOf 10 31 (by kernel_rfl) dd rfl; clear dd)
        go_simp
        exact hK _ _ ((Below.refl _ _).alloc (Nat.le_refl _) _) (Sq.of_row rfl (OwnC.lit W 26 1 2 #[.slice p.A2 ca.ws.length p.c2, .slice q.A2 cb.ws.length q.c2] (by unfold maxLen; omega) rfl))
      case refine_13 =>
        refine Or.inl ⟨_, rfl, Nat.le_of_ble_eq_true rfl, fun listed a W hst hn hdep K hK => ?_⟩
        (have dd := dep_of hdep 11 (by kernel_rfl); have r1 := hst.rowOf 11 32 (by kernel_rfl) dd rfl; clear dd)
        have HCAT := Lib.hid (cat2_W r1 (HPW.out.1.below (Below.mono hst.glob (Nat.le_refl _))) (HPW.out.2.below (Below.mono hst.glob (Nat.le_refl _))) (by have := HLN.out; simp only; omega))
        clear r1
        go_simp
        generalize a.tmps[32]?.getD undef = v at HCAT ⊢
        go_wp2_with (go_at_call 20; with_reducible refine HCAT.out.mono ?_; rintro e w1 ⟨v', rfl, ho, hb⟩)
        exact hK _ _ hb (Sq.of_row rfl ho)
      case refine_14 =>
        refine Or.inl ⟨_, rfl, Nat.le_of_ble_eq_true rfl, fun listed a W hst hn hdep K hK => ?_⟩
        (have e1 := hst.oldOf hn 4 (by kernel_rfl) rfl; simp only [Array.getD_eq_getD_getElem?] at e1)
        go_simp
        exact hK _ _ (Below.refl _ _) (Sq.of_val rfl)
      case refine_15 =>
        refine Or.inl ⟨_, rfl, Nat.le_of_ble_eq_true rfl, fun listed a W hst hn hdep K hK => ?_⟩
        (have dd := dep_of hdep 13 (by kernel_rfl); have e1 := hst.valOf 13 34 (by kernel_rfl) dd rfl; clear dd)
        have c := HC1.out W hst.glob 3 _ rfl
        go_simp
        exact hK _ _ (Below.refl _ _) (Sq.of_val rfl)
      case refine_16 =>
        refine Or.inl ⟨_, rfl, Nat.le_of_ble_eq_true rfl, fun listed a W hst hn hdep K hK => ?_⟩
        (have e1 := hst.oldOf hn 5 (by kernel_rfl) rfl; simp only [Array.getD_eq_getD_getElem?] at e1)
        go_simp
        exact hK _ _ (Below.refl _ _) (Sq.of_val rfl)
      case refine_17 =>
        refine Or.inl ⟨_, rfl, Nat.le_of_ble_eq_true rfl, fun listed a W hst hn hdep K hK => ?_⟩
        (have dd := dep_of hdep 15 (by kernel_rfl); have e1 := hst.valOf 15 36 (by kernel_rfl) dd rfl; clear dd)
        have c := HC2.out W hst.glob 3 _ rfl
        go_simp
        exact hK _ _ (Below.refl _ _) (Sq.of_val rfl)
      case refine_18 =>
        refine Or.inl ⟨_, rfl, Nat.le_of_ble_eq_true rfl, fun listed a W hst hn hdep K hK => ?_⟩
        (have dd := dep_of hdep 14 (by kernel_rfl); have e1 := hst.valOf 14 35 (by kernel_rfl) dd rfl; clear dd)
        (have dd := dep_of hdep 16 (by kernel_rfl); have e2 := hst.valOf 16 37 (by kernel_rfl) dd rfl; clear dd)
        go_simp
        exact hK _ _ ((Below.refl _ _).alloc (Nat.le_refl _) _) (Sq.of_row rfl (OwnC.lit W 27 1 2 #[.slice p.A3 ca.rs.length p.c3, .slice q.A3 cb.rs.length q.c3] (by unfold maxLen; omega) rfl))
      case refine_19 =>
        refine Or.inl ⟨_, rfl, Nat.le_of_ble_eq_true rfl, fun listed a W hst hn hdep K hK => ?_⟩
        (have dd := dep_of hdep 17 (by kernel_rfl); have r1 := hst.rowOf 17 38 (by kernel_rfl) dd rfl; clear dd)
        have HCAT := Lib.hid (cat2_R r1 (HPR.out.1.below (Below.mono hst.glob (Nat.le_refl _))) (HPR.out.2.below (Below.mono hst.glob (Nat.le_refl _))) (by have := HLN.out; simp only; omega))
        clear r1
        go_simp
        generalize a.tmps[38]?.getD undef = v at HCAT ⊢
        go_wp2_with (go_at_call 24; with_reducible refine HCAT.out.mono ?_; rintro e w1 ⟨v', rfl, ho, hb⟩)
        exact hK _ _ hb (Sq.of_row rfl ho)
      case refine_20 =>
        refine Or.inl ⟨_, rfl, Nat.le_of_ble_eq_true rfl, fun listed a W hst hn hdep K hK => ?_⟩
        (have e1 := hst.oldOf hn 4 (by kernel_rfl) rfl; simp only [Array.getD_eq_getD_getElem?] at e1)
        go_simp
        exact hK _ _ (Below.refl _ _) (Sq.of_val rfl)
      case refine_21 =>
        refine Or.inl ⟨_, rfl, Nat.le_of_ble_eq_true rfl, fun listed a W hst hn hdep K hK => ?_⟩
        (have dd := dep_of hdep 19 (by kernel_rfl); have e1 := hst.valOf 19 40 (by kernel_rfl) dd rfl; clear dd)
        have c := HC1.out W hst.glob 4 _ rfl
        go_simp
        exact hK _ _ (Below.refl _ _) (Sq.of_val rfl)
      case refine_22 =>
        refine Or.inl ⟨_, rfl, Nat.le_of_ble_eq_true rfl, fun listed a W hst hn hdep K hK => ?_⟩
        (have e1 := hst.oldOf hn 5 (by kernel_rfl) rfl; simp only [Array.getD_eq_getD_getElem?] at e1)
        go_simp
        exact hK _ _ (Below.refl _ _) (Sq.of_val rfl)
      case refine_23 =>
        refine Or.inl ⟨_, rfl, Nat.le_of_ble_eq_true rfl, fun listed a W hst hn hdep K hK => ?_⟩
        (have dd := dep_of hdep 21 (by kernel_rfl); have e1 := hst.valOf 21 42 (by kernel_rfl) dd rfl; clear dd)
        have c := HC2.out W hst.glob 4 _ rfl
        go_simp
        exact hK _ _ (Below.refl _ _) (Sq.of_val rfl)
      case refine_24 =>
        refine Or.inl ⟨_, rfl, Nat.le_of_ble_eq_true rfl, fun listed a W hst hn hdep K hK => ?_⟩
        (have dd := dep_of hdep 20 (by kernel_rfl); have e1 := hst.valOf 20 41 (by kernel_rfl) dd rfl; clear dd)
        (have dd := dep_of hdep 22 (by kernel_rfl); have e2 := hst.valOf 22 43 (by kernel_rfl) dd rfl; clear dd)
        go_simp
        exact hK _ _ ((Below.refl _ _).alloc (Nat.le_refl _) _) (Sq.of_row rfl (OwnC.lit W 24 1 2 #[.slice p.A4 ca.ts.length p.c4, .slice q.A4 cb.ts.length q.c4] (by unfold maxLen; omega) rfl))
      case refine_25 =>
        refine Or.inl ⟨_, rfl, Nat.le_of_ble_eq_true rfl, fun listed a W hst hn hdep K hK => ?_⟩
        (have dd := dep_of hdep 23 (by kernel_rfl); have r1 := hst.rowOf 23 44 (by kernel_rfl) dd rfl; clear dd)
        have HCAT := Lib.hid (cat2_T r1 (HPT.out.1.below (Below.mono hst.glob (Nat.le_refl _))) (HPT.out.2.below (Below.mono hst.glob (Nat.le_refl _))) (by have := HLN.out; simp only; omega))
        clear r1
        go_simp
        generalize a.tmps[44]?.getD undef = v at HCAT ⊢
        go_wp2_with (go_at_call 21; with_reducible refine HCAT.out.mono ?_; rintro e w1 ⟨v', rfl, ho, hb⟩)
        exact hK _ _ hb (Sq.of_row rfl ho)
      case refine_26 =>
        refine Or.inl ⟨_, rfl, Nat.le_of_ble_eq_true rfl, fun listed a W hst hn hdep K hK => ?_⟩
        (have e1 := hst.oldOf hn 4 (by kernel_rfl) rfl; simp only [Array.getD_eq_getD_getElem?] at e1)
        go_simp
        exact hK _ _ (Below.refl _ _) (Sq.of_val rfl)
      case refine_27 =>
        refine Or.inl ⟨_, rfl, Nat.le_of_ble_eq_true rfl, fun listed a W hst hn hdep K hK => ?_⟩
        (have dd := dep_of hdep 25 (by kernel_rfl); have e1 := hst.valOf 25 46 (by kernel_rfl) dd rfl; clear dd)
        have c := HC1.out W hst.glob 5 _ rfl
        go_simp
        exact hK _ _ (Below.refl _ _) (Sq.of_val rfl)
      case refine_28 =>
        refine Or.inl ⟨_, rfl, Nat.le_of_ble_eq_true rfl, fun listed a W hst hn hdep K hK => ?_⟩
        (have e1 := hst.oldOf hn 5 (by kernel_rfl) rfl; simp only [Array.getD_eq_getD_getElem?] at e1)
        go_simp
        exact hK _ _ (Below.refl _ _) (Sq.of_val rfl)
      case refine_29 =>
        refine Or.inl ⟨_, rfl, Nat.le_of_ble_eq_true rfl, fun listed a W hst hn hdep K hK => ?_⟩
        (have dd := dep_of hdep 27 (by kernel_rfl); have e1 := hst.valOf 27 48 (by kernel_rfl) dd rfl; clear dd)
        have c := HC2.out W hst.glob 5 _ rfl
        go_simp
        exact hK _ _ (Below.refl _ _) (Sq.of_val rfl)
      case refine_30 =>
        refine Or.inl ⟨_, rfl, Nat.le_of_ble_eq_true rfl, fun listed a W hst hn hdep K hK => ?_⟩
        (have dd := dep_of hdep 26 (by kernel_rfl); have e1 := hst.valOf 26 47 (by kernel_rfl) dd rfl; clear dd)
        (have dd := dep_of hdep 28 (by kernel_rfl); have e2 := hst.valOf 28 49 (by kernel_rfl) dd rfl; clear dd)
        go_simp
        exact hK _ _ ((Below.refl _ _).alloc (Nat.le_refl _) _) (Sq.of_row rfl (OwnC.lit W 28 1 2 #[.slice p.A5 ca.cs.length p.c5, .slice q.A5 cb.cs.length q.c5] (by unfold maxLen; omega) rfl))
      case refine_31 =>
        refine Or.inl ⟨_, rfl, Nat.le_of_ble_eq_true rfl, fun listed a W hst hn hdep K hK => ?_⟩
        (have dd := dep_of hdep 29 (by kernel_rfl); have r1 := hst.rowOf 29 50 (by kernel_rfl) dd rfl; clear dd)
        have HCAT := Lib.hid (cat2_C r1 (HPC.out.1.below (Below.mono hst.glob (Nat.le_refl _))) (HPC.out.2.below (Below.mono hst.glob (Nat.le_refl _))) (by have := HLN.out; simp only; omega))
        clear r1
        go_simp
        generalize a.tmps[50]?.getD undef = v at HCAT ⊢
        go_wp2_with (go_at_call 25; with_reducible refine HCAT.out.mono ?_; rintro e w1 ⟨v', rfl, ho, hb⟩)
        exact hK _ _ hb (Sq.of_row rfl ho)
      case refine_32 =>
        refine Or.inl ⟨_, rfl, Nat.le_of_ble_eq_true rfl, fun listed a W hst hn hdep K hK => ?_⟩
        (have dd := dep_of hdep 0 (by kernel_rfl); have e0 := hst.valOf 0 21 (by kernel_rfl) dd rfl; clear dd)
        have D0 := dep_of hdep 6 (by kernel_rfl)
        have D1 := dep_of hdep 12 (by kernel_rfl)
        have D2 := dep_of hdep 18 (by kernel_rfl)
        have D3 := dep_of hdep 24 (by kernel_rfl)
        have D4 := dep_of hdep 30 (by kernel_rfl)
        obtain ⟨B0, d0, h0, -⟩ := (hst.rowOf 6 27 (by kernel_rfl) D0 rfl).cells
        obtain ⟨B1, d1, h1, -⟩ := (hst.rowOf 12 33 (by kernel_rfl) D1 rfl).cells
        obtain ⟨B2, d2, h2, -⟩ := (hst.rowOf 18 39 (by kernel_rfl) D2 rfl).cells
        obtain ⟨B3, d3, h3, -⟩ := (hst.rowOf 24 45 (by kernel_rfl) D3 rfl).cells
        obtain ⟨B4, d4, h4, -⟩ := (hst.rowOf 30 51 (by kernel_rfl) D4 rfl).cells
        go_simp
        exact hK _ _ (Below.refl _ _) (Sq.of_fn rfl (by simp [e0, h0, h1, h2, h3, h4]))
      case refine_33 =>
        refine Or.inl ⟨_, rfl, Nat.le_of_ble_eq_true rfl, fun listed a W hst hn hdep K hK => ?_⟩
        go_simp
        exact hK _ _ ((Below.refl _ _).alloc (Nat.le_refl _) _) (Sq.of_box rfl)
      case refine_34 =>
        refine Or.inr ⟨rfl, 32, 7, _, _, _, _, by kernel_rfl, rfl, after_of (by kernel_rfl), fun listed a W hst hn hdep g hg hz K hK => ?_⟩
        have DD := dep_of hdep 31 (by kernel_rfl)
        have D9 := hst.reach 14 31 0 (by kernel_rfl) DD
        have e0 := hst.valOf 0 21 (by kernel_rfl) D9 rfl
        have f52 := hst.fnOf 31 52 (by kernel_rfl) DD rfl
        have D0 := hst.reach 14 31 6 (by kernel_rfl) DD
        have D1 := hst.reach 14 31 12 (by kernel_rfl) DD
        have D2 := hst.reach 14 31 18 (by kernel_rfl) DD
        have D3 := hst.reach 14 31 24 (by kernel_rfl) DD
        have D4 := hst.reach 14 31 30 (by kernel_rfl) DD
        obtain ⟨B0, d0, h0, -⟩ := (hst.rowOf 6 27 (by kernel_rfl) D0 rfl).cells
        obtain ⟨B1, d1, h1, -⟩ := (hst.rowOf 12 33 (by kernel_rfl) D1 rfl).cells
        obtain ⟨B2, d2, h2, -⟩ := (hst.rowOf 18 39 (by kernel_rfl) D2 rfl).cells
        obtain ⟨B3, d3, h3, -⟩ := (hst.rowOf 24 45 (by kernel_rfl) D3 rfl).cells
        obtain ⟨B4, d4, h4, -⟩ := (hst.rowOf 30 51 (by kernel_rfl) D4 rfl).cells
        have hC : (List.map (fun k => tv a k.2) [(0, 21), (6, 27), (12, 33), (18, 39), (24, 45), (30, 51)]).toArray = #[.int .u64 (frame : Int), .slice B0 (ca.ps.length + cb.ps.length) d0, .slice B1 (ca.ws.length + cb.ws.length) d1, .slice B2 (ca.rs.length + cb.rs.length) d2, .slice B3 (ca.ts.length + cb.ts.length) d3, .slice B4 (ca.cs.length + cb.cs.length) d4] := by simp [tv, e0, h0, h1, h2, h3, h4]
        have hC' : a.tmps[52]?.getD undef = .agg #[.int .u64 (frame : Int), .slice B0 (ca.ps.length + cb.ps.length) d0, .slice B1 (ca.ws.length + cb.ws.length) d1, .slice B2 (ca.rs.length + cb.rs.length) d2, .slice B3 (ca.ts.length + cb.ts.length) d3, .slice B4 (ca.cs.length + cb.cs.length) d4] := by rw [f52]; simp [e0, h0, h1, h2, h3, h4]
        refine box_store rfl 30 7 52 rfl rfl g _ (by simpa [tv] using hg) hC' 30 zeroC hz (by kernel_rfl) rfl (by simp only [List.all_toArray, List.all_cons, List.all_nil]; rfl) (fun w' hT hw => hK w' hT ?_)
        rw [hC]
        exact hw
    case refine_3 =>
      rintro ⟨⟨tm⟩, df⟩ W3 listed hl hst
      obtain rfl : df = [] := hst.defers
      obtain ⟨G, s7, hG1, hG2, hrow⟩ := hst.boxOf 32 7 (by kernel_rfl) (hl 32 (Nat.le_of_ble_eq_true rfl)) rfl (hl 33 (Nat.le_of_ble_eq_true rfl))
      have e0 := hst.valOf 0 21 (by kernel_rfl) (hl 0 (Nat.le_of_ble_eq_true rfl)) rfl
      obtain ⟨B0, d0, h0, cc0, nn0, ff0, -⟩ := (hst.rowOf 6 27 (by kernel_rfl) (hl 6 (Nat.le_of_ble_eq_true rfl)) rfl).cells
      obtain ⟨B1, d1, h1, cc1, nn1, ff1, -⟩ := (hst.rowOf 12 33 (by kernel_rfl) (hl 12 (Nat.le_of_ble_eq_true rfl)) rfl).cells
      obtain ⟨B2, d2, h2, cc2, nn2, ff2, -⟩ := (hst.rowOf 18 39 (by kernel_rfl) (hl 18 (Nat.le_of_ble_eq_true rfl)) rfl).cells
      obtain ⟨B3, d3, h3, cc3, nn3, ff3, -⟩ := (hst.rowOf 24 45 (by kernel_rfl) (hl 24 (Nat.le_of_ble_eq_true rfl)) rfl).cells
      obtain ⟨B4, d4, h4, cc4, nn4, ff4, -⟩ := (hst.rowOf 30 51 (by kernel_rfl) (hl 30 (Nat.le_of_ble_eq_true rfl)) rfl).cells
      obtain ⟨c3, hc3⟩ : ∃ c3, c3 = both frame ca cb := ⟨_, rfl⟩
      obtain ⟨r3, hr3⟩ : ∃ r3 : CfgQ, r3 = ⟨B0, d0, B1, d1, B2, d2, B3, d3, B4, d4, p.ch ++ q.ch⟩ := ⟨_, rfl⟩
      obtain ⟨C3, hC3⟩ : ∃ C3, C3 = cfgA c3 r3 := ⟨_, rfl⟩
      have hrow3 : W3.heap[G]? = some (.cells C3 30) := by
        simp at e0 h0 h1 h2 h3 h4
        rw [hrow, hC3, hc3, hr3]
        simp [e0, h0, h1, h2, h3, h4, cfgA, both]
      have s0 := hst.oldEnd 0 (by kernel_rfl) rfl
      have s4 := hst.oldEnd 4 (by kernel_rfl) rfl
      have s5 := hst.oldEnd 5 (by kernel_rfl) rfl
      have hsz : tm.length = 91 := hst.size
      have hglob := hst.glob
      have hln := HLN.out
      have htw := HTW.out W3 hglob
      have hin3 : CfgIn W3 c3 r3 := by
        have hk := both_nums HFRM.out HOA.out HOB.out
        rw [← hc3] at hk
        rw [hc3] at hk ⊢
        rw [hr3]
        refine ⟨rec2 cc0 nn0 ff0 (by omega), rec2 cc1 nn1 ff1 (by omega), rec2 cc2 nn2 ff2 (by omega), rec2 cc3 nn3 ff3 (by omega), rec2 cc4 nn4 (by rw [HCH.out.1, HCH.out.2]; exact ff4) (by rw [HCH.out.1, HCH.out.2]; omega), ?_, fun x hx => ?_, hk.frame, hk.okp, hk.okw, hk.okr, hk.okt, hk.okc⟩
        · show (p.ch ++ q.ch).map (·.r) = ca.cs ++ cb.cs
          rw [List.map_append, htw.c1.ch, htw.c2.ch]
        · rcases List.mem_append.1 hx with hx | hx
          · exact htw.c1.ds x hx
          · exact htw.c2.ds x hx
      have HIN3 := Lib.hid hin3
      have hsh := both_short frame HTA.out HTB.out
      rw [← hc3] at hsh
      have HSH3 := Lib.hid hsh
      have HC3 := Lib.hid hC3
      have HCC3 := Lib.hid hc3
      have HZ3 : Hid (C3.size = 6) := Lib.hid (by rw [hC3]; rfl)
      have HGL3 := Lib.hid hglob
      have HROW3 := Lib.hid hrow3
      have HG2 := Lib.hid hG2
      clear hst hl hrow hrow3 e0 h0 h1 h2 h3 h4 cc0 cc1 cc2 cc3 cc4 nn0 nn1 nn2 nn3 nn4 ff0 ff1 ff2 ff3 ff4 hln htw hin3 hsh hC3 hc3 hr3 hglob hG1 hG2
      ((repeat (have hh := arr_succ hsz; clear hsz; obtain ⟨_, tm, rfl, hsz⟩ := hh)); (obtain rfl := List.eq_nil_of_length_eq_zero hsz))
      simp at s0 s4 s5 s7
      subst s0 s4 s5 s7
      go_wp2_with fail
      obtain ⟨X3, hX3⟩ : ∃ X3, X3 = cntA c3 := ⟨_, rfl⟩
      obtain ⟨XA, hXA⟩ : ∃ XA, XA = cntA ca := ⟨_, rfl⟩
      obtain ⟨XB, hXB⟩ : ∃ XB, XB = cntA cb := ⟨_, rfl⟩
      have HN3 : Hid (∀ W, Below W3.heap.size W3 W → Calls Tryz.prog 26 #[.agg C3] W fun e w' => e = .returned (.agg X3) ∧ Below W.heap.size W w') := Lib.hid fun W hW => by rw [HC3.out, hX3]; exact pcounts_ok c3 r3 W (HIN3.out.below (Nat.le_refl _) hW)
      have HGL : Hid (∀ W, Below W3.heap.size W3 W → Below w2.heap.size w2 W) := Lib.hid fun W hW => HGL3.out.trans (hW.mono HGL3.out.size)
      have HNA : Hid (∀ W, Below W3.heap.size W3 W → Calls Tryz.prog 27 #[.agg CA] W fun e w' => e = .returned (.agg XA) ∧ Below W.heap.size W w') := Lib.hid fun W hW => by rw [HCA.out, hXA]; exact counts_ok ca p W (HTW.out W (HGL.out W hW)).c1
      have HNB : Hid (∀ W, Below W3.heap.size W3 W → Calls Tryz.prog 27 #[.agg CB] W fun e w' => e = .returned (.agg XB) ∧ Below W.heap.size W w') := Lib.hid fun W hW => by rw [HCB.out, hXB]; exact counts_ok cb q W (HTW.out W (HGL.out W hW)).c2
      have HG3 : Hid (∀ W, Below W3.heap.size W3 W → W.heap[G]? = some (.cells C3 30)) := Lib.hid fun W hW => (hW.block G HG2.out).trans HROW3.out
      have HRS1 : Hid (∀ W, Below W3.heap.size W3 W → W.heap[w.heap.size]? = some (.cells CA 30)) := Lib.hid fun W hW => HR1.out W (HGL.out W hW)
      have HRS2 : Hid (∀ W, Below W3.heap.size W3 W → W.heap[w.heap.size + 1]? = some (.cells CB 30)) := Lib.hid fun W hW => HR2.out W (HGL.out W hW)
      have HX3 : Hid (X3.size = 7 ∧ X3.all (·.oneCell') = true) := Lib.hid (by rw [hX3]; exact ⟨rfl, by simp only [cntA, List.all_toArray, List.all_cons, List.all_nil]; rfl⟩)
      have HXA : Hid (XA.size = 7 ∧ XA.all (·.oneCell') = true) := Lib.hid (by rw [hXA]; exact ⟨rfl, by simp only [cntA, List.all_toArray, List.all_cons, List.all_nil]; rfl⟩)
      have HXB : Hid (XB.size = 7 ∧ XB.all (·.oneCell') = true) := Lib.hid (by rw [hXB]; exact ⟨rfl, by simp only [cntA, List.all_toArray, List.all_cons, List.all_nil]; rfl⟩)
      have HK3 := Lib.hid hX3
      have HKA := Lib.hid hXA
      have HKB := Lib.hid hXB
      clear hX3 hXA hXB
      refine region_invB W3 [(53, Sq.val (.agg C3)), (54, Sq.val (.agg X3)), (55, Sq.val (.agg CA)), (56, Sq.val (.agg XA)), (57, Sq.val (.agg CB)), (58, Sq.val (.agg XB)), (8, Sq.box 63 zero7 [] (fun _ => X3) 9), (9, Sq.box 63 zero7 [] (fun _ => XA) 10), (10, Sq.box 63 zero7 [] (fun _ => XB) 11)] [] [(8, 9, []), (9, 10, []), (10, 11, [])] (by kernel_rfl) ?_ (by kernel_rfl) rfl rfl ?_ ?_
      case refine_1 => exact (Below.refl _ _).drew
      case refine_2 =>
        refine ⟨?_, ?_, ?_, ?_, ?_, ?_, ?_, ?_, ?_, ?_, ?_, ?_, trivial⟩
        case refine_1 =>
          refine Or.inl ⟨_, rfl, Nat.le_of_ble_eq_true rfl, fun listed a W hst hn hdep K hK => ?_⟩
          (have e1 := hst.oldOf hn 7 (by kernel_rfl) rfl; simp only [Array.getD_eq_getD_getElem?] at e1)
          refine inv_cfg (by simp [Region.wanted]) (.tmp 7) rfl G ((eval_tmp a 7).trans e1) C3 (HZ3.out) (HG3.out W hst.glob) ?_
          exact hK _ _ (Below.refl _ _) (Sq.of_val rfl)
        case refine_2 =>
          refine Or.inl ⟨_, rfl, Nat.le_of_ble_eq_true rfl, fun listed a W hst hn hdep K hK => ?_⟩
          (have dd := dep_of hdep 0 (by kernel_rfl); have e1 := hst.valOf 0 53 (by kernel_rfl) dd rfl; clear dd)
          go_simp
          go_wp2_with (go_at_call 26; with_reducible refine (HN3.out W hst.glob).mono ?_; rintro e w1 ⟨rfl, hb⟩)
          exact hK _ _ hb (Sq.of_val rfl)
        case refine_3 =>
          refine Or.inl ⟨_, rfl, Nat.le_of_ble_eq_true rfl, fun listed a W hst hn hdep K hK => ?_⟩
          (have e1 := hst.oldOf hn 4 (by kernel_rfl) rfl; simp only [Array.getD_eq_getD_getElem?] at e1)
          refine inv_cfg (by simp [Region.wanted]) (.tmp 4) rfl w.heap.size ((eval_tmp a 4).trans e1) CA (HZ1.out) (HRS1.out W hst.glob) ?_
          exact hK _ _ (Below.refl _ _) (Sq.of_val rfl)
        case refine_4 =>
          refine Or.inl ⟨_, rfl, Nat.le_of_ble_eq_true rfl, fun listed a W hst hn hdep K hK => ?_⟩
          (have dd := dep_of hdep 2 (by kernel_rfl); have e1 := hst.valOf 2 55 (by kernel_rfl) dd rfl; clear dd)
          go_simp
          go_wp2_with (go_at_call 27; with_reducible refine (HNA.out W hst.glob).mono ?_; rintro e w1 ⟨rfl, hb⟩)
          exact hK _ _ hb (Sq.of_val rfl)
        case refine_5 =>
          refine Or.inl ⟨_, rfl, Nat.le_of_ble_eq_true rfl, fun listed a W hst hn hdep K hK => ?_⟩
          (have e1 := hst.oldOf hn 5 (by kernel_rfl) rfl; simp only [Array.getD_eq_getD_getElem?] at e1)
          refine inv_cfg (by simp [Region.wanted]) (.tmp 5) rfl (w.heap.size + 1) ((eval_tmp a 5).trans e1) CB (HZ2.out) (HRS2.out W hst.glob) ?_
          exact hK _ _ (Below.refl _ _) (Sq.of_val rfl)
        case refine_6 =>
          refine Or.inl ⟨_, rfl, Nat.le_of_ble_eq_true rfl, fun listed a W hst hn hdep K hK => ?_⟩
          (have dd := dep_of hdep 4 (by kernel_rfl); have e1 := hst.valOf 4 57 (by kernel_rfl) dd rfl; clear dd)
          go_simp
          go_wp2_with (go_at_call 27; with_reducible refine (HNB.out W hst.glob).mono ?_; rintro e w1 ⟨rfl, hb⟩)
          exact hK _ _ hb (Sq.of_val rfl)
        case refine_7 =>
          refine Or.inl ⟨_, rfl, Nat.le_of_ble_eq_true rfl, fun listed a W hst hn hdep K hK => ?_⟩
          go_simp
          exact hK _ _ ((Below.refl _ _).alloc (Nat.le_refl _) _) (Sq.of_box rfl)
        case refine_8 =>
          refine Or.inl ⟨_, rfl, Nat.le_of_ble_eq_true rfl, fun listed a W hst hn hdep K hK => ?_⟩
          go_simp
          exact hK _ _ ((Below.refl _ _).alloc (Nat.le_refl _) _) (Sq.of_box rfl)
        case refine_9 =>
          refine Or.inl ⟨_, rfl, Nat.le_of_ble_eq_true rfl, fun listed a W hst hn hdep K hK => ?_⟩
          go_simp
          exact hK _ _ ((Below.refl _ _).alloc (Nat.le_refl _) _) (Sq.of_box rfl)
        case refine_10 =>
          refine Or.inr ⟨rfl, 6, 8, _, _, _, _, by kernel_rfl, rfl, after_of (by kernel_rfl), fun listed a W hst hn hdep g hg hz K hK => ?_⟩
          (have dd := dep_of hdep 1 (by kernel_rfl); have e1 := hst.valOf 1 54 (by kernel_rfl) dd rfl; clear dd)
          exact box_store rfl 63 8 54 rfl rfl g _ (by simpa [tv] using hg) e1 63 zero7 hz (by rw [HX3.out.1]; kernel_rfl) HX3.out.1.symm HX3.out.2 (fun w' hT hw => hK w' hT hw)
        case refine_11 =>
          refine Or.inr ⟨rfl, 7, 9, _, _, _, _, by kernel_rfl, rfl, after_of (by kernel_rfl), fun listed a W hst hn hdep g hg hz K hK => ?_⟩
          (have dd := dep_of hdep 3 (by kernel_rfl); have e1 := hst.valOf 3 56 (by kernel_rfl) dd rfl; clear dd)
          exact box_store rfl 63 9 56 rfl rfl g _ (by simpa [tv] using hg) e1 63 zero7 hz (by rw [HXA.out.1]; kernel_rfl) HXA.out.1.symm HXA.out.2 (fun w' hT hw => hK w' hT hw)
        case refine_12 =>
          refine Or.inr ⟨rfl, 8, 10, _, _, _, _, by kernel_rfl, rfl, after_of (by kernel_rfl), fun listed a W hst hn hdep g hg hz K hK => ?_⟩
          (have dd := dep_of hdep 5 (by kernel_rfl); have e1 := hst.valOf 5 58 (by kernel_rfl) dd rfl; clear dd)
          exact box_store rfl 63 10 58 rfl rfl g _ (by simpa [tv] using hg) e1 63 zero7 hz (by rw [HXB.out.1]; kernel_rfl) HXB.out.1.symm HXB.out.2 (fun w' hT hw => hK w' hT hw)
      case refine_3 =>
        rintro ⟨⟨tm4⟩, df4⟩ W4 listed4 hl4 hst4
        obtain rfl : df4 = [] := hst4.defers
        obtain ⟨G8, s8, -, -, hrow8⟩ := hst4.boxOf 6 8 (by kernel_rfl) (hl4 6 (Nat.le_of_ble_eq_true rfl)) rfl (hl4 9 (Nat.le_of_ble_eq_true rfl))
        obtain ⟨G9, s9, -, -, hrow9⟩ := hst4.boxOf 7 9 (by kernel_rfl) (hl4 7 (Nat.le_of_ble_eq_true rfl)) rfl (hl4 10 (Nat.le_of_ble_eq_true rfl))
        obtain ⟨G10, s10, -, -, hrow10⟩ := hst4.boxOf 8 10 (by kernel_rfl) (hl4 8 (Nat.le_of_ble_eq_true rfl)) rfl (hl4 11 (Nat.le_of_ble_eq_true rfl))
        have s0 := hst4.oldEnd 0 (by kernel_rfl) rfl
        have s4 := hst4.oldEnd 4 (by kernel_rfl) rfl
        have s5 := hst4.oldEnd 5 (by kernel_rfl) rfl
        have s7 := hst4.oldEnd 7 (by kernel_rfl) rfl
        have hsz4 : tm4.length = 91 := hst4.size
        have hg4 := hst4.glob
        have HNUM : Hid (∀ W, Below W4.heap.size W4 W → ∀ k, k < 7 → W.cell? ⟨G8, k, none⟩ = some (.int .i64 (wrap64 (numV ca k + numV cb k))) ∧ W.cell? ⟨G9, k, none⟩ = some (.int .i64 (numV ca k)) ∧ W.cell? ⟨G10, k, none⟩ = some (.int .i64 (numV cb k))) := Lib.hid fun W hW k hk => by
          have hlt : ∀ {g : Nat} {o : Obj}, W4.heap[g]? = some o → g < W4.heap.size := fun {g} {o} h => (Array.getElem?_eq_some_iff.1 h).1
          rw [cell_of_row W G8 k _ _ _ ((hW.block G8 (hlt hrow8)).trans hrow8), cell_of_row W G9 k _ _ _ ((hW.block G9 (hlt hrow9)).trans hrow9), cell_of_row W G10 k _ _ _ ((hW.block G10 (hlt hrow10)).trans hrow10), HK3.out, HKA.out, HKB.out, cntA_at _ hk, cntA_at _ hk, cntA_at _ hk, HCC3.out, num_add frame HTA.out.1 HTB.out.1 k]
          exact ⟨rfl, rfl, rfl⟩
        have HG4 : Hid (∀ W, Below W4.heap.size W4 W → Below W3.heap.size W3 W) := Lib.hid fun W hW => hg4.trans (hW.mono hg4.size)
        have HG0 := Lib.hid hg4
        clear hst4 hl4 hrow8 hrow9 hrow10 hg4
        ((repeat (have hh := arr_succ hsz4; clear hsz4; obtain ⟨_, tm4, rfl, hsz4⟩ := hh)); (obtain rfl := List.eq_nil_of_length_eq_zero hsz4))
        simp at s0 s4 s5 s7 s8 s9 s10
        subst s0 s4 s5 s7 s8 s9 s10
        go_wp2_with fail
        go_loopw [59] (fun i wr => ∃ k : Nat, k ≤ 7 ∧ i = .int .i64 (k : Int) ∧ Hid (Below W4.heap.size W4 wr)) (fun i _ => 7 - (intOf i).toNat)
        case atStart => exact ⟨0, by omega, rfl, Lib.hid (Below.refl _ _)⟩
        case round =>
          obtain ⟨k, hk, rfl, ho⟩ := hrel
          by_cases hlt : k < 7
          · have hki : (k : Int) < 7 := by omega
            obtain ⟨y8, y9, y10⟩ := HNUM.out wr ho.out k hlt
            have HWR := Lib.hid ho.out
            clear ho
            generalize numV ca k = XX at y8 y9
            generalize numV cb k = YY at y8 y10
            go_wp2_with fail
            go_quiet (fail)
            go_wp2_with fail
            go_roundw
            case rel => exact ⟨k + 1, hlt, rfl, Lib.hid (below_drewN HWR.out _)⟩
            case measure => simp only [intOf]; omega
          · have hki : ¬ (k : Int) < 7 := by omega
            have HB4 := Lib.hid ho.out
            clear hlt hk ho
            go_wp2_with fail
            have HGG : Hid (∀ W, Below W4.heap.size W4 W → Below w2.heap.size w2 W) := Lib.hid fun W hW => HGL.out W (HG4.out W hW)
            have HMG : Hid (∀ W, Below W3.heap.size W3 W → ∀ A c, Cells W A (CA.toList ++ CB.toList) → Calls Tryz.prog 28 #[.int .u64 (frame : Int), .slice A 2 c] W fun e w' => ∃ q9, e = .returned (cfgV c3 q9) ∧ CfgIn w' c3 q9 ∧ Below W.heap.size W w') := Lib.hid fun W hW A c hA => by
              have htw := HTW.out W (HGL.out W hW)
              refine (merge_ok frame [(ca, p), (cb, q)] A c W (by rw [HCA.out, HCB.out] at hA; simpa using hA) (fun x hx => ?_) (by simp)).mono ?_
              · rcases List.mem_cons.1 hx with rfl | hx
                · exact ⟨htw.c1, Small.of HTA.out.1⟩
                · rcases List.mem_cons.1 hx with rfl | hx
                  · exact ⟨htw.c2, Small.of HTB.out.1⟩
                  · cases hx
              · rintro e w' ⟨q9, rfl, ho, hb⟩
                have e3 : mergeR frame (List.map (·.1) [(ca, p), (cb, q)]) = c3 := by rw [HCC3.out]; exact both_merge frame ca cb
                rw [e3] at ho ⊢
                exact ⟨q9, rfl, ho.cfg HIN3.out.nums HSH3.out.2 (by omega), hb⟩
            have HSM3 : Hid (∀ W, Below W3.heap.size W3 W → ∀ q9, CfgIn W c3 q9 → Calls Tryz.prog 14 #[cfgV c3 q9, .agg C3] W fun e w' => e = .returned (.bool true) ∧ Below W.heap.size W w') := Lib.hid fun W hW q9 h9 => by
              rw [HC3.out]
              exact (same_ok c3 c3 q9 r3 W h9 (HIN3.out.below (Nat.le_refl _) hW) HSH3.out.1 HSH3.out.1).mono fun e w' h => ⟨by rw [h.1, same_refl], h.2⟩
            have HM0 : Hid (∀ W, Calls Tryz.prog 28 #[.int .u64 (frame : Int), .slice none 0 0] W fun e w' => ∃ q9, e = .returned (cfgV (cfg0 frame) q9) ∧ CfgIn w' (cfg0 frame) q9 ∧ Below W.heap.size W w') := Lib.hid fun W => by
              refine (merge_ok frame [] none 0 W (Cells.nil _ _) (fun x hx => by cases hx) (by simp)).mono ?_
              rintro e w' ⟨q9, rfl, ho, hb⟩
              exact ⟨q9, rfl, ho.cfg (zero_nums HFRM.out) (n := 1000) ⟨by simp [mergeR], by simp [mergeR], by simp [mergeR], by simp [mergeR], by simp [mergeR], fun x hx => by simp [mergeR] at hx⟩ (by omega), hb⟩
            have HS0 : Hid (∀ W q9, CfgIn W (cfg0 frame) q9 → Calls Tryz.prog 14 #[cfgV (cfg0 frame) q9, cfgV (cfg0 frame) q0] W fun e w' => e = .returned (.bool true) ∧ Below W.heap.size W w') := Lib.hid fun W q9 h9 => by
              have h0 : CfgIn W (cfg0 frame) q0 := (own0 W 0 frame).cfg (zero_nums HFRM.out) (n := 1000) ⟨by simp [cfg0], by simp [cfg0], by simp [cfg0], by simp [cfg0], by simp [cfg0], fun x hx => by simp [cfg0] at hx⟩ (by omega)
              exact (same_ok (cfg0 frame) (cfg0 frame) q9 q0 W h9 h0 (zero_small frame) (zero_small frame)).mono fun e w' h => ⟨by rw [h.1, same_refl], h.2⟩
            refine region_invP W4 [(74, isV (.bool true)), (75, isV (.bool true)), (76, isV (.int .u64 (frame : Int))), (77, isV (.agg CA)), (78, isV (.agg CB)), (79, isRow W4.heap.size 30 6 2 (CA.toList ++ CB.toList)), (80, isCfg c3), (81, isV (.agg C3)), (82, isV (.bool true)), (83, isV (.bool true)), (84, isV (.bool true)), (85, isV (.int .u64 (frame : Int))), (86, isCfg (cfg0 frame)), (87, isV (.int .u64 (frame : Int))), (88, isV (cfgV (cfg0 frame) q0)), (89, isV (.bool true)), (90, isV (.bool true)), (6, isV (.bool true))] ⟨isV_keeps _, isV_keeps _, isV_keeps _, isV_keeps _, isV_keeps _, isRow_keeps _ _ _ _ _, isCfg_keeps _, isV_keeps _, isV_keeps _, isV_keeps _, isV_keeps _, isV_keeps _, isCfg_keeps _, isV_keeps _, isV_keeps _, isV_keeps _, isV_keeps _, isV_keeps _, trivial⟩ (by kernel_rfl) ?_ (by kernel_rfl) ?_ ?_
            case refine_1 => exact HB4.out.drew
            case refine_2 =>
              refine ⟨?_, ?_, ?_, ?_, ?_, ?_, ?_, ?_, ?_, ?_, ?_, ?_, ?_, ?_, ?_, ?_, ?_, ?_, trivial⟩
              case refine_1 =>
                refine ⟨_, rfl, Nat.le_of_ble_eq_true rfl, fun listed a W hst hn hdep K hK => ?_⟩
                go_simp
                go_wp2_with (go_at_call 9; with_reducible refine (HAL.out W).mono ?_; rintro e w1 ⟨rfl, hb⟩)
                exact hK _ _ hb rfl
              case refine_2 =>
                (refine ⟨_, rfl, Nat.le_of_ble_eq_true rfl, fun listed a W hst hn hdep K hK => ?_⟩; have dd := dep_of hdep 0 (by kernel_rfl); have e1 : a.tmps[74]?.getD undef = (.bool true) := hst.fact 0 74 (by kernel_rfl) dd; clear dd; go_simp; exact hK _ _ (Below.refl _ _) rfl)
              case refine_3 =>
                refine ⟨_, rfl, Nat.le_of_ble_eq_true rfl, fun listed a W hst hn hdep K hK => ?_⟩
                (have dd := dep_of hdep 1 (by kernel_rfl); have g1 : a.tmps[75]?.getD undef = (.bool true) := hst.fact 1 75 (by kernel_rfl) dd; clear dd)
                have g2 := getD_bool g1
                (have e1 := hst.oldOf hn 0 (by kernel_rfl) rfl; simp only [Array.getD_eq_getD_getElem?] at e1)
                go_simp
                exact hK _ _ (Below.refl _ _) rfl
              case refine_4 =>
                refine ⟨_, rfl, Nat.le_of_ble_eq_true rfl, fun listed a W hst hn hdep K hK => ?_⟩
                (have dd := dep_of hdep 1 (by kernel_rfl); have g1 : a.tmps[75]?.getD undef = (.bool true) := hst.fact 1 75 (by kernel_rfl) dd; clear dd)
                have g2 := getD_bool g1
                (have e1 := hst.oldOf hn 4 (by kernel_rfl) rfl; simp only [Array.getD_eq_getD_getElem?] at e1)
                refine inv_cfg (by simp [Region.wanted, yielded, g2]) (.tmp 4) rfl w.heap.size ((eval_tmp a 4).trans e1) CA HZ1.out (HRS1.out W (HG4.out _ hst.glob)) ?_
                exact hK _ _ (Below.refl _ _) rfl
              case refine_5 =>
                refine ⟨_, rfl, Nat.le_of_ble_eq_true rfl, fun listed a W hst hn hdep K hK => ?_⟩
                (have dd := dep_of hdep 1 (by kernel_rfl); have g1 : a.tmps[75]?.getD undef = (.bool true) := hst.fact 1 75 (by kernel_rfl) dd; clear dd)
                have g2 := getD_bool g1
                (have e1 := hst.oldOf hn 5 (by kernel_rfl) rfl; simp only [Array.getD_eq_getD_getElem?] at e1)
                refine inv_cfg (by simp [Region.wanted, yielded, g2]) (.tmp 5) rfl (w.heap.size + 1) ((eval_tmp a 5).trans e1) CB HZ2.out (HRS2.out W (HG4.out _ hst.glob)) ?_
                exact hK _ _ (Below.refl _ _) rfl
              case refine_6 =>
                refine ⟨_, rfl, Nat.le_of_ble_eq_true rfl, fun listed a W hst hn hdep K hK => ?_⟩
                (have dd := dep_of hdep 1 (by kernel_rfl); have g1 : a.tmps[75]?.getD undef = (.bool true) := hst.fact 1 75 (by kernel_rfl) dd; clear dd)
                have g2 := getD_bool g1
                (have dd := dep_of hdep 3 (by kernel_rfl); have e1 : a.tmps[77]?.getD undef = (.agg CA) := hst.fact 3 77 (by kernel_rfl) dd; clear dd)
                (have dd := dep_of hdep 4 (by kernel_rfl); have e2 : a.tmps[78]?.getD undef = (.agg CB) := hst.fact 4 78 (by kernel_rfl) dd; clear dd)
                rw [HCA.out] at e1
                rw [HCB.out] at e2
                unfold cfgA at e1 e2
                go_simp
                have ho := OwnC.lit W 30 6 2 (cfgA ca p ++ cfgA cb q) (by unfold maxLen; omega) rfl
                exact hK _ _ ((Below.refl _ _).alloc (Nat.le_refl _) _) (by show OwnC _ _ _ _ _ _ _; rw [HCA.out, HCB.out]; exact ho.base hst.glob.size)
              case refine_7 =>
                refine ⟨_, rfl, Nat.le_of_ble_eq_true rfl, fun listed a W hst hn hdep K hK => ?_⟩
                (have dd := dep_of hdep 1 (by kernel_rfl); have g1 : a.tmps[75]?.getD undef = (.bool true) := hst.fact 1 75 (by kernel_rfl) dd; clear dd)
                have g2 := getD_bool g1
                (have dd := dep_of hdep 2 (by kernel_rfl); have e1 : a.tmps[76]?.getD undef = (.int .u64 (frame : Int)) := hst.fact 2 76 (by kernel_rfl) dd; clear dd)
                (have dd := dep_of hdep 5 (by kernel_rfl); have r1 := hst.fact 5 79 (by kernel_rfl) dd; clear dd)
                obtain ⟨A9, c9, h9, hc9, -⟩ := OwnC.cells r1
                have HM := Lib.hid (HMG.out W (HG4.out _ hst.glob) A9 c9 hc9)
                clear r1 hc9
                go_simp
                go_wp2_with (go_at_call 28; with_reducible refine HM.out.mono ?_; rintro e w1 ⟨q9, rfl, hin, hb⟩)
                exact hK _ _ hb ⟨q9, rfl, hin⟩
              case refine_8 =>
                refine ⟨_, rfl, Nat.le_of_ble_eq_true rfl, fun listed a W hst hn hdep K hK => ?_⟩
                (have dd := dep_of hdep 1 (by kernel_rfl); have g1 : a.tmps[75]?.getD undef = (.bool true) := hst.fact 1 75 (by kernel_rfl) dd; clear dd)
                have g2 := getD_bool g1
                (have e1 := hst.oldOf hn 7 (by kernel_rfl) rfl; simp only [Array.getD_eq_getD_getElem?] at e1)
                refine inv_cfg (by simp [Region.wanted, yielded, g2]) (.tmp 7) rfl G ((eval_tmp a 7).trans e1) C3 HZ3.out (HG3.out W (HG4.out _ hst.glob)) ?_
                exact hK _ _ (Below.refl _ _) rfl
              case refine_9 =>
                refine ⟨_, rfl, Nat.le_of_ble_eq_true rfl, fun listed a W hst hn hdep K hK => ?_⟩
                (have dd := dep_of hdep 1 (by kernel_rfl); have g1 : a.tmps[75]?.getD undef = (.bool true) := hst.fact 1 75 (by kernel_rfl) dd; clear dd)
                have g2 := getD_bool g1
                (have dd := dep_of hdep 6 (by kernel_rfl); have r1 := hst.fact 6 80 (by kernel_rfl) dd; clear dd)
                (have dd := dep_of hdep 7 (by kernel_rfl); have e2 : a.tmps[81]?.getD undef = (.agg C3) := hst.fact 7 81 (by kernel_rfl) dd; clear dd)
                obtain ⟨q9, h9, hin⟩ := r1
                have HSM9 := Lib.hid (HSM3.out W (HG4.out _ hst.glob) q9 hin)
                clear hin
                go_simp
                go_wp2_with (go_at_call 14; with_reducible refine HSM9.out.mono ?_; rintro e w1 ⟨rfl, hb⟩)
                exact hK _ _ hb rfl
              case refine_10 =>
                refine ⟨_, rfl, Nat.le_of_ble_eq_true rfl, fun listed a W hst hn hdep K hK => ?_⟩
                (have dd := dep_of hdep 1 (by kernel_rfl); have e1 : a.tmps[75]?.getD undef = (.bool true) := hst.fact 1 75 (by kernel_rfl) dd; clear dd)
                (have dd := dep_of hdep 1 (by kernel_rfl); have g1 : a.tmps[75]?.getD undef = (.bool true) := hst.fact 1 75 (by kernel_rfl) dd; clear dd)
                have g2 := getD_bool g1
                (have dd := dep_of hdep 8 (by kernel_rfl); have e2 : a.tmps[82]?.getD undef = (.bool true) := hst.fact 8 82 (by kernel_rfl) dd; clear dd)
                go_simp
                exact hK _ _ (Below.refl _ _) rfl
              case refine_11 =>
                (refine ⟨_, rfl, Nat.le_of_ble_eq_true rfl, fun listed a W hst hn hdep K hK => ?_⟩; have dd := dep_of hdep 9 (by kernel_rfl); have e1 : a.tmps[83]?.getD undef = (.bool true) := hst.fact 9 83 (by kernel_rfl) dd; clear dd; go_simp; exact hK _ _ (Below.refl _ _) rfl)
              case refine_12 =>
                refine ⟨_, rfl, Nat.le_of_ble_eq_true rfl, fun listed a W hst hn hdep K hK => ?_⟩
                (have dd := dep_of hdep 10 (by kernel_rfl); have g1 : a.tmps[84]?.getD undef = (.bool true) := hst.fact 10 84 (by kernel_rfl) dd; clear dd)
                have g2 := getD_bool g1
                (have e1 := hst.oldOf hn 0 (by kernel_rfl) rfl; simp only [Array.getD_eq_getD_getElem?] at e1)
                go_simp
                exact hK _ _ (Below.refl _ _) rfl
              case refine_13 =>
                refine ⟨_, rfl, Nat.le_of_ble_eq_true rfl, fun listed a W hst hn hdep K hK => ?_⟩
                (have dd := dep_of hdep 10 (by kernel_rfl); have g1 : a.tmps[84]?.getD undef = (.bool true) := hst.fact 10 84 (by kernel_rfl) dd; clear dd)
                have g2 := getD_bool g1
                (have dd := dep_of hdep 11 (by kernel_rfl); have e1 : a.tmps[85]?.getD undef = (.int .u64 (frame : Int)) := hst.fact 11 85 (by kernel_rfl) dd; clear dd)
                have HM := Lib.hid (HM0.out W)
                go_simp
                go_wp2_with (go_at_call 28; with_reducible refine HM.out.mono ?_; rintro e w1 ⟨q9, rfl, hin, hb⟩)
                exact hK _ _ hb ⟨q9, rfl, hin⟩
              case refine_14 =>
                refine ⟨_, rfl, Nat.le_of_ble_eq_true rfl, fun listed a W hst hn hdep K hK => ?_⟩
                (have dd := dep_of hdep 10 (by kernel_rfl); have g1 : a.tmps[84]?.getD undef = (.bool true) := hst.fact 10 84 (by kernel_rfl) dd; clear dd)
                have g2 := getD_bool g1
                (have e1 := hst.oldOf hn 0 (by kernel_rfl) rfl; simp only [Array.getD_eq_getD_getElem?] at e1)
                go_simp
                exact hK _ _ (Below.refl _ _) rfl
              case refine_15 =>
                refine ⟨_, rfl, Nat.le_of_ble_eq_true rfl, fun listed a W hst hn hdep K hK => ?_⟩
                (have dd := dep_of hdep 10 (by kernel_rfl); have g1 : a.tmps[84]?.getD undef = (.bool true) := hst.fact 10 84 (by kernel_rfl) dd; clear dd)
                have g2 := getD_bool g1
                (have dd := dep_of hdep 13 (by kernel_rfl); have e1 : a.tmps[87]?.getD undef = (.int .u64 (frame : Int)) := hst.fact 13 87 (by kernel_rfl) dd; clear dd)
                go_simp
                exact hK _ _ (Below.refl _ _) rfl
              case refine_16 =>
                refine ⟨_, rfl, Nat.le_of_ble_eq_true rfl, fun listed a W hst hn hdep K hK => ?_⟩
                (have dd := dep_of hdep 10 (by kernel_rfl); have g1 : a.tmps[84]?.getD undef = (.bool true) := hst.fact 10 84 (by kernel_rfl) dd; clear dd)
                have g2 := getD_bool g1
                (have dd := dep_of hdep 12 (by kernel_rfl); have r1 := hst.fact 12 86 (by kernel_rfl) dd; clear dd)
                (have dd := dep_of hdep 14 (by kernel_rfl); have e2 : a.tmps[88]?.getD undef = (cfgV (cfg0 frame) q0) := hst.fact 14 88 (by kernel_rfl) dd; clear dd)
                obtain ⟨q9, h9, hin⟩ := r1
                have HSM9 := Lib.hid (HS0.out W q9 hin)
                clear hin
                go_simp
                go_wp2_with (go_at_call 14; with_reducible refine HSM9.out.mono ?_; rintro e w1 ⟨rfl, hb⟩)
                exact hK _ _ hb rfl
              case refine_17 =>
                refine ⟨_, rfl, Nat.le_of_ble_eq_true rfl, fun listed a W hst hn hdep K hK => ?_⟩
                (have dd := dep_of hdep 10 (by kernel_rfl); have e1 : a.tmps[84]?.getD undef = (.bool true) := hst.fact 10 84 (by kernel_rfl) dd; clear dd)
                (have dd := dep_of hdep 10 (by kernel_rfl); have g1 : a.tmps[84]?.getD undef = (.bool true) := hst.fact 10 84 (by kernel_rfl) dd; clear dd)
                have g2 := getD_bool g1
                (have dd := dep_of hdep 15 (by kernel_rfl); have e2 : a.tmps[89]?.getD undef = (.bool true) := hst.fact 15 89 (by kernel_rfl) dd; clear dd)
                go_simp
                exact hK _ _ (Below.refl _ _) rfl
              case refine_18 =>
                (refine ⟨_, rfl, Nat.le_of_ble_eq_true rfl, fun listed a W hst hn hdep K hK => ?_⟩; have dd := dep_of hdep 16 (by kernel_rfl); have e1 : a.tmps[90]?.getD undef = (.bool true) := hst.fact 16 90 (by kernel_rfl) dd; clear dd; go_simp; exact hK _ _ (Below.refl _ _) rfl)
            case refine_3 =>
              rintro ⟨⟨tm5⟩, df5⟩ W5 listed5 hl5 hst5
              obtain rfl : df5 = [] := hst5.defers
              have s6 : _ = _ := hst5.fact 17 6 (by kernel_rfl) (hl5 17 (Nat.le_of_ble_eq_true rfl))
              have hsz5 : tm5.length = 91 := hst5.size
              have hg5 := hst5.glob
              clear hst5 hl5
              ((repeat (have hh := arr_succ hsz5; clear hsz5; obtain ⟨_, tm5, rfl, hsz5⟩ := hh)); (obtain rfl := List.eq_nil_of_length_eq_zero hsz5))
              simp at s6
              subst s6
              have HG5 := Lib.hid hg5
              clear hg5
              go_wp2_with fail
              go_ret
              exact ⟨rfl, HBE.out _ (HGG.out _ HG5.out)⟩

theorem own : ownKnob Tryz.prog.godebug = none := by kernel_rfl

set_option maxRecDepth 100000 in
theorem lifted (os : Os) (started : os.Started) (H : Type) (enc : TypeId × Value → H) (F : Stop.Interp) :
    ReturnsInHanded {} Tryz.checked os 6 .any ((Rows.OpenSpec.upto Rows.confMergesSpec).pre6 enc Tryz.prog Tryz.f6 Rows.confMergesUptoRow.domain false) (((Rows.OpenSpec.upto Rows.confMergesSpec).at F).post enc Tryz.prog Tryz.f6 false true false false) := by
  refine returnsInHanded_of_cond (C := Tryz.checked) (s := Rows.OpenSpec.upto Rows.confMergesSpec) (k := Rows.uptoSmall) rfl own started (by kernel_rfl) Tryz.func6
    (OpenSpec.witness (enc := enc) (C := Tryz.checked) (s := Rows.OpenSpec.upto Rows.confMergesSpec) (k := Rows.uptoSmall) rfl false ⟨#[], #[.int .u64 0, .agg #[.int .u64 0, .slice none 0 0, .slice none 0 0, .slice none 0 0, .slice none 0 0, .slice none 0 0], .agg #[.int .u64 0, .slice none 0 0, .slice none 0 0, .slice none 0 0, .slice none 0 0, .slice none 0 0]], []⟩ 8 (by kernel_rfl) (by kernel_rfl) (by kernel_rfl)
      (x := ([.lit (.int .u64 0), .agg [.lit (.int .u64 0), .nil, .nil, .nil, .nil, .nil], .agg [.lit (.int .u64 0), .nil, .nil, .nil, .nil, .nil]], [], [])) (by kernel_rfl) rfl (by kernel_rfl)) ?_
  intro W base args ds gs before hval0 hW _ hk _
  have hval : ∀ (j : Nat) t v, Tryz.f6.params[j]? = some t → args[j]? = some v → Value.okWide Tryz.prog W .any base t v := hval0
  have hW' := hW
  obtain ⟨p, q, hA0, hV, rfl, hfz, hnd⟩ := hW
  have hA : DataW.TrodAll enc Tryz.prog W 0 (fun _ => true) true Tryz.f6.params.toList args.toList ds p := hA0
  rw [Tryz.params6] at hA hval
  obtain ⟨v0, vs0, d0, ds0, p0, q0, hargs, rfl, rfl, h0, r0⟩ := trodAll_cons hA
  obtain ⟨v1, vs1, d1, ds1, p1, q1, rfl, rfl, rfl, h1, r1⟩ := trodAll_cons r0
  obtain ⟨v2, vs2, d2, ds2, p2, q2, rfl, rfl, rfl, h2, r2⟩ := trodAll_cons r1
  obtain ⟨rfl, rfl, rfl⟩ := trodAll_nil r2
  obtain rfl : args = #[v0, v1, v2] := by cases args; simp_all
  obtain ⟨rfl, rfl⟩ := trodVars_none hV
  have hk2 : Rows.uptoBulk d0 + (Rows.uptoBulk d1 + (Rows.uptoBulk d2 + 0)) ≤ 1048576 := of_decide_eq_true hk
  obtain ⟨z0, rfl, rfl, rfl, w0⟩ := open_int Tryz.underlying25 (hval 0 25 v0 rfl rfl) h0
  obtain ⟨fr, hfr, rfl⟩ := nat_of_u (B := 18446744073709551616) (k := z0) (by simp [Lit.wf, IntKind.min, IntKind.max, IntKind.signed, IntKind.bits] at w0; omega) (by simp [Lit.wf, IntKind.min, IntKind.max, IntKind.signed, IntKind.bits] at w0; omega)
  obtain ⟨ca, qa, rfl, hca, hba⟩ := open_cfgB (hval 1 30 v1 rfl rfl) h1
  obtain ⟨cb, qb, rfl, hcb, hbb⟩ := open_cfgB (hval 2 30 v2 rfl rfl) h2
  clear hA0 hval0
  simp only [List.append_nil] at hW'
  refine (walk fr hfr ca cb qa qb W hca hcb (by unfold sizes; omega) (by unfold sizes; omega)).mono fun e W' ⟨he, hg⟩ => ?_
  subst he
  exact law_post (by kernel_rfl) rfl rfl (by kernel_rfl) (by kernel_rfl) Tryz.underlying4 hW' hg

theorem over : Rows.confMergesUptoRow.holds Tryz.pinned (Rows.OpenSpec.upto Rows.confMergesSpec) :=
  OpenClaim.holds_of_cond 6 Tryz.f6 rfl rfl rfl rfl rfl rfl rfl ⟨rfl, rfl, rfl, rfl, rfl⟩ rfl rfl rfl rfl rfl (by kernel_rfl) Tryz.func6 (by kernel_rfl)
    (of_decide_eq_true (by kernel_rfl)) (by unfold Func.isWrapper; first | (rw [if_pos (by decide +kernel)]; kernel_rfl) | (rw [if_neg (by decide +kernel)]; exact ⟨rfl, rfl⟩))
    (fun os started H enc _ F => lifted os started H enc F)

/-- WHAT IS PROVED. -/
theorem proved : Rows.ConfMergesUptoSaid :=
  over

end Go.Proofs.YtbfclodkchmfnaaGreat.LawMerges

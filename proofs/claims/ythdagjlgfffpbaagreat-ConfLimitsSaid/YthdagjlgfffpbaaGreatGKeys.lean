/-
  Layer 5 (conf): lists of numbers that grow one by one. By the verifier.
-/
import Derived.Test.YthdagjlgfffpbaaGreatGOrd
import Derived.Test.YthdagjlgfffpbaaGreatGCnt
import Derived.Deep.MidRow
set_option linter.unusedVariables false
namespace Go.Proofs.YthdagjlgfffpbaaGreat
open Go.RowKit

theorem elemK : ElemT 75 78 (.slice none 0 0) 1 24 := ⟨Tryz.underlying75, by kernel_rfl, rfl, by omega, by omega⟩

theorem lenV (v : Value) : [v].length = 1 * 1 := rfl
theorem oneV (A : Option Addr) (n c : Nat) : ∀ u ∈ [Value.slice A n c], u.oneCell' = true := by
  intro u hu
  rw [List.mem_singleton.1 hu]
  rfl

theorem cells_grown {w w' : World} {A : Option Addr} {cs : List Value} {row : Option Nat} (h : Cells w A cs) (hg : w.grownBy w' row) (hne : ∀ a, A = some a → row ≠ some a.block) : Cells w' A cs := by
  intro i hi
  obtain ⟨b, o, hA, hb, hc⟩ := h i hi
  refine ⟨b, o, hA, Nat.lt_of_lt_of_le hb hg.size, ?_⟩
  rw [World.cell?_of_block (hg.block b hb (fun he => hne _ hA he.symm))]
  exact hc

/-- Lists of numbers, in a row of the call's own. -/
structure KeyW (base : Nat) (L : List (List Nat)) (hs : List Value) (sv : Value) (w : World) : Prop where
  own : OwnC w base 78 1 sv L.length hs
  each : ∀ (i : Nat), i < L.length → ∃ Ai ci, hs[i]? = some (.slice Ai (L.getD i []).length ci) ∧ Cells w Ai ((L.getD i []).map U64) ∧ ∀ a, Ai = some a → a.block < w.heap.size ∧ sv.ownBlock ≠ some a.block
  small : ∀ (i : Nat), i < L.length → (L.getD i []).length ≤ 100000

theorem KeyW.nil (base : Nat) (w : World) : KeyW base [] [] (.slice none 0 0) w := ⟨OwnC.nil _ _ _ _, fun i hi => absurd hi (by simp), fun i hi => absurd hi (by simp)⟩

/-- A new list, and the literal that holds it. -/
structure KeyL (base : Nat) (L : List (List Nat)) (hs : List Value) (sv : Value) (key : List Nat) (A : Option Addr) (c : Nat) (wr w1 W : World) : Prop where
  own : OwnC W base 78 1 sv L.length hs
  lit : Cells W (some ⟨w1.heap.size, 0, none⟩) [.slice A key.length c]
  size : base ≤ W.heap.size
  below : Below wr.heap.size wr W
  key : Cells W A (key.map U64)
  fresh : ∀ a, A = some a → a.block < W.heap.size ∧ wr.heap.size ≤ a.block
  old : KeyW base L hs sv wr

theorem KeyW.lit {base : Nat} {L : List (List Nat)} {hs : List Value} {sv : Value} {wr w1 : World} (h : KeyW base L hs sv wr) (hB : base ≤ wr.heap.size) {key : List Nat} {v : Value} (hk : OwnN w1 wr.heap.size v key) (hb : Below wr.heap.size wr w1) :
    ∃ A c, v = .slice A key.length c ∧ KeyL base L hs sv key A c wr w1 (w1.alloc (.cells #[.slice A key.length c] 78)) := by
  obtain ⟨A, c, rfl, hc, hA, hn, hs2⟩ := OwnC.flat hk
  have hA1 : Below w1.heap.size w1 (w1.alloc (.cells #[.slice A key.length c] 78)) := (Below.refl _ _).alloc (Nat.le_refl _) _
  have hbW := hb.trans (hA1.mono hb.size)
  refine ⟨A, c, rfl, h.own.below hbW, cells_lit _ _ _ _ rfl, Nat.le_trans hB hbW.size, hbW, hc.below (Nat.le_refl _) hA1, fun a ha => ?_, h⟩
  obtain ⟨b, o, rfl⟩ := hs2 a ha
  have := World.ownsRow.lt hk b (by rw [ha]; rfl)
  have h2 : w1.heap.size ≤ (w1.alloc (.cells #[.slice A key.length c] 78)).heap.size := hA1.size
  exact ⟨Nat.lt_of_lt_of_le this.2 h2, this.1⟩

theorem KeyL.next {base : Nat} {L : List (List Nat)} {hs : List Value} {sv v2 : Value} {key : List Nat} {A : Option Addr} {c : Nat} {wr w1 W w2 : World} (h : KeyL base L hs sv key A c wr w1 W) (hkl : key.length ≤ 100000)
    (ho : OwnC w2 base 78 1 v2 (L.length + 1) (hs ++ [.slice A key.length c])) (hg : W.grownBy w2 sv.ownBlock) (hn : v2.ownBlock = sv.ownBlock ∨ v2.ownBlock = some W.heap.size) : KeyW base (L ++ [key]) (hs ++ [.slice A key.length c]) v2 w2 := by
  have hl : hs.length = L.length := by have := h.old.own.1; simpa using this
  have hsb : ∀ g, sv.ownBlock = some g → g < wr.heap.size := fun g hg => (World.ownsRow.lt h.old.own g hg).2
  refine ⟨by rw [List.length_append]; exact ho, fun i hi => ?_, fun i hi => ?_⟩
  · rw [List.length_append, List.length_singleton] at hi
    rcases Nat.lt_or_ge i L.length with h1 | h1
    · obtain ⟨Ai, ci, e1, e2, e3⟩ := h.old.each i h1
      have e : (L ++ [key]).getD i [] = L.getD i [] := by simp [List.getD, List.getElem?_append_left h1]
      rw [e]
      refine ⟨Ai, ci, by rw [List.getElem?_append_left (by omega)]; exact e1, cells_grown (e2.below (Nat.le_refl _) h.below) hg (fun a ha => (e3 a ha).2), fun a ha => ?_⟩
      obtain ⟨h4, h5⟩ := e3 a ha
      have h6 : a.block < W.heap.size := Nat.lt_of_lt_of_le h4 h.below.size
      refine ⟨Nat.lt_of_lt_of_le h6 hg.size, ?_⟩
      rcases hn with hn | hn
      · rw [hn]; exact h5
      · rw [hn]; intro he; injection he with he; omega
    · obtain rfl : i = L.length := by omega
      have e : (L ++ [key]).getD L.length [] = key := by simp [List.getD]
      rw [e]
      refine ⟨A, c, by rw [← hl]; simp, cells_grown h.key hg (fun a ha he => ?_), fun a ha => ?_⟩
      · have := hsb _ he
        have := (h.fresh a ha).2
        omega
      · obtain ⟨h4, h5⟩ := h.fresh a ha
        refine ⟨Nat.lt_of_lt_of_le h4 hg.size, ?_⟩
        rcases hn with hn | hn
        · rw [hn]; intro he; have := hsb _ he; omega
        · rw [hn]; intro he; injection he with he; omega
  · rw [List.length_append, List.length_singleton] at hi
    rcases Nat.lt_or_ge i L.length with h1 | h1
    · have e : (L ++ [key]).getD i [] = L.getD i [] := by simp [List.getD, List.getElem?_append_left h1]
      rw [e]
      exact h.old.small i h1
    · obtain rfl : i = L.length := by omega
      have e : (L ++ [key]).getD L.length [] = key := by simp [List.getD]
      rw [e]
      exact hkl

theorem KeyW.keysIn {base : Nat} {L : List (List Nat)} {hs : List Value} {sv : Value} {w : World} (h : KeyW base L hs sv w) : ∃ A c, sv = .slice A L.length c ∧ KeysIn w A L hs := by
  obtain ⟨A, c, rfl, hc, -, -, -⟩ := h.own.flat
  have hl : hs.length = L.length := by have := h.own.1; simpa using this
  exact ⟨A, c, rfl, hc, hl, fun i hi => by
    obtain ⟨Ai, ci, e1, e2, -⟩ := h.each i hi
    exact ⟨Ai, ci, e1, e2⟩, h.small⟩

end Go.Proofs.YthdagjlgfffpbaaGreat

/-
  Layer 5 (conf): the reference's keys of section 1. By the verifier.
-/
set_option linter.unusedVariables false
namespace Go.Proofs.YthdagjlgfffpbaaGreat
open Go.RowKit

theorem take_map_next1 {l : List PartR} {k : Nat} (h : k < l.length) : (l.take (k + 1)).map PartR.key = (l.take k).map PartR.key ++ [(l[k]).key] := by
  rw [List.take_succ_eq_append_getElem h, List.map_append]
  rfl

theorem load_rec1 {w : World} {ops : Array Oper} {rest : List Oper} {op : Oper} {a : Act} {Q : Exit → Act → World → Prop} (hgd : op.guard = none) (x : Operand) (ho : op.op = .load 36 x) (b o : Nat) (hx : a.eval x = .pointer (some ⟨b, o, none⟩)) (p : PartR)
    (hc : w.rangeAt b o [.int .u16 (p.id : Int), .string p.name, .int .u64 (p.period : Int), .int .u64 (p.dur : Int)]) (h : wpList Tryz.prog ops Q rest (a.put op.dst (.agg #[.int .u16 (p.id : Int), .string p.name, .int .u64 (p.period : Int), .int .u64 (p.dur : Int)])) w) : wpList Tryz.prog ops Q (op :: rest) a w :=
  wpList_load_mid hgd 36 x ho b o hx [.int .u16 (p.id : Int), .string p.name, .int .u64 (p.period : Int), .int .u64 (p.dur : Int)] _ hc Tryz.underlying36 rfl (by kernel_rfl) h

set_option maxHeartbeats 4000000 in
theorem keys1_ok (c : ConfR) (q : CfgQ) (w : World) (hc : CfgIn w c q) (hnm : ∀ p ∈ c.ps, p.name.size ≤ 1000) (hl : c.ps.length ≤ 1000) :
    Calls Tryz.prog 35 #[cfgV c q, .int .i64 1] w fun e w' => ∃ v, e = .returned v ∧ (∃ hs, KeyW (w.heap.size + 1) (c.ps.map PartR.key) hs v w') ∧ Below w.heap.size w w' := by
  have hB1 := boxC_in w c q
  have hA := boxC_below w c q
  have HC := Lib.hid hc
  have HBX := Lib.hid hB1
  have HA := Lib.hid hA
  have hsz : (boxC w c q).heap.size = w.heap.size + 1 := by simp [boxC]
  have HSZ := Lib.hid hsz
  have HPC : Hid (∀ p ∈ c.ps, ∀ W, Calls Tryz.prog 66 #[.agg #[.int .u16 (p.id : Int), .string p.name, .int .u64 (p.period : Int), .int .u64 (p.dur : Int)]] W fun e w' => NumRes W p.key e w') := Lib.hid (fun p hmem W => partition_ok p (hc.okp p hmem) (hnm p hmem) W)
  have HKL : Hid (∀ p ∈ c.ps, p.key.length ≤ 100000) := Lib.hid (fun p hmem => by have h1 := hnm p hmem; have h2 : (bytesOf p.name).length = p.name.size := (Str.of p.name).size.symm; simp [PartR.key, textN]; omega)
  unfold cfgV
  obtain ⟨W1, hW1⟩ : ∃ W1, W1 = boxC w c q := ⟨_, rfl⟩
  have hbox : w.alloc (.cells #[.int .u64 (c.frame : Int), .slice q.A1 c.ps.length q.c1, .slice q.A2 c.ws.length q.c2, .slice q.A3 c.rs.length q.c3, .slice q.A4 c.ts.length q.c4, .slice q.A5 c.cs.length q.c5] 30) = W1 := by rw [hW1]; rfl
  rw [← hW1] at HBX HA HSZ
  clear hB1 hA hsz hc hW1
  obtain ⟨B, hB⟩ : ∃ B, B = w.heap.size + 1 := ⟨_, rfl⟩
  have HB := Lib.hid hB
  go_enter Tryz.func35, Tryz.ntmps35
  go_wp2_with fail
  go_loopw [5, 6] (fun v i wr => ∃ (k : Nat) (sv : Value), sv = v ∧ k ≤ c.ps.length ∧ i = .int .i64 (k : Int) ∧ Hid (∃ hs, KeyW B ((c.ps.take k).map PartR.key) hs sv wr ∧ Below B W1 wr)) (fun _ i _ => c.ps.length - (intOf i).toNat)
  case atStart => exact ⟨0, _, rfl, by omega, rfl, Lib.hid ⟨[], KeyW.nil _ _, Below.refl _ _⟩⟩
  case round =>
    obtain ⟨k, sv, rfl, hk, rfl, ho⟩ := hrel
    obtain ⟨hs, hkw, hbw⟩ := ho.out
    have hb1 : Below W1.heap.size W1 wr := by rw [HSZ.out, ← HB.out]; exact hbw
    obtain ⟨-, -, b1, b2, b3, b4, b5⟩ := HBX.out.below hb1
    have hw : Below w.heap.size w wr := HA.out.trans (hb1.mono HA.out.size)
    have hBw : B ≤ wr.heap.size := by rw [HB.out, ← HSZ.out]; exact hb1.size
    by_cases hlt : k < c.ps.length
    · have hki : (k : Int) < (c.ps.length : Int) := by omega
      have hwk : wrap64 ((k : Int) + 1) = (k : Int) + 1 := by unfold wrap64; omega
      obtain ⟨b, o, hA1, hb, hcell⟩ := (HC.out.below (Nat.le_refl _) hw).ps.at 4 partV_len (by omega) (i := k) hlt
      have HX := Lib.hid (take_map_next1 hlt)
      have hmem : c.ps[k] ∈ c.ps := List.getElem_mem hlt
      have HP := Lib.hid (HPC.out _ hmem)
      have hkl := HKL.out _ hmem
      have hLl : ((c.ps.take k).map PartR.key).length ≤ 1000 := by rw [List.length_map, List.length_take]; omega
      generalize c.ps[k] = p at *
      have HR : Hid (wr.rangeAt b (o + k * 4) [.int .u16 (p.id : Int), .string p.name, .int .u64 (p.period : Int), .int .u64 (p.dur : Int)]) := Lib.hid (fun j v hv => hcell j v hv)
      have HKW := Lib.hid hkw
      have HHB := Lib.hid hbw
      have HBW := Lib.hid hBw
      have HKL2 := Lib.hid hkl
      have HLL := Lib.hid hLl
      rw [hA1] at b1
      generalize (c.ps.take k).map PartR.key = L at *
      clear hA1 hcell hkw hbw ho hmem hb1 hw hBw hkl hLl hb HC HBX HA
      go_wp2_with (first
        | (with_reducible refine load_rec1 rfl (.tmp 25) rfl b (o + k * 4) rfl p HR.out ?_)
        | (go_at_call 66; refine (HP.out _).mono ?_; rintro e w2 ⟨v, rfl, hv, hb2⟩; obtain ⟨Av, cv, rfl, hL⟩ := HKW.out.lit HBW.out hv hb2; have HL := Lib.hid hL; clear hv hb2 hL)
        | (with_reducible refine wpList_append_n elemK rfl (.tmp 21) (.tmp 28) rfl B sv L.length hs rfl HL.out.own (some ⟨w2.heap.size, 0, none⟩) 1 1 [.slice Av p.key.length cv] rfl HL.out.lit (lenV _) (oneV _ _ _) Nat.one_pos (by have := HLL.out; omega) HL.out.size ?_; intro v2 w3 ho2 hg2 hn2; have HO2 := Lib.hid (HL.out.next HKL2.out ho2 hg2 hn2); have HB2 := Lib.hid (grown_belowc (HHB.out.trans (HL.out.below.mono HBW.out)) HL.out.own hg2 HL.out.size); clear ho2 hg2 hn2))
      go_roundw
      case rel => exact ⟨k + 1, v2, rfl, by omega, by go_num, Lib.hid ⟨_, by rw [HX.out]; exact HO2.out, HB2.out⟩⟩
      case measure => simp [intOf]; omega
    · have hki : ¬ (k : Int) < (c.ps.length : Int) := by omega
      have HT : Hid (c.ps.take k = c.ps) := Lib.hid (List.take_of_length_le (by omega))
      have HKW := Lib.hid hkw
      have HW := Lib.hid hw
      clear hkw hbw ho hb1 hw hBw
      go_wp2_with fail
      go_ret
      have h5 := HKW.out
      rw [HT.out] at h5
      exact ⟨sv, rfl, ⟨hs, by rw [← HB.out]; exact h5⟩, HW.out⟩

end Go.Proofs.YthdagjlgfffpbaaGreat

/-
  Layer 5 (conf): the reference's keys of section 2. By the verifier.
-/
set_option linter.unusedVariables false
namespace Go.Proofs.YthdagjlgfffpbaaGreat
open Go.RowKit

theorem take_map_next2 {l : List WinR} {k : Nat} (h : k < l.length) : (l.take (k + 1)).map WinR.key = (l.take k).map WinR.key ++ [(l[k]).key] := by
  rw [List.take_succ_eq_append_getElem h, List.map_append]
  rfl

theorem load_rec2 {w : World} {ops : Array Oper} {rest : List Oper} {op : Oper} {a : Act} {Q : Exit → Act → World → Prop} (hgd : op.guard = none) (x : Operand) (ho : op.op = .load 45 x) (b o : Nat) (hx : a.eval x = .pointer (some ⟨b, o, none⟩)) (p : WinR)
    (hc : w.rangeAt b o [.int .u64 (p.start : Int), .int .u64 (p.len : Int), .int .u16 (p.part : Int)]) (h : wpList Tryz.prog ops Q rest (a.put op.dst (.agg #[.int .u64 (p.start : Int), .int .u64 (p.len : Int), .int .u16 (p.part : Int)])) w) : wpList Tryz.prog ops Q (op :: rest) a w :=
  wpList_load_mid hgd 45 x ho b o hx [.int .u64 (p.start : Int), .int .u64 (p.len : Int), .int .u16 (p.part : Int)] _ hc Tryz.underlying45 rfl (by kernel_rfl) h

set_option maxHeartbeats 4000000 in
theorem keys2_ok (c : ConfR) (q : CfgQ) (w : World) (hc : CfgIn w c q) (hl : c.ws.length ≤ 1000) :
    Calls Tryz.prog 35 #[cfgV c q, .int .i64 2] w fun e w' => ∃ v, e = .returned v ∧ (∃ hs, KeyW (w.heap.size + 1) (c.ws.map WinR.key) hs v w') ∧ Below w.heap.size w w' := by
  have hB1 := boxC_in w c q
  have hA := boxC_below w c q
  have HC := Lib.hid hc
  have HBX := Lib.hid hB1
  have HA := Lib.hid hA
  have hsz : (boxC w c q).heap.size = w.heap.size + 1 := by simp [boxC]
  have HSZ := Lib.hid hsz
  have HPC : Hid (∀ p ∈ c.ws, ∀ W, Calls Tryz.prog 67 #[.agg #[.int .u64 (p.start : Int), .int .u64 (p.len : Int), .int .u16 (p.part : Int)]] W fun e w' => NumRes W p.key e w') := Lib.hid (fun p hmem W => window_ok p (hc.okw p hmem)  W)
  have HKL : Hid (∀ p ∈ c.ws, p.key.length ≤ 100000) := Lib.hid (fun p hmem => by simp [WinR.key])
  unfold cfgV
  obtain ⟨W1, hW1⟩ : ∃ W1, W1 = boxC w c q := ⟨_, rfl⟩
  have hbox : w.alloc (.cells #[.int .u64 (c.frame : Int), .slice q.A1 c.ps.length q.c1, .slice q.A2 c.ws.length q.c2, .slice q.A3 c.rs.length q.c3, .slice q.A4 c.ts.length q.c4, .slice q.A5 c.cs.length q.c5] 30) = W1 := by rw [hW1]; rfl
  rw [← hW1] at HBX HA HSZ
  clear hB1 hA hsz hc hW1
  obtain ⟨B, hB⟩ : ∃ B, B = w.heap.size + 1 := ⟨_, rfl⟩
  have HB := Lib.hid hB
  go_enter Tryz.func35, Tryz.ntmps35
  go_wp2_with fail
  go_loopw [5, 7] (fun v i wr => ∃ (k : Nat) (sv : Value), sv = v ∧ k ≤ c.ws.length ∧ i = .int .i64 (k : Int) ∧ Hid (∃ hs, KeyW B ((c.ws.take k).map WinR.key) hs sv wr ∧ Below B W1 wr)) (fun _ i _ => c.ws.length - (intOf i).toNat)
  case atStart => exact ⟨0, _, rfl, by omega, rfl, Lib.hid ⟨[], KeyW.nil _ _, Below.refl _ _⟩⟩
  case round =>
    obtain ⟨k, sv, rfl, hk, rfl, ho⟩ := hrel
    obtain ⟨hs, hkw, hbw⟩ := ho.out
    have hb1 : Below W1.heap.size W1 wr := by rw [HSZ.out, ← HB.out]; exact hbw
    obtain ⟨-, -, b1, b2, b3, b4, b5⟩ := HBX.out.below hb1
    have hw : Below w.heap.size w wr := HA.out.trans (hb1.mono HA.out.size)
    have hBw : B ≤ wr.heap.size := by rw [HB.out, ← HSZ.out]; exact hb1.size
    by_cases hlt : k < c.ws.length
    · have hki : (k : Int) < (c.ws.length : Int) := by omega
      have hwk : wrap64 ((k : Int) + 1) = (k : Int) + 1 := by unfold wrap64; omega
      obtain ⟨b, o, hA1, hb, hcell⟩ := (HC.out.below (Nat.le_refl _) hw).ws.at 3 winV_len (by omega) (i := k) hlt
      have HX := Lib.hid (take_map_next2 hlt)
      have hmem : c.ws[k] ∈ c.ws := List.getElem_mem hlt
      have HP := Lib.hid (HPC.out _ hmem)
      have hkl := HKL.out _ hmem
      have hLl : ((c.ws.take k).map WinR.key).length ≤ 1000 := by rw [List.length_map, List.length_take]; omega
      generalize c.ws[k] = p at *
      have HR : Hid (wr.rangeAt b (o + k * 3) [.int .u64 (p.start : Int), .int .u64 (p.len : Int), .int .u16 (p.part : Int)]) := Lib.hid (fun j v hv => hcell j v hv)
      have HKW := Lib.hid hkw
      have HHB := Lib.hid hbw
      have HBW := Lib.hid hBw
      have HKL2 := Lib.hid hkl
      have HLL := Lib.hid hLl
      rw [hA1] at b2
      generalize (c.ws.take k).map WinR.key = L at *
      clear hA1 hcell hkw hbw ho hmem hb1 hw hBw hkl hLl hb HC HBX HA
      go_wp2_with (first
        | (with_reducible refine load_rec2 rfl (.tmp 43) rfl b (o + k * 3) rfl p HR.out ?_)
        | (go_at_call 67; refine (HP.out _).mono ?_; rintro e w2 ⟨v, rfl, hv, hb2⟩; obtain ⟨Av, cv, rfl, hL⟩ := HKW.out.lit HBW.out hv hb2; have HL := Lib.hid hL; clear hv hb2 hL)
        | (with_reducible refine wpList_append_n elemK rfl (.tmp 39) (.tmp 46) rfl B sv L.length hs rfl HL.out.own (some ⟨w2.heap.size, 0, none⟩) 1 1 [.slice Av p.key.length cv] rfl HL.out.lit (lenV _) (oneV _ _ _) Nat.one_pos (by have := HLL.out; omega) HL.out.size ?_; intro v2 w3 ho2 hg2 hn2; have HO2 := Lib.hid (HL.out.next HKL2.out ho2 hg2 hn2); have HB2 := Lib.hid (grown_belowc (HHB.out.trans (HL.out.below.mono HBW.out)) HL.out.own hg2 HL.out.size); clear ho2 hg2 hn2))
      go_roundw
      case rel => exact ⟨k + 1, v2, rfl, by omega, by go_num, Lib.hid ⟨_, by rw [HX.out]; exact HO2.out, HB2.out⟩⟩
      case measure => simp [intOf]; omega
    · have hki : ¬ (k : Int) < (c.ws.length : Int) := by omega
      have HT : Hid (c.ws.take k = c.ws) := Lib.hid (List.take_of_length_le (by omega))
      have HKW := Lib.hid hkw
      have HW := Lib.hid hw
      clear hkw hbw ho hb1 hw hBw
      go_wp2_with fail
      go_ret
      have h5 := HKW.out
      rw [HT.out] at h5
      exact ⟨sv, rfl, ⟨hs, by rw [← HB.out]; exact h5⟩, HW.out⟩

end Go.Proofs.YthdagjlgfffpbaaGreat

/-
  Layer 5 (conf): the reference's keys of section 3. By the verifier.
-/
set_option linter.unusedVariables false
namespace Go.Proofs.YthdagjlgfffpbaaGreat
open Go.RowKit

theorem take_map_next3 {l : List RegR} {k : Nat} (h : k < l.length) : (l.take (k + 1)).map RegR.key = (l.take k).map RegR.key ++ [(l[k]).key] := by
  rw [List.take_succ_eq_append_getElem h, List.map_append]
  rfl

theorem load_rec3 {w : World} {ops : Array Oper} {rest : List Oper} {op : Oper} {a : Act} {Q : Exit → Act → World → Prop} (hgd : op.guard = none) (x : Operand) (ho : op.op = .load 47 x) (b o : Nat) (hx : a.eval x = .pointer (some ⟨b, o, none⟩)) (p : RegR)
    (hc : w.rangeAt b o [.int .u64 (p.base : Int), .int .u64 (p.size : Int), .int .u16 (p.part : Int), .int .u8 (p.rights : Int), .bool p.shared]) (h : wpList Tryz.prog ops Q rest (a.put op.dst (.agg #[.int .u64 (p.base : Int), .int .u64 (p.size : Int), .int .u16 (p.part : Int), .int .u8 (p.rights : Int), .bool p.shared])) w) : wpList Tryz.prog ops Q (op :: rest) a w :=
  wpList_load_mid hgd 47 x ho b o hx [.int .u64 (p.base : Int), .int .u64 (p.size : Int), .int .u16 (p.part : Int), .int .u8 (p.rights : Int), .bool p.shared] _ hc Tryz.underlying47 rfl (by kernel_rfl) h

set_option maxHeartbeats 4000000 in
theorem keys3_ok (c : ConfR) (q : CfgQ) (w : World) (hc : CfgIn w c q) (hl : c.rs.length ≤ 1000) :
    Calls Tryz.prog 35 #[cfgV c q, .int .i64 3] w fun e w' => ∃ v, e = .returned v ∧ (∃ hs, KeyW (w.heap.size + 1) (c.rs.map RegR.key) hs v w') ∧ Below w.heap.size w w' := by
  have hB1 := boxC_in w c q
  have hA := boxC_below w c q
  have HC := Lib.hid hc
  have HBX := Lib.hid hB1
  have HA := Lib.hid hA
  have hsz : (boxC w c q).heap.size = w.heap.size + 1 := by simp [boxC]
  have HSZ := Lib.hid hsz
  have HPC : Hid (∀ p ∈ c.rs, ∀ W, Calls Tryz.prog 68 #[.agg #[.int .u64 (p.base : Int), .int .u64 (p.size : Int), .int .u16 (p.part : Int), .int .u8 (p.rights : Int), .bool p.shared]] W fun e w' => NumRes W p.key e w') := Lib.hid (fun p hmem W => region_ok p (hc.okr p hmem)  W)
  have HKL : Hid (∀ p ∈ c.rs, p.key.length ≤ 100000) := Lib.hid (fun p hmem => by simp [RegR.key])
  unfold cfgV
  obtain ⟨W1, hW1⟩ : ∃ W1, W1 = boxC w c q := ⟨_, rfl⟩
  have hbox : w.alloc (.cells #[.int .u64 (c.frame : Int), .slice q.A1 c.ps.length q.c1, .slice q.A2 c.ws.length q.c2, .slice q.A3 c.rs.length q.c3, .slice q.A4 c.ts.length q.c4, .slice q.A5 c.cs.length q.c5] 30) = W1 := by rw [hW1]; rfl
  rw [← hW1] at HBX HA HSZ
  clear hB1 hA hsz hc hW1
  obtain ⟨B, hB⟩ : ∃ B, B = w.heap.size + 1 := ⟨_, rfl⟩
  have HB := Lib.hid hB
  go_enter Tryz.func35, Tryz.ntmps35
  go_wp2_with fail
  go_loopw [5, 8] (fun v i wr => ∃ (k : Nat) (sv : Value), sv = v ∧ k ≤ c.rs.length ∧ i = .int .i64 (k : Int) ∧ Hid (∃ hs, KeyW B ((c.rs.take k).map RegR.key) hs sv wr ∧ Below B W1 wr)) (fun _ i _ => c.rs.length - (intOf i).toNat)
  case atStart => exact ⟨0, _, rfl, by omega, rfl, Lib.hid ⟨[], KeyW.nil _ _, Below.refl _ _⟩⟩
  case round =>
    obtain ⟨k, sv, rfl, hk, rfl, ho⟩ := hrel
    obtain ⟨hs, hkw, hbw⟩ := ho.out
    have hb1 : Below W1.heap.size W1 wr := by rw [HSZ.out, ← HB.out]; exact hbw
    obtain ⟨-, -, b1, b2, b3, b4, b5⟩ := HBX.out.below hb1
    have hw : Below w.heap.size w wr := HA.out.trans (hb1.mono HA.out.size)
    have hBw : B ≤ wr.heap.size := by rw [HB.out, ← HSZ.out]; exact hb1.size
    by_cases hlt : k < c.rs.length
    · have hki : (k : Int) < (c.rs.length : Int) := by omega
      have hwk : wrap64 ((k : Int) + 1) = (k : Int) + 1 := by unfold wrap64; omega
      obtain ⟨b, o, hA1, hb, hcell⟩ := (HC.out.below (Nat.le_refl _) hw).rs.at 5 regV_len (by omega) (i := k) hlt
      have HX := Lib.hid (take_map_next3 hlt)
      have hmem : c.rs[k] ∈ c.rs := List.getElem_mem hlt
      have HP := Lib.hid (HPC.out _ hmem)
      have hkl := HKL.out _ hmem
      have hLl : ((c.rs.take k).map RegR.key).length ≤ 1000 := by rw [List.length_map, List.length_take]; omega
      generalize c.rs[k] = p at *
      have HR : Hid (wr.rangeAt b (o + k * 5) [.int .u64 (p.base : Int), .int .u64 (p.size : Int), .int .u16 (p.part : Int), .int .u8 (p.rights : Int), .bool p.shared]) := Lib.hid (fun j v hv => hcell j v hv)
      have HKW := Lib.hid hkw
      have HHB := Lib.hid hbw
      have HBW := Lib.hid hBw
      have HKL2 := Lib.hid hkl
      have HLL := Lib.hid hLl
      rw [hA1] at b3
      generalize (c.rs.take k).map RegR.key = L at *
      clear hA1 hcell hkw hbw ho hmem hb1 hw hBw hkl hLl hb HC HBX HA
      go_wp2_with (first
        | (with_reducible refine load_rec3 rfl (.tmp 61) rfl b (o + k * 5) rfl p HR.out ?_)
        | (go_at_call 68; refine (HP.out _).mono ?_; rintro e w2 ⟨v, rfl, hv, hb2⟩; obtain ⟨Av, cv, rfl, hL⟩ := HKW.out.lit HBW.out hv hb2; have HL := Lib.hid hL; clear hv hb2 hL)
        | (with_reducible refine wpList_append_n elemK rfl (.tmp 57) (.tmp 64) rfl B sv L.length hs rfl HL.out.own (some ⟨w2.heap.size, 0, none⟩) 1 1 [.slice Av p.key.length cv] rfl HL.out.lit (lenV _) (oneV _ _ _) Nat.one_pos (by have := HLL.out; omega) HL.out.size ?_; intro v2 w3 ho2 hg2 hn2; have HO2 := Lib.hid (HL.out.next HKL2.out ho2 hg2 hn2); have HB2 := Lib.hid (grown_belowc (HHB.out.trans (HL.out.below.mono HBW.out)) HL.out.own hg2 HL.out.size); clear ho2 hg2 hn2))
      go_roundw
      case rel => exact ⟨k + 1, v2, rfl, by omega, by go_num, Lib.hid ⟨_, by rw [HX.out]; exact HO2.out, HB2.out⟩⟩
      case measure => simp [intOf]; omega
    · have hki : ¬ (k : Int) < (c.rs.length : Int) := by omega
      have HT : Hid (c.rs.take k = c.rs) := Lib.hid (List.take_of_length_le (by omega))
      have HKW := Lib.hid hkw
      have HW := Lib.hid hw
      clear hkw hbw ho hb1 hw hBw
      go_wp2_with fail
      go_ret
      have h5 := HKW.out
      rw [HT.out] at h5
      exact ⟨sv, rfl, ⟨hs, by rw [← HB.out]; exact h5⟩, HW.out⟩

end Go.Proofs.YthdagjlgfffpbaaGreat

/-
  Layer 5 (conf): the reference's keys of section 4. By the verifier.
-/
set_option linter.unusedVariables false
namespace Go.Proofs.YthdagjlgfffpbaaGreat
open Go.RowKit

theorem take_map_next4 {l : List PortR} {k : Nat} (h : k < l.length) : (l.take (k + 1)).map PortR.key = (l.take k).map PortR.key ++ [(l[k]).key] := by
  rw [List.take_succ_eq_append_getElem h, List.map_append]
  rfl

theorem load_rec4 {w : World} {ops : Array Oper} {rest : List Oper} {op : Oper} {a : Act} {Q : Exit → Act → World → Prop} (hgd : op.guard = none) (x : Operand) (ho : op.op = .load 39 x) (b o : Nat) (hx : a.eval x = .pointer (some ⟨b, o, none⟩)) (p : PortR)
    (hc : w.rangeAt b o [.int .u16 (p.id : Int), .int .u16 (p.part : Int), .string p.name, .bool p.out, .bool p.que, .int .u32 (p.size : Int)]) (h : wpList Tryz.prog ops Q rest (a.put op.dst (.agg #[.int .u16 (p.id : Int), .int .u16 (p.part : Int), .string p.name, .bool p.out, .bool p.que, .int .u32 (p.size : Int)])) w) : wpList Tryz.prog ops Q (op :: rest) a w :=
  wpList_load_mid hgd 39 x ho b o hx [.int .u16 (p.id : Int), .int .u16 (p.part : Int), .string p.name, .bool p.out, .bool p.que, .int .u32 (p.size : Int)] _ hc Tryz.underlying39 rfl (by kernel_rfl) h

set_option maxHeartbeats 4000000 in
theorem keys4_ok (c : ConfR) (q : CfgQ) (w : World) (hc : CfgIn w c q) (hnm : ∀ p ∈ c.ts, p.name.size ≤ 1000) (hl : c.ts.length ≤ 1000) :
    Calls Tryz.prog 35 #[cfgV c q, .int .i64 4] w fun e w' => ∃ v, e = .returned v ∧ (∃ hs, KeyW (w.heap.size + 1) (c.ts.map PortR.key) hs v w') ∧ Below w.heap.size w w' := by
  have hB1 := boxC_in w c q
  have hA := boxC_below w c q
  have HC := Lib.hid hc
  have HBX := Lib.hid hB1
  have HA := Lib.hid hA
  have hsz : (boxC w c q).heap.size = w.heap.size + 1 := by simp [boxC]
  have HSZ := Lib.hid hsz
  have HPC : Hid (∀ p ∈ c.ts, ∀ W, Calls Tryz.prog 69 #[.agg #[.int .u16 (p.id : Int), .int .u16 (p.part : Int), .string p.name, .bool p.out, .bool p.que, .int .u32 (p.size : Int)]] W fun e w' => NumRes W p.key e w') := Lib.hid (fun p hmem W => port_ok p (hc.okt p hmem) (hnm p hmem) W)
  have HKL : Hid (∀ p ∈ c.ts, p.key.length ≤ 100000) := Lib.hid (fun p hmem => by have h1 := hnm p hmem; have h2 : (bytesOf p.name).length = p.name.size := (Str.of p.name).size.symm; simp [PortR.key, textN]; omega)
  unfold cfgV
  obtain ⟨W1, hW1⟩ : ∃ W1, W1 = boxC w c q := ⟨_, rfl⟩
  have hbox : w.alloc (.cells #[.int .u64 (c.frame : Int), .slice q.A1 c.ps.length q.c1, .slice q.A2 c.ws.length q.c2, .slice q.A3 c.rs.length q.c3, .slice q.A4 c.ts.length q.c4, .slice q.A5 c.cs.length q.c5] 30) = W1 := by rw [hW1]; rfl
  rw [← hW1] at HBX HA HSZ
  clear hB1 hA hsz hc hW1
  obtain ⟨B, hB⟩ : ∃ B, B = w.heap.size + 1 := ⟨_, rfl⟩
  have HB := Lib.hid hB
  go_enter Tryz.func35, Tryz.ntmps35
  go_wp2_with fail
  go_loopw [5, 9] (fun v i wr => ∃ (k : Nat) (sv : Value), sv = v ∧ k ≤ c.ts.length ∧ i = .int .i64 (k : Int) ∧ Hid (∃ hs, KeyW B ((c.ts.take k).map PortR.key) hs sv wr ∧ Below B W1 wr)) (fun _ i _ => c.ts.length - (intOf i).toNat)
  case atStart => exact ⟨0, _, rfl, by omega, rfl, Lib.hid ⟨[], KeyW.nil _ _, Below.refl _ _⟩⟩
  case round =>
    obtain ⟨k, sv, rfl, hk, rfl, ho⟩ := hrel
    obtain ⟨hs, hkw, hbw⟩ := ho.out
    have hb1 : Below W1.heap.size W1 wr := by rw [HSZ.out, ← HB.out]; exact hbw
    obtain ⟨-, -, b1, b2, b3, b4, b5⟩ := HBX.out.below hb1
    have hw : Below w.heap.size w wr := HA.out.trans (hb1.mono HA.out.size)
    have hBw : B ≤ wr.heap.size := by rw [HB.out, ← HSZ.out]; exact hb1.size
    by_cases hlt : k < c.ts.length
    · have hki : (k : Int) < (c.ts.length : Int) := by omega
      have hwk : wrap64 ((k : Int) + 1) = (k : Int) + 1 := by unfold wrap64; omega
      obtain ⟨b, o, hA1, hb, hcell⟩ := (HC.out.below (Nat.le_refl _) hw).ts.at 6 portV_len (by omega) (i := k) hlt
      have HX := Lib.hid (take_map_next4 hlt)
      have hmem : c.ts[k] ∈ c.ts := List.getElem_mem hlt
      have HP := Lib.hid (HPC.out _ hmem)
      have hkl := HKL.out _ hmem
      have hLl : ((c.ts.take k).map PortR.key).length ≤ 1000 := by rw [List.length_map, List.length_take]; omega
      generalize c.ts[k] = p at *
      have HR : Hid (wr.rangeAt b (o + k * 6) [.int .u16 (p.id : Int), .int .u16 (p.part : Int), .string p.name, .bool p.out, .bool p.que, .int .u32 (p.size : Int)]) := Lib.hid (fun j v hv => hcell j v hv)
      have HKW := Lib.hid hkw
      have HHB := Lib.hid hbw
      have HBW := Lib.hid hBw
      have HKL2 := Lib.hid hkl
      have HLL := Lib.hid hLl
      rw [hA1] at b4
      generalize (c.ts.take k).map PortR.key = L at *
      clear hA1 hcell hkw hbw ho hmem hb1 hw hBw hkl hLl hb HC HBX HA
      go_wp2_with (first
        | (with_reducible refine load_rec4 rfl (.tmp 79) rfl b (o + k * 6) rfl p HR.out ?_)
        | (go_at_call 69; refine (HP.out _).mono ?_; rintro e w2 ⟨v, rfl, hv, hb2⟩; obtain ⟨Av, cv, rfl, hL⟩ := HKW.out.lit HBW.out hv hb2; have HL := Lib.hid hL; clear hv hb2 hL)
        | (with_reducible refine wpList_append_n elemK rfl (.tmp 75) (.tmp 82) rfl B sv L.length hs rfl HL.out.own (some ⟨w2.heap.size, 0, none⟩) 1 1 [.slice Av p.key.length cv] rfl HL.out.lit (lenV _) (oneV _ _ _) Nat.one_pos (by have := HLL.out; omega) HL.out.size ?_; intro v2 w3 ho2 hg2 hn2; have HO2 := Lib.hid (HL.out.next HKL2.out ho2 hg2 hn2); have HB2 := Lib.hid (grown_belowc (HHB.out.trans (HL.out.below.mono HBW.out)) HL.out.own hg2 HL.out.size); clear ho2 hg2 hn2))
      go_roundw
      case rel => exact ⟨k + 1, v2, rfl, by omega, by go_num, Lib.hid ⟨_, by rw [HX.out]; exact HO2.out, HB2.out⟩⟩
      case measure => simp [intOf]; omega
    · have hki : ¬ (k : Int) < (c.ts.length : Int) := by omega
      have HT : Hid (c.ts.take k = c.ts) := Lib.hid (List.take_of_length_le (by omega))
      have HKW := Lib.hid hkw
      have HW := Lib.hid hw
      clear hkw hbw ho hb1 hw hBw
      go_wp2_with fail
      go_ret
      have h5 := HKW.out
      rw [HT.out] at h5
      exact ⟨sv, rfl, ⟨hs, by rw [← HB.out]; exact h5⟩, HW.out⟩

end Go.Proofs.YthdagjlgfffpbaaGreat

/-
  Layer 5 (conf): the reference's keys of section 5. By the verifier.
-/
set_option linter.unusedVariables false
namespace Go.Proofs.YthdagjlgfffpbaaGreat
open Go.RowKit

theorem take_map_next5 {l : List ChanC} {k : Nat} (h : k < l.length) : (l.take (k + 1)).map (fun x => x.r.key) = (l.take k).map (fun x => x.r.key) ++ [(l[k]).r.key] := by
  rw [List.take_succ_eq_append_getElem h, List.map_append]
  rfl

theorem load_rec5 {w : World} {ops : Array Oper} {rest : List Oper} {op : Oper} {a : Act} {Q : Exit → Act → World → Prop} (hgd : op.guard = none) (x : Operand) (ho : op.op = .load 34 x) (b o : Nat) (hx : a.eval x = .pointer (some ⟨b, o, none⟩)) (p : ChanC)
    (hc : w.rangeAt b o [.int .u16 (p.r.id : Int), .int .u16 (p.r.src : Int), .slice p.A p.r.dests.length p.cap]) (h : wpList Tryz.prog ops Q rest (a.put op.dst (.agg #[.int .u16 (p.r.id : Int), .int .u16 (p.r.src : Int), .slice p.A p.r.dests.length p.cap])) w) : wpList Tryz.prog ops Q (op :: rest) a w :=
  wpList_load_mid hgd 34 x ho b o hx [.int .u16 (p.r.id : Int), .int .u16 (p.r.src : Int), .slice p.A p.r.dests.length p.cap] _ hc Tryz.underlying34 rfl (by kernel_rfl) h

set_option maxHeartbeats 4000000 in
theorem keys5_ok (c : ConfR) (q : CfgQ) (w : World) (hc : CfgIn w c q) (hl : c.cs.length ≤ 1000) (hd : ∀ x ∈ q.ch, x.r.dests.length ≤ 1000) :
    Calls Tryz.prog 35 #[cfgV c q, .int .i64 5] w fun e w' => ∃ v, e = .returned v ∧ (∃ hs, KeyW (w.heap.size + 1) (c.cs.map ChanR.key) hs v w') ∧ Below w.heap.size w w' := by
  have hB1 := boxC_in w c q
  have hA := boxC_below w c q
  have HC := Lib.hid hc
  have HBX := Lib.hid hB1
  have HA := Lib.hid hA
  have hsz : (boxC w c q).heap.size = w.heap.size + 1 := by simp [boxC]
  have HSZ := Lib.hid hsz
  have HPC : Hid (∀ p ∈ q.ch, ∀ W, Below w.heap.size w W → Calls Tryz.prog 70 #[.agg #[.int .u16 (p.r.id : Int), .int .u16 (p.r.src : Int), .slice p.A p.r.dests.length p.cap]] W fun e w' => NumRes W p.r.key e w') := Lib.hid (fun p hmem W hW => channel_ok p (hc.okc p.r (by rw [← hc.ch]; exact List.mem_map_of_mem hmem)) (hd p hmem) W ((hc.ds p hmem).below (Nat.le_refl _) hW))
  have HKL : Hid (∀ p ∈ q.ch, p.r.key.length ≤ 100000) := Lib.hid (fun p hmem => by have := hd p hmem; simp [ChanR.key]; omega)
  have HL5 : Hid (c.cs.length = q.ch.length ∧ c.cs.map ChanR.key = q.ch.map (fun x => x.r.key)) := Lib.hid ⟨hc.len5.symm, by rw [← hc.ch, List.map_map]; rfl⟩
  have hl5 := HL5.out.1
  rw [hl5] at hl
  unfold cfgV
  obtain ⟨W1, hW1⟩ : ∃ W1, W1 = boxC w c q := ⟨_, rfl⟩
  have hbox : w.alloc (.cells #[.int .u64 (c.frame : Int), .slice q.A1 c.ps.length q.c1, .slice q.A2 c.ws.length q.c2, .slice q.A3 c.rs.length q.c3, .slice q.A4 c.ts.length q.c4, .slice q.A5 c.cs.length q.c5] 30) = W1 := by rw [hW1]; rfl
  rw [← hW1] at HBX HA HSZ
  rw [hl5] at hbox
  rw [hl5]
  clear hB1 hA hsz hc hW1
  obtain ⟨B, hB⟩ : ∃ B, B = w.heap.size + 1 := ⟨_, rfl⟩
  have HB := Lib.hid hB
  go_enter Tryz.func35, Tryz.ntmps35
  go_wp2_with fail
  go_loopw [5, 10] (fun v i wr => ∃ (k : Nat) (sv : Value), sv = v ∧ k ≤ q.ch.length ∧ i = .int .i64 (k : Int) ∧ Hid (∃ hs, KeyW B ((q.ch.take k).map (fun x => x.r.key)) hs sv wr ∧ Below B W1 wr)) (fun _ i _ => q.ch.length - (intOf i).toNat)
  case atStart => exact ⟨0, _, rfl, by omega, rfl, Lib.hid ⟨[], KeyW.nil _ _, Below.refl _ _⟩⟩
  case round =>
    obtain ⟨k, sv, rfl, hk, rfl, ho⟩ := hrel
    obtain ⟨hs, hkw, hbw⟩ := ho.out
    have hb1 : Below W1.heap.size W1 wr := by rw [HSZ.out, ← HB.out]; exact hbw
    obtain ⟨-, -, b1, b2, b3, b4, b5⟩ := HBX.out.below hb1
    rw [hl5] at b5
    have hw : Below w.heap.size w wr := HA.out.trans (hb1.mono HA.out.size)
    have hBw : B ≤ wr.heap.size := by rw [HB.out, ← HSZ.out]; exact hb1.size
    by_cases hlt : k < q.ch.length
    · have hki : (k : Int) < (q.ch.length : Int) := by omega
      have hwk : wrap64 ((k : Int) + 1) = (k : Int) + 1 := by unfold wrap64; omega
      obtain ⟨b, o, hA1, hb, hcell⟩ := (HC.out.below (Nat.le_refl _) hw).cs.at 3 chanV_len (by omega) (i := k) hlt
      have HX := Lib.hid (take_map_next5 hlt)
      have hmem : q.ch[k] ∈ q.ch := List.getElem_mem hlt
      have HP := Lib.hid (HPC.out _ hmem wr hw)
      have hkl := HKL.out _ hmem
      have hLl : ((q.ch.take k).map (fun x => x.r.key)).length ≤ 1000 := by rw [List.length_map, List.length_take]; omega
      generalize q.ch[k] = p at *
      have HR : Hid (wr.rangeAt b (o + k * 3) [.int .u16 (p.r.id : Int), .int .u16 (p.r.src : Int), .slice p.A p.r.dests.length p.cap]) := Lib.hid (fun j v hv => hcell j v hv)
      have HKW := Lib.hid hkw
      have HHB := Lib.hid hbw
      have HBW := Lib.hid hBw
      have HKL2 := Lib.hid hkl
      have HLL := Lib.hid hLl
      rw [hA1] at b5
      generalize (q.ch.take k).map (fun x => x.r.key) = L at *
      clear hA1 hcell hkw hbw ho hmem hb1 hw hBw hkl hLl hb HC HBX HA
      go_wp2_with (first
        | (with_reducible refine load_rec5 rfl (.tmp 97) rfl b (o + k * 3) rfl p HR.out ?_)
        | (go_at_call 70; refine HP.out.mono ?_; rintro e w2 ⟨v, rfl, hv, hb2⟩; obtain ⟨Av, cv, rfl, hL⟩ := HKW.out.lit HBW.out hv hb2; have HL := Lib.hid hL; clear hv hb2 hL)
        | (with_reducible refine wpList_append_n elemK rfl (.tmp 93) (.tmp 100) rfl B sv L.length hs rfl HL.out.own (some ⟨w2.heap.size, 0, none⟩) 1 1 [.slice Av p.r.key.length cv] rfl HL.out.lit (lenV _) (oneV _ _ _) Nat.one_pos (by have := HLL.out; omega) HL.out.size ?_; intro v2 w3 ho2 hg2 hn2; have HO2 := Lib.hid (HL.out.next HKL2.out ho2 hg2 hn2); have HB2 := Lib.hid (grown_belowc (HHB.out.trans (HL.out.below.mono HBW.out)) HL.out.own hg2 HL.out.size); clear ho2 hg2 hn2))
      go_roundw
      case rel => exact ⟨k + 1, v2, rfl, by omega, by go_num, Lib.hid ⟨_, by rw [HX.out]; exact HO2.out, HB2.out⟩⟩
      case measure => simp [intOf]; omega
    · have hki : ¬ (k : Int) < (q.ch.length : Int) := by omega
      have HT : Hid (q.ch.take k = q.ch) := Lib.hid (List.take_of_length_le (by omega))
      have HKW := Lib.hid hkw
      have HW := Lib.hid hw
      clear hkw hbw ho hb1 hw hBw
      go_wp2_with fail
      go_ret
      have h5 := HKW.out
      rw [HT.out, ← HL5.out.2] at h5
      exact ⟨sv, rfl, ⟨hs, by rw [← HB.out]; exact h5⟩, HW.out⟩

end Go.Proofs.YthdagjlgfffpbaaGreat

/-
  Layer 5 (conf): the reference's Keys. By the verifier.
-/
set_option linter.unusedVariables false
namespace Go.Proofs.YthdagjlgfffpbaaGreat
open Go.RowKit

/-- A configuration whose lists and names are short. -/
structure Short (c : ConfR) : Prop where
  ps : c.ps.length ≤ 1000
  ws : c.ws.length ≤ 1000
  rs : c.rs.length ≤ 1000
  ts : c.ts.length ≤ 1000
  cs : c.cs.length ≤ 1000
  ds : ∀ x ∈ c.cs, x.dests.length ≤ 1000
  np : ∀ p ∈ c.ps, p.name.size ≤ 1000
  nt : ∀ p ∈ c.ts, p.name.size ≤ 1000

theorem keys_ok (c : ConfR) (q : CfgQ) (w : World) (hc : CfgIn w c q) (h : Short c) (s : Int) (h1 : 1 ≤ s) (h5 : s ≤ 5) :
    Calls Tryz.prog 35 #[cfgV c q, .int .i64 s] w fun e w' => ∃ v, e = .returned v ∧ (∃ hs, KeyW (w.heap.size + 1) (c.keys s) hs v w') ∧ Below w.heap.size w w' := by
  have hs : s = 1 ∨ s = 2 ∨ s = 3 ∨ s = 4 ∨ s = 5 := by omega
  rcases hs with rfl | rfl | rfl | rfl | rfl
  · exact keys1_ok c q w hc h.np h.ps
  · exact keys2_ok c q w hc h.ws
  · exact keys3_ok c q w hc h.rs
  · exact keys4_ok c q w hc h.nt h.ts
  · exact keys5_ok c q w hc h.cs (fun x hx => h.ds x.r (by rw [← hc.ch]; exact List.mem_map_of_mem hx))

theorem keys_short (c : ConfR) (h : Short c) (s : Int) : (c.keys s).length ≤ 1000 := by
  unfold ConfR.keys
  repeat' split
  all_goals simp [h.ps, h.ws, h.rs, h.ts, h.cs]

end Go.Proofs.YthdagjlgfffpbaaGreat

/-
  slices.Concat and slices.Grow at nil for any elements, of no layer: the parts, the cut to nothing, the zeros; a make of any elements. By the verifier.
-/
import Derived.Test.YthdagjlgfffpbaaGreatMRowN
import Derived.Lib.AppendZerosOnto
import Derived.Laws.MakeOwn
import Derived.Test.YthdagjlgfffpbaaGreatPMer
set_option linter.unusedVariables false
namespace Go.Proofs.YthdagjlgfffpbaaGreat
open Go.RowKit

/-- A part: a slice and its cells. -/
structure PartC where
  A : Option Addr
  n : Nat
  c : Nat
  cs : List Value

structure PartOk (w : World) (size : Nat) (p : PartC) : Prop where
  cells : Cells w p.A p.cs
  len : p.cs.length = p.n * size
  one : ∀ u ∈ p.cs, u.oneCell' = true
  nil : p.A = none → p.c = 0

theorem PartOk.below {w w' : World} {size : Nat} {p : PartC} (h : PartOk w size p) (hb : Below w.heap.size w w') : PartOk w' size p := ⟨h.cells.below (Nat.le_refl _) hb, h.len, h.one, h.nil⟩

/-- The slices that a slice of slices holds. -/
def PtsC (w : World) (size : Nat) (A : Option Addr) (ps : List PartC) : Prop :=
  (∀ k (h : k < ps.length), ∃ b o, A = some ⟨b, o, none⟩ ∧ w.cell? ⟨b, o + k, none⟩ = some (.slice ps[k].A ps[k].n ps[k].c)) ∧ ∀ p ∈ ps, PartOk w size p

theorem PtsC.below {w w' : World} {size : Nat} {A : Option Addr} {ps : List PartC} (h : PtsC w size A ps) (hb : Below w.heap.size w w') : PtsC w' size A ps := by
  refine ⟨fun k hk => ?_, fun p hp => (h.2 p hp).below hb⟩
  obtain ⟨b, o, hA, hc⟩ := h.1 k hk
  refine ⟨b, o, hA, ?_⟩
  rw [hb.cell (p := ⟨b, o + k, none⟩) (block_lt_of_cell hc)]
  exact hc

def partsN (ps : List PartC) : Nat := (ps.map (·.n)).sum
def partsV (ps : List PartC) : List Value := ps.flatMap (·.cs)

theorem partsN_succ {ps : List PartC} {k : Nat} (h : k < ps.length) : partsN (ps.take (k + 1)) = partsN (ps.take k) + ps[k].n := by
  unfold partsN
  rw [List.take_succ_eq_append_getElem h, List.map_append, List.sum_append]
  simp
theorem partsV_succ {ps : List PartC} {k : Nat} (h : k < ps.length) : partsV (ps.take (k + 1)) = partsV (ps.take k) ++ ps[k].cs := by
  unfold partsV
  rw [List.take_succ_eq_append_getElem h, List.flatMap_append]
  simp
theorem partsN_le (ps : List PartC) (k : Nat) : partsN (ps.take k) ≤ partsN ps := by
  unfold partsN
  conv => rhs; rw [← List.take_append_drop k ps, List.map_append, List.sum_append]
  omega

set_option maxRecDepth 20000 in
theorem size_g {t e : TypeId} {z : Value} {size bytes : Nat} (T : ElemT t e z size bytes) (he : Tryz.prog.elem t = e) : (sizeOf (Tryz.prog.elem t)).run Tryz.prog = fun w => .ok size w := by
  funext w
  obtain ⟨i, h2, h3, h4, h5⟩ := info_parts T.info
  simp [he, sizeOf, typeInfo, h2, h4]

set_option maxRecDepth 20000 in
theorem run_cut0g {t e : TypeId} {z : Value} {size bytes : Nat} (T : ElemT t e z size bytes) (he : Tryz.prog.elem t = e) (a : Addr) (n c : Nat) (W : World) : (Instr.slice t (.slice (some a) n c) none (some (.int .i64 0)) none).run Tryz.prog W = .ok (.slice (some a) 0 c) W := by
  rw [run_slice_h W t (some a) n c (by rw [he]; exact T.under) .i64 0 (by omega) (by omega), size_g T he]
  have h0 : a.add 0 = a := by obtain ⟨b, o, s⟩ := a; unfold Addr.add; split <;> simp_all
  by_cases h : c = 0 <;> simp [Result.andThen, sliced, h, h0]

set_option maxRecDepth 20000 in
theorem run_cutnilg {t e : TypeId} {z : Value} {size bytes : Nat} (T : ElemT t e z size bytes) (he : Tryz.prog.elem t = e) (W : World) : (Instr.slice t (.slice none 0 0) none (some (.int .i64 0)) none).run Tryz.prog W = .ok (.slice none 0 0) W := by
  rw [run_slice_h W t none 0 0 (by rw [he]; exact T.under) .i64 0 (by omega) (by omega), size_g T he]
  simp [Result.andThen, sliced]

set_option maxRecDepth 20000 in
theorem zeros_g {w : World} {t tn e : TypeId} {z : Value} {size bytes : Nat} (T : ElemT t e z size bytes) (htn : Tryz.prog.underlying tn = some (.int .i64)) (ty : TypeId) (n : Nat) (h0 : 0 < n) (hn : n ≤ 1000000) :
    ∃ c w', (Builtin.append_ #[t, tn] ty #[.slice none 0 0, .int .i64 (n : Int)]).run Tryz.prog w = .ok (.slice (some ⟨w.heap.size, 0, none⟩) n c) w' ∧ OwnC w' w.heap.size e size (.slice (some ⟨w.heap.size, 0, none⟩) 0 c) 0 [] ∧ Below w.heap.size w w' := by
  obtain ⟨i, h2, h3, h4, h5⟩ := info_parts T.info
  have hb : n * i.bytes ≤ 100000000 := by
    rw [h5]
    have := Nat.mul_le_mul hn T.small
    omega
  have hr := Lib.run_append_nil_zeros (P := Tryz.prog) w t tn ty e i z .i64 .i64 T.under htn h2 h3 n h0 (by rw [h4]; exact T.pos) (by omega) (by omega)
  have hge := grownCap_ge w n 0 e
  have hcm : grownCap w n 0 e ≤ maxLen := grownCap_le_maxLen w n 0 _ (by unfold maxLen; omega)
  refine ⟨_, _, hr, ⟨by simp, .inr ⟨w.heap.size, _, _, rfl, Nat.le_refl _, heap_alloc_new w.drew _, Nat.zero_le _, hcm, ?_, by simp⟩⟩, ((Below.refl _ _).drew).alloc (Nat.le_refl _) _⟩
  rw [Array.size_append, size_zeroCells, size_zeroCells, T.cells, ← Nat.add_mul]
  congr 1
  omega

theorem wpList_zeros_g {t tn e : TypeId} {z : Value} {size bytes : Nat} (T : ElemT t e z size bytes) (htn : Tryz.prog.underlying tn = some (.int .i64)) {w : World} {ops : Array Oper} {rest : List Oper} {o : Oper} {a : Act} {Q : Exit → Act → World → Prop} (hgd : o.guard = none) (s x : Operand)
    (hop : o.op = .call { callee := .builtin .append, args := #[s, x], argTypes := #[t, tn] })
    (hs : a.eval s = .slice none 0 0) (n : Nat) (N : Int) (hN : N = (n : Int)) (hx : a.eval x = .int .i64 N) (h0 : 0 < n) (hn : n ≤ 1000000)
    (h : ∀ c w', OwnC w' w.heap.size e size (.slice (some ⟨w.heap.size, 0, none⟩) 0 c) 0 [] → Below w.heap.size w w' → wpList Tryz.prog ops Q rest (a.put o.dst (.slice (some ⟨w.heap.size, 0, none⟩) n c)) w') : wpList Tryz.prog ops Q (o :: rest) a w := by
  subst hN
  refine wpList_plain hgd fun K hK => ?_
  obtain ⟨c, w', hrun, h1, h2⟩ := zeros_g (w := w) T htn o.type n h0 hn
  unfold Oper.wp
  simp [execOp, hop, resolve, invoke, builtin, hs, hx, hrun, Result.andThen]
  exact hK _ _ (h c w' h1 h2)

/-- make of any elements: n times the zero value. -/
def zerosV (z : Value) (n : Nat) : List Value := (List.replicate n z.cells.toList).flatten

theorem zerosV_len (z : Value) (n : Nat) : (zerosV z n).length = n * z.cells.size := by
  unfold zerosV
  induction n with
  | zero => simp
  | succ n ih => rw [List.replicate_succ, List.flatten_cons, List.length_append, ih, Nat.succ_mul]; simp; omega

theorem zerosV_get (z : Value) (hz : 0 < z.cells.size) : ∀ (n j : Nat), j < n * z.cells.size → (zerosV z n)[j]? = z.cells[j % z.cells.size]?
  | 0, j, h => by omega
  | n + 1, j, h => by
    unfold zerosV
    rw [List.replicate_succ, List.flatten_cons]
    by_cases hj : j < z.cells.size
    · rw [List.getElem?_append_left (by simpa using hj), Nat.mod_eq_of_lt hj]
      simp
    · rw [List.getElem?_append_right (by simp; omega)]
      have := zerosV_get z hz n (j - z.cells.size) (by rw [Nat.succ_mul] at h; omega)
      unfold zerosV at this
      simp only [Array.length_toList]
      rw [this, ← Nat.mod_eq_sub_mod (by omega)]

theorem made_zeros (z : Value) (hz : 0 < z.cells.size) (n : Nat) : (madeCells z.cells (n * z.cells.size)).toList = zerosV z n := by
  apply List.ext_getElem?
  intro j
  by_cases hj : j < n * z.cells.size
  · rw [zerosV_get z hz n j hj]
    simp only [madeCells, Array.toList_map]
    have := Nat.mod_lt j hz
    simp [hj, this]
  · rw [List.getElem?_eq_none (by simp [size_madeCells]; omega), List.getElem?_eq_none (by rw [zerosV_len]; omega)]

theorem wpList_make_g {t e : TypeId} {z : Value} {size bytes : Nat} (T : ElemT t e z size bytes) (w : World) {ops : Array Oper} {rest : List Oper} {o : Oper} {a : Act} {Q : Exit → Act → World → Prop}
    (hg : o.guard = none) (l c : Operand) (hop : o.op = Op.makeSlice t l c)
    (L C : Int) (n : Nat) (hl : a.eval l = .int .i64 L) (hc : a.eval c = .int .i64 C) (hL : L = (n : Int)) (hC : C = (n : Int)) (hn : n ≤ 1000000)
    (hK : ∀ w', OwnC w' w.heap.size e size (.slice (some ⟨w.heap.size, 0, none⟩) n n) n (zerosV z n) → Below w.heap.size w w' → w'.heap.size = w.heap.size + 1 → wpList Tryz.prog ops Q rest (a.put o.dst (.slice (some ⟨w.heap.size, 0, none⟩) n n)) w') :
    wpList Tryz.prog ops Q (o :: rest) a w := by
  obtain ⟨i, h2, h3, h4, h5⟩ := info_parts T.info
  have hb : n * i.bytes ≤ 100000000 := by
    rw [h5]
    have := Nat.mul_le_mul hn T.small
    omega
  refine wpList_plain hg fun K hK' => ?_
  have hrun := run_make (P := Tryz.prog) w t e i z T.under h2 h3 .i64 .i64 (n : Int) (n : Int) (by omega) (by omega) (by rw [← Int.natCast_mul, Nat.mul_comm]; omega) (by omega)
  subst hL
  subst hC
  unfold Oper.wp
  simp [execOp, hop, hl, hc, hrun, Result.andThen]
  have hz : 0 < z.cells.size := by rw [T.cells]; exact T.pos
  have e1 := made_zeros z hz n
  rw [T.cells] at e1
  refine hK' _ _ (hK _ ?_ ((Below.refl _ _).alloc (Nat.le_refl _) _) (by simp))
  have ho := OwnC.lit w e size n (madeCells z.cells (n * i.size)) (by unfold maxLen; omega) (by rw [size_madeCells, h4])
  rw [h4, e1] at ho
  rw [h4]
  exact ho

end Go.Proofs.YthdagjlgfffpbaaGreat

/-
  Layer 5 (conf): slices.Grow at nil and slices.Concat at the five kinds of records. By the verifier.
-/
set_option linter.unusedVariables false
namespace Go.Proofs.YthdagjlgfffpbaaGreat
open Go.RowKit

theorem nilC (w : World) (base : Nat) (e : TypeId) (size : Nat) : OwnC w base e size (.slice none 0 0) 0 [] := OwnC.nil w base e size




theorem eo_W : Tryz.prog.elem 26 = 45 := by kernel_rfl

set_option maxHeartbeats 1000000 in
theorem grow_W (n : Nat) (hn : n ≤ 900000) (w : World) :
    Calls Tryz.prog 33 #[.slice none 0 0, .int .i64 (n : Int)] w fun e w' => ∃ v, e = .returned v ∧ OwnC w' w.heap.size 45 3 v 0 [] ∧ Below w.heap.size w w' := by
  have hn1 : (n : Int) ≤ 900000 := by omega
  have h0 : ¬ (n : Int) < 0 := by omega
  by_cases hz : n = 0
  · subst hz
    go_enter Tryz.func33, Tryz.ntmps33
    go_wp2_with fail
    go_ret
    exact ⟨_, rfl, nilC _ _ _ _, Below.refl _ _⟩
  · have hp : (0 : Int) < (n : Int) := by omega
    have hcn := run_cutnilg elemW eo_W
    have HN := Lib.hid (And.intro hn hz)
    clear hn hz
    go_enter Tryz.func33, Tryz.ntmps33
    go_wp2_with ((with_reducible refine wpList_zeros_g elemW Tryz.underlying3 rfl (.tmp 20) (.tmp 21) rfl rfl n n rfl rfl (by have := HN.out; omega) (by have := HN.out; omega) ?_); intro c2 w2 ho2 hb2; have hr2 := run_cut0g elemW eo_W ⟨w.heap.size, 0, none⟩ n c2; have HO2 := Lib.hid (And.intro ho2 hb2); clear ho2 hb2)
    go_ret
    exact ⟨_, rfl, HO2.out.1, HO2.out.2⟩

set_option maxHeartbeats 2000000 in
theorem concat_W (A : Option Addr) (ps : List PartC) (c : Nat) (w : World) (hp : PtsC w 3 A ps) (hlen : partsN ps ≤ 800000) (hn : ps.length ≤ 1000) :
    Calls Tryz.prog 14 #[.slice A ps.length c] w fun e w' => ∃ v, e = .returned v ∧ OwnC w' w.heap.size 45 3 v (partsN ps) (partsV ps) ∧ Below w.heap.size w w' := by
  have HP := Lib.hid hp
  have HL := Lib.hid (And.intro hlen hn)
  have hn1 : (ps.length : Int) ≤ 1000 := by omega
  clear hp hlen hn
  go_enter Tryz.func14, Tryz.ntmps14
  go_wp2_with fail
  go_loop [3, 11] (fun s i => ∃ k : Nat, k ≤ ps.length ∧ i = .int .i64 (k : Int) ∧ s = .int .i64 (partsN (ps.take k) : Int)) (fun _ i => ps.length - (intOf i).toNat)
  case atStart => exact ⟨0, by omega, rfl, rfl⟩
  case round =>
    obtain ⟨k, hk, rfl, rfl⟩ := hrel
    by_cases hlt : k < ps.length
    · obtain ⟨b, o, rfl, hcell⟩ := HP.out.1 k hlt
      have hkn : (k : Int) < (ps.length : Int) := by omega
      have hl2 := partsN_succ hlt
      have hle := partsN_le ps (k + 1)
      have HS := Lib.hid hl2
      have hsum : (partsN (ps.take k) : Int) + (ps[k].n : Int) ≤ 800000 := by have := HL.out; omega
      clear hl2 hle
      generalize partsN (ps.take k) = s at *
      generalize ps[k] = p at *
      go_wp2_with fail
      go_round
      case rel => exact ⟨k + 1, by omega, by go_num, by rw [HS.out]; rfl⟩
      case measure => simp [intOf]; omega
    · have hkn : ¬ (k : Int) < (ps.length : Int) := by omega
      have hkk : ps.take k = ps := List.take_of_length_le (by omega)
      rw [hkk]
      clear hkk
      have HG := Lib.hid (grow_W (partsN ps) (by have := HL.out; omega) w)
      generalize hT : partsN ps = T at HG ⊢
      have HT := Lib.hid hT
      clear hT
      go_wp2_with fail
      refine HG.out.mono ?_
      rintro e w1 ⟨v1, rfl, ho1, hb1⟩
      have HO1 := Lib.hid (And.intro ho1 hb1)
      clear ho1 hb1
      go_wp2_with fail
      go_loopw [6, 27] (fun v i wr => ∃ (k : Nat) (sv : Value), sv = v ∧ k ≤ ps.length ∧ i = .int .i64 (k : Int) ∧ Hid (OwnC wr w.heap.size 45 3 sv (partsN (ps.take k)) (partsV (ps.take k)) ∧ Below w.heap.size w wr)) (fun _ i _ => ps.length - (intOf i).toNat)
      case atStart => exact ⟨0, v1, rfl, by omega, rfl, HO1⟩
      case round =>
        obtain ⟨k, sv, rfl, hk, rfl, ho⟩ := hrel
        by_cases hlt : k < ps.length
        · have hp2 := HP.out.below (w' := wr) ho.out.2
          obtain ⟨b, o, rfl, hcell⟩ := hp2.1 k hlt
          have hpk := hp2.2 ps[k] (List.getElem_mem hlt)
          have hkn : (k : Int) < (ps.length : Int) := by omega
          have hle := partsN_le ps (k + 1)
          have hs := partsN_succ hlt
          have HSS := Lib.hid (And.intro hs (partsV_succ hlt))
          have hbd : partsN (ps.take k) + ps[k].n ≤ 1000000 := by have := HL.out; have := HT.out; omega
          have HQ := Lib.hid (And.intro ho.out.1 (And.intro hpk (And.intro ho.out.2 hbd)))
          clear hs hle hp2 ho hpk hbd
          generalize ps[k] = p at *
          generalize partsN (ps.take k) = F at *
          generalize partsV (ps.take k) = G at *
          go_wp2_with ((with_reducible refine wpList_append_any elemW rfl (.tmp 31) (.tmp 32) rfl w.heap.size sv F G rfl HQ.out.1 p.A p.n p.c p.cs rfl HQ.out.2.1.cells HQ.out.2.1.len HQ.out.2.1.one HQ.out.2.1.nil HQ.out.2.2.2 HQ.out.2.2.1.size ?_); intro v2 w2 ho2 hg2 hf2; have hb2 := grown_belowc HQ.out.2.2.1 HQ.out.1 hg2 HQ.out.2.2.1.size; have HO2 := Lib.hid (And.intro ho2 hb2); clear ho2 hg2 hf2 hb2)
          go_roundw
          case rel => exact ⟨k + 1, v2, rfl, by omega, by go_num, Lib.hid (by rw [HSS.out.1, HSS.out.2]; exact HO2.out)⟩
          case measure => simp [intOf]; omega
        · have hkn : ¬ (k : Int) < (ps.length : Int) := by omega
          have hkk : ps.take k = ps := List.take_of_length_le (by omega)
          rw [hkk] at ho
          go_wp2_with fail
          go_ret
          exact ⟨sv, rfl, ho.out.1, ho.out.2⟩




theorem eo_T : Tryz.prog.elem 24 = 39 := by kernel_rfl

set_option maxHeartbeats 1000000 in
theorem grow_T (n : Nat) (hn : n ≤ 900000) (w : World) :
    Calls Tryz.prog 34 #[.slice none 0 0, .int .i64 (n : Int)] w fun e w' => ∃ v, e = .returned v ∧ OwnC w' w.heap.size 39 6 v 0 [] ∧ Below w.heap.size w w' := by
  have hn1 : (n : Int) ≤ 900000 := by omega
  have h0 : ¬ (n : Int) < 0 := by omega
  by_cases hz : n = 0
  · subst hz
    go_enter Tryz.func34, Tryz.ntmps34
    go_wp2_with fail
    go_ret
    exact ⟨_, rfl, nilC _ _ _ _, Below.refl _ _⟩
  · have hp : (0 : Int) < (n : Int) := by omega
    have hcn := run_cutnilg elemT eo_T
    have HN := Lib.hid (And.intro hn hz)
    clear hn hz
    go_enter Tryz.func34, Tryz.ntmps34
    go_wp2_with ((with_reducible refine wpList_zeros_g elemT Tryz.underlying3 rfl (.tmp 20) (.tmp 21) rfl rfl n n rfl rfl (by have := HN.out; omega) (by have := HN.out; omega) ?_); intro c2 w2 ho2 hb2; have hr2 := run_cut0g elemT eo_T ⟨w.heap.size, 0, none⟩ n c2; have HO2 := Lib.hid (And.intro ho2 hb2); clear ho2 hb2)
    go_ret
    exact ⟨_, rfl, HO2.out.1, HO2.out.2⟩

set_option maxHeartbeats 2000000 in
theorem concat_T (A : Option Addr) (ps : List PartC) (c : Nat) (w : World) (hp : PtsC w 6 A ps) (hlen : partsN ps ≤ 800000) (hn : ps.length ≤ 1000) :
    Calls Tryz.prog 15 #[.slice A ps.length c] w fun e w' => ∃ v, e = .returned v ∧ OwnC w' w.heap.size 39 6 v (partsN ps) (partsV ps) ∧ Below w.heap.size w w' := by
  have HP := Lib.hid hp
  have HL := Lib.hid (And.intro hlen hn)
  have hn1 : (ps.length : Int) ≤ 1000 := by omega
  clear hp hlen hn
  go_enter Tryz.func15, Tryz.ntmps15
  go_wp2_with fail
  go_loop [3, 11] (fun s i => ∃ k : Nat, k ≤ ps.length ∧ i = .int .i64 (k : Int) ∧ s = .int .i64 (partsN (ps.take k) : Int)) (fun _ i => ps.length - (intOf i).toNat)
  case atStart => exact ⟨0, by omega, rfl, rfl⟩
  case round =>
    obtain ⟨k, hk, rfl, rfl⟩ := hrel
    by_cases hlt : k < ps.length
    · obtain ⟨b, o, rfl, hcell⟩ := HP.out.1 k hlt
      have hkn : (k : Int) < (ps.length : Int) := by omega
      have hl2 := partsN_succ hlt
      have hle := partsN_le ps (k + 1)
      have HS := Lib.hid hl2
      have hsum : (partsN (ps.take k) : Int) + (ps[k].n : Int) ≤ 800000 := by have := HL.out; omega
      clear hl2 hle
      generalize partsN (ps.take k) = s at *
      generalize ps[k] = p at *
      go_wp2_with fail
      go_round
      case rel => exact ⟨k + 1, by omega, by go_num, by rw [HS.out]; rfl⟩
      case measure => simp [intOf]; omega
    · have hkn : ¬ (k : Int) < (ps.length : Int) := by omega
      have hkk : ps.take k = ps := List.take_of_length_le (by omega)
      rw [hkk]
      clear hkk
      have HG := Lib.hid (grow_T (partsN ps) (by have := HL.out; omega) w)
      generalize hT : partsN ps = T at HG ⊢
      have HT := Lib.hid hT
      clear hT
      go_wp2_with fail
      refine HG.out.mono ?_
      rintro e w1 ⟨v1, rfl, ho1, hb1⟩
      have HO1 := Lib.hid (And.intro ho1 hb1)
      clear ho1 hb1
      go_wp2_with fail
      go_loopw [6, 27] (fun v i wr => ∃ (k : Nat) (sv : Value), sv = v ∧ k ≤ ps.length ∧ i = .int .i64 (k : Int) ∧ Hid (OwnC wr w.heap.size 39 6 sv (partsN (ps.take k)) (partsV (ps.take k)) ∧ Below w.heap.size w wr)) (fun _ i _ => ps.length - (intOf i).toNat)
      case atStart => exact ⟨0, v1, rfl, by omega, rfl, HO1⟩
      case round =>
        obtain ⟨k, sv, rfl, hk, rfl, ho⟩ := hrel
        by_cases hlt : k < ps.length
        · have hp2 := HP.out.below (w' := wr) ho.out.2
          obtain ⟨b, o, rfl, hcell⟩ := hp2.1 k hlt
          have hpk := hp2.2 ps[k] (List.getElem_mem hlt)
          have hkn : (k : Int) < (ps.length : Int) := by omega
          have hle := partsN_le ps (k + 1)
          have hs := partsN_succ hlt
          have HSS := Lib.hid (And.intro hs (partsV_succ hlt))
          have hbd : partsN (ps.take k) + ps[k].n ≤ 1000000 := by have := HL.out; have := HT.out; omega
          have HQ := Lib.hid (And.intro ho.out.1 (And.intro hpk (And.intro ho.out.2 hbd)))
          clear hs hle hp2 ho hpk hbd
          generalize ps[k] = p at *
          generalize partsN (ps.take k) = F at *
          generalize partsV (ps.take k) = G at *
          go_wp2_with ((with_reducible refine wpList_append_any elemT rfl (.tmp 31) (.tmp 32) rfl w.heap.size sv F G rfl HQ.out.1 p.A p.n p.c p.cs rfl HQ.out.2.1.cells HQ.out.2.1.len HQ.out.2.1.one HQ.out.2.1.nil HQ.out.2.2.2 HQ.out.2.2.1.size ?_); intro v2 w2 ho2 hg2 hf2; have hb2 := grown_belowc HQ.out.2.2.1 HQ.out.1 hg2 HQ.out.2.2.1.size; have HO2 := Lib.hid (And.intro ho2 hb2); clear ho2 hg2 hf2 hb2)
          go_roundw
          case rel => exact ⟨k + 1, v2, rfl, by omega, by go_num, Lib.hid (by rw [HSS.out.1, HSS.out.2]; exact HO2.out)⟩
          case measure => simp [intOf]; omega
        · have hkn : ¬ (k : Int) < (ps.length : Int) := by omega
          have hkk : ps.take k = ps := List.take_of_length_le (by omega)
          rw [hkk] at ho
          go_wp2_with fail
          go_ret
          exact ⟨sv, rfl, ho.out.1, ho.out.2⟩




/-- Two parts in a literal. -/
theorem pts2 {W : World} {base : Nat} {e : TypeId} {v : Value} {size : Nat} {p1 p2 : PartC} (r : OwnC W base e 1 v 2 [.slice p1.A p1.n p1.c, .slice p2.A p2.n p2.c]) (h1 : PartOk W size p1) (h2 : PartOk W size p2) : ∃ A c, v = .slice A 2 c ∧ PtsC W size A [p1, p2] := by
  obtain ⟨A, c, rfl, hc, -⟩ := r.cells
  refine ⟨A, c, rfl, fun k hk => ?_, fun p hp => ?_⟩
  · obtain ⟨b, o, hA, -, hcell⟩ := hc k (by simpa using hk)
    refine ⟨b, o, hA, ?_⟩
    rw [hcell]
    have hk2 : k < 2 := by simpa using hk
    rcases (by omega : k = 0 ∨ k = 1) with rfl | rfl <;> rfl
  · rcases List.mem_cons.1 hp with rfl | hp
    · exact h1
    · rcases List.mem_cons.1 hp with rfl | hp
      · exact h2
      · cases hp

theorem recs_part {α : Type} {w : World} {A : Option Addr} {cap : Nat} {l : List α} {f : α → List Value} (h : Recs w A cap l f) (k : Nat) (hk : ∀ x, (f x).length = k) (h1 : ∀ x, ∀ v ∈ f x, v.oneCell' = true) : PartOk w k ⟨A, l.length, cap, l.flatMap f⟩ :=
  ⟨h.cells, flat_len f k hk l, flat_one h1 l, h.nil⟩


theorem cat2_W {W : World} {base : Nat} {v : Value} {p1 p2 : PartC} (r : OwnC W base 26 1 v 2 [.slice p1.A p1.n p1.c, .slice p2.A p2.n p2.c]) (h1 : PartOk W 3 p1) (h2 : PartOk W 3 p2) (hl : p1.n + p2.n ≤ 800000) :
    Calls Tryz.prog 14 #[v] W fun e w' => ∃ v', e = .returned v' ∧ OwnC w' W.heap.size 45 3 v' (p1.n + p2.n) (p1.cs ++ p2.cs) ∧ Below W.heap.size W w' := by
  obtain ⟨A, c, rfl, hp⟩ := pts2 r h1 h2
  refine (concat_W A [p1, p2] c W hp (by simpa [partsN] using hl) (by simp)).mono ?_
  rintro e w' ⟨v', rfl, ho, hb⟩
  exact ⟨v', rfl, by simpa [partsN, partsV] using ho, hb⟩


theorem cat2_T {W : World} {base : Nat} {v : Value} {p1 p2 : PartC} (r : OwnC W base 24 1 v 2 [.slice p1.A p1.n p1.c, .slice p2.A p2.n p2.c]) (h1 : PartOk W 6 p1) (h2 : PartOk W 6 p2) (hl : p1.n + p2.n ≤ 800000) :
    Calls Tryz.prog 15 #[v] W fun e w' => ∃ v', e = .returned v' ∧ OwnC w' W.heap.size 39 6 v' (p1.n + p2.n) (p1.cs ++ p2.cs) ∧ Below W.heap.size W w' := by
  obtain ⟨A, c, rfl, hp⟩ := pts2 r h1 h2
  refine (concat_T A [p1, p2] c W hp (by simpa [partsN] using hl) (by simp)).mono ?_
  rintro e w' ⟨v', rfl, ho, hb⟩
  exact ⟨v', rfl, by simpa [partsN, partsV] using ho, hb⟩


end Go.Proofs.YthdagjlgfffpbaaGreat

/-
  Cuts of a list of records, of no layer: l[m:] and l[:m] as parts of a Concat. By the verifier.
-/
set_option linter.unusedVariables false
namespace Go.Proofs.YthdagjlgfffpbaaGreat
open Go.RowKit

theorem add_flat (b o k : Nat) : (⟨b, o, none⟩ : Addr).add k = ⟨b, o + k, none⟩ := by unfold Addr.add; split <;> simp_all

theorem cells_mk {w : World} {b o : Nat} {cs : List Value} (hb : b < w.heap.size) (h : ∀ (i : Nat) v, cs[i]? = some v → w.cell? ⟨b, o + i, none⟩ = some v) : Cells w (some ⟨b, o, none⟩) cs := fun i hi => by
  refine ⟨b, o, rfl, hb, ?_⟩
  rw [h i cs[i] (List.getElem?_eq_getElem hi)]
  simp [List.getD, hi]

theorem part_drop {α : Type} {w : World} {A : Option Addr} {cap : Nat} {l : List α} {f : α → List Value} (h : Recs w A cap l f) (k : Nat) (hk : ∀ x, (f x).length = k) (h1 : ∀ x, ∀ v ∈ f x, v.oneCell' = true) {m : Nat} (hm : m ≤ l.length) :
    PartOk w k ⟨if cap = m then A else A.map (·.add (m * k)), l.length - m, cap - m, (l.drop m).flatMap f⟩ := by
  have hlen : ((l.drop m).flatMap f).length = (l.length - m) * k := by rw [flat_len f k hk, List.length_drop]
  have hfit := h.fit
  refine ⟨?_, hlen, flat_one h1 _, fun he => ?_⟩
  · by_cases hc : cap = m
    · rw [if_pos hc]
      have e : l.drop m = [] := List.drop_eq_nil_of_le (by omega)
      rw [e]
      exact Cells.nil _ _
    · rw [if_neg hc]
      rcases Nat.eq_zero_or_pos ((l.drop m).flatMap f).length with h0 | h0
      · rw [List.eq_nil_of_length_eq_zero h0]
        exact Cells.nil _ _
      · have hsplit : l.flatMap f = (l.take m).flatMap f ++ (l.drop m).flatMap f := by rw [← List.flatMap_append, List.take_append_drop]
        have ht : ((l.take m).flatMap f).length = m * k := by rw [flat_len f k hk, List.length_take, Nat.min_eq_left hm]
        obtain ⟨b, o, rfl, hb, hcell⟩ := h.cells.some (by rw [hsplit, List.length_append]; omega)
        rw [Option.map_some, add_flat]
        refine cells_mk hb fun i v hv => ?_
        have := hcell (m * k + i) v (by rw [hsplit, List.getElem?_append_right (by omega), ht, Nat.add_sub_cancel_left]; exact hv)
        rw [Nat.add_assoc]
        exact this
  · by_cases hc : cap = m
    · show cap - m = 0
      omega
    · show cap - m = 0
      simp only at he
      rw [if_neg hc] at he
      have : A = none := by cases A <;> simp_all
      have := h.nil this
      omega

theorem part_take {α : Type} {w : World} {A : Option Addr} {cap : Nat} {l : List α} {f : α → List Value} (h : Recs w A cap l f) (k : Nat) (hk : ∀ x, (f x).length = k) (h1 : ∀ x, ∀ v ∈ f x, v.oneCell' = true) {m : Nat} (hm : m ≤ l.length) :
    PartOk w k ⟨A, m, cap, (l.take m).flatMap f⟩ := by
  have hlen : ((l.take m).flatMap f).length = m * k := by rw [flat_len f k hk, List.length_take, Nat.min_eq_left hm]
  refine ⟨?_, hlen, flat_one h1 _, h.nil⟩
  rcases Nat.eq_zero_or_pos ((l.take m).flatMap f).length with h0 | h0
  · rw [List.eq_nil_of_length_eq_zero h0]
    exact Cells.nil _ _
  · have hsplit : l.flatMap f = (l.take m).flatMap f ++ (l.drop m).flatMap f := by rw [← List.flatMap_append, List.take_append_drop]
    obtain ⟨b, o, rfl, hb, hcell⟩ := h.cells.some (by rw [hsplit, List.length_append]; omega)
    refine cells_mk hb fun i v hv => hcell i v ?_
    rw [hsplit, List.getElem?_append_left (List.getElem?_eq_some_iff.1 hv).1]
    exact hv

end Go.Proofs.YthdagjlgfffpbaaGreat

/-
  Layer 5 (conf): the reference's bit, text, and the keys of records. By the verifier.
-/
import Derived.Test.YthdagjlgfffpbaaGreatGCfg
import Derived.Deep.LoopGhost
import Derived.Test.YthdagjlgfffpbaaGreatMReg
set_option linter.unusedVariables false
namespace Go.Proofs.YthdagjlgfffpbaaGreat
open Go.RowKit

theorem elem64 : ElemT 78 25 (.int .u64 0) 1 8 := ⟨Tryz.underlying78, by kernel_rfl, rfl, by omega, by omega⟩

/-- Numbers of the call's own. -/
def OwnN (w : World) (base : Nat) (v : Value) (l : List Nat) : Prop := OwnC w base 25 1 v l.length (l.map U64)
/-- New numbers are handed back. -/
def NumRes (w : World) (l : List Nat) (e : Ending) (w' : World) : Prop := ∃ v, e = .returned v ∧ OwnN w' w.heap.size v l ∧ Below w.heap.size w w'

theorem u64_one (l : List Nat) : ∀ u ∈ l.map U64, u.oneCell' = true := by
  intro u hu
  obtain ⟨x, -, rfl⟩ := List.mem_map.1 hu
  rfl

theorem cells_lit (w : World) (C : Array Value) (e : TypeId) (cs : List Value) (h : C.toList = cs) : Cells (w.alloc (.cells C e)) (some ⟨w.heap.size, 0, none⟩) cs := by
  intro i hi
  refine ⟨w.heap.size, 0, rfl, by simp, ?_⟩
  rw [cell_of_row _ _ _ _ _ _ (heap_alloc_new w _), Nat.zero_add]
  subst h
  simp at hi
  simp [List.getD, hi]

/-- A row of the call's own, and a literal besides. -/
structure LitN (w : World) (base : Nat) (sv : Value) (l m : List Nat) (W wr : World) : Prop where
  own : OwnC W base 25 1 sv l.length (l.map U64)
  lit : Cells W (some ⟨wr.heap.size, 0, none⟩) (m.map U64)
  below : Below base w W
  size : base ≤ W.heap.size

theorem litN {w wr : World} {base : Nat} {sv : Value} {l : List Nat} (ho : OwnN wr base sv l) (hb : Below base w wr) (hs : base ≤ wr.heap.size) (m : List Nat) (C : Array Value) (hC : C.toList = m.map U64) :
    LitN w base sv l m (wr.alloc (.cells C 25)) wr := by
  have hA : Below wr.heap.size wr (wr.alloc (.cells C 25)) := (Below.refl _ _).alloc (Nat.le_refl _) _
  exact ⟨OwnC.below ho hA, cells_lit wr C _ _ hC, hb.trans (hA.mono hs), by simp; omega⟩

theorem OwnN.app {w : World} {base : Nat} {v : Value} {l m : List Nat} {k : Nat} (hk : k = l.length + m.length) (h : OwnC w base 25 1 v k (l.map U64 ++ m.map U64)) : OwnN w base v (l ++ m) := by
  unfold OwnN
  rw [List.length_append, List.map_append, ← hk]
  exact h

theorem len1 (x : Nat) : ([x].map U64).length = 1 * 1 := rfl
theorem len2 (x y : Nat) : ([x, y].map U64).length = 2 * 1 := rfl
theorem len3 (x y z : Nat) : ([x, y, z].map U64).length = 3 * 1 := rfl
theorem lenN (l : List Nat) : (l.map U64).length = l.length * 1 := by simp
theorem some_nil {a : Addr} {c : Nat} (h : (some a : Option Addr) = none) : c = 0 := by cases h

theorem bit_ok (b : Bool) (w : World) : Calls Tryz.prog 92 #[.bool b] w fun e w' => e = .returned (.int .u64 (bitN b : Int)) ∧ w = w' := by
  cases b with
  | false =>
    go_enter Tryz.func92, Tryz.ntmps92
    go_wp2_with fail
    go_ret
    exact ⟨rfl, rfl⟩
  | true =>
    go_enter Tryz.func92, Tryz.ntmps92
    go_wp2_with fail
    go_ret
    exact ⟨rfl, rfl⟩

set_option maxHeartbeats 2000000 in
theorem text_ok (s : ByteArray) (hs : s.size ≤ 1000) (w : World) :
    Calls Tryz.prog 91 #[.string s] w fun e w' => NumRes w (textN s) e w' := by
  have hS := Str.of s
  have hz := hS.size
  have HS := Lib.hid hS
  obtain ⟨l, hl⟩ : ∃ l, l = bytesOf s := ⟨_, rfl⟩
  rw [← hl] at HS hz
  have HT : Hid (textN s = l.map (· + 1) ++ [0]) := Lib.hid (by rw [hl]; rfl)
  have HZ := Lib.hid hz
  have HN0 := Lib.hid (OwnC.nil w w.heap.size 25 1)
  have hl1 : l.length ≤ 1000 := by omega
  have HL1 := Lib.hid hl1
  clear hS hl hz
  go_enter Tryz.func91, Tryz.ntmps91
  go_wp2_with fail
  go_loopw [3, 4] (fun v i wr => ∃ (k : Nat) (sv : Value), sv = v ∧ k ≤ l.length ∧ i = .int .i64 (k : Int) ∧ Hid (OwnN wr w.heap.size sv ((l.take k).map (· + 1)) ∧ Below w.heap.size w wr)) (fun _ i _ => l.length - (intOf i).toNat)
  case atStart => exact ⟨0, _, rfl, by omega, rfl, Lib.hid ⟨HN0.out, Below.refl _ _⟩⟩
  case round =>
    obtain ⟨k, sv, rfl, hk, rfl, ho⟩ := hrel
    by_cases hlt : k < l.length
    · have hki : (k : Int) < (s.size : Int) := by have := HZ.out; omega
      have hi := HS.out.index hlt
      have hb := HS.out.2.get k
      have HX : Hid ((l.take (k + 1)).map (· + 1) = (l.take k).map (· + 1) ++ [l.getD k 0 + 1]) := Lib.hid (by
        rw [List.take_succ_eq_append_getElem hlt, List.map_append]
        simp [List.getD, hlt])
      have HM : Hid (((l.take k).map (· + 1)).length = k) := Lib.hid (by rw [List.length_map, List.length_take]; omega)
      generalize l.getD k 0 = x at *
      obtain ⟨z, hz⟩ : ∃ z : Int, z = (x : Int) := ⟨_, rfl⟩
      rw [← hz] at hi
      have hz0 : 0 ≤ z := by omega
      have hz1 : z < 256 := by omega
      have hw0 : IntKind.u64.wrap z = z := IntWalk.u64_in _ (by omega)
      have hw1 : IntKind.u64.wrap (z + 1) = z + 1 := IntWalk.u64_in _ (by omega)
      have HL := Lib.hid (litN ho.out.1 ho.out.2 ho.out.2.size [x + 1] #[.int .u64 (z + 1)] (by rw [hz]; rfl))
      generalize (l.take k).map (· + 1) = m at *
      clear hz hb ho
      go_wp2_with ((with_reducible refine wpList_append_g elem64 rfl (.tmp 11) (.tmp 17) rfl w.heap.size sv m.length (m.map U64) rfl HL.out.own (some ⟨wr.heap.size, 0, none⟩) 1 1 ([x + 1].map U64) rfl HL.out.lit (len1 _) (u64_one _) some_nil (by have := HM.out; have := HL1.out; omega) HL.out.size ?_); intro v2 w2 ho2 hg2; have hb2 := grown_belowc HL.out.below HL.out.own hg2 HL.out.size; have HO2 := Lib.hid (And.intro (OwnN.app rfl ho2) hb2); clear ho2 hg2 hb2)
      go_roundw
      case rel => exact ⟨k + 1, v2, rfl, by omega, by go_num, Lib.hid (by rw [HX.out]; exact HO2.out)⟩
      case measure => simp [intOf]; omega
    · have hki : ¬ (k : Int) < (s.size : Int) := by have := HZ.out; omega
      have HTK : Hid (l.take k = l) := Lib.hid (List.take_of_length_le (by omega))
      have HL := Lib.hid (litN ho.out.1 ho.out.2 ho.out.2.size [0] #[.int .u64 0] rfl)
      rw [HTK.out] at HL
      have HM : Hid ((l.map (· + 1)).length ≤ 1000) := Lib.hid (by rw [List.length_map]; exact HL1.out)
      generalize l.map (· + 1) = m at *
      clear ho hlt hk
      go_wp2_with ((with_reducible refine wpList_append_g elem64 rfl (.tmp 19) (.tmp 20) rfl w.heap.size sv m.length (m.map U64) rfl HL.out.own (some ⟨wr.heap.size, 0, none⟩) 1 1 ([0].map U64) rfl HL.out.lit (len1 _) (u64_one _) some_nil (by have := HM.out; omega) HL.out.size ?_); intro v2 w2 ho2 hg2; have hb2 := grown_belowc HL.out.below HL.out.own hg2 HL.out.size; have HO2 := Lib.hid (And.intro (OwnN.app rfl ho2) hb2); clear ho2 hg2 hb2)
      go_ret
      rw [HT.out]
      exact ⟨v2, rfl, HO2.out⟩

end Go.Proofs.YthdagjlgfffpbaaGreat

/-
  Layer 5 (conf): the reference's keys of windows, regions, partitions, ports and channels. By the verifier.
-/
set_option linter.unusedVariables false
namespace Go.Proofs.YthdagjlgfffpbaaGreat
open Go.RowKit

/-- Two blocks behind each other, the second one the result. -/
theorem num_lit (w : World) (l : List Nat) (D : Array Value) (hD : D.toList = l.map U64) (hl : l.length ≤ 100) (W : World) (hW : Below w.heap.size w W) (B : Nat) (hB : W.heap.size = B) :
    OwnN (W.alloc (.cells D 25)) w.heap.size (.slice (some ⟨B, 0, none⟩) l.length l.length) l ∧ Below w.heap.size w (W.alloc (.cells D 25)) := by
  subst hB
  refine ⟨?_, hW.alloc hW.size _⟩
  unfold OwnN
  rw [← hD]
  exact (OwnC.lit W 25 1 l.length D (by unfold maxLen; omega) (by have := congrArg List.length hD; rw [List.length_map] at this; simpa using this)).base hW.size

theorem window_ok (p : WinR) (hp : p.ok) (w : World) :
    Calls Tryz.prog 67 #[.agg #[.int .u64 (p.start : Int), .int .u64 (p.len : Int), .int .u16 (p.part : Int)]] w fun e w' => NumRes w p.key e w' := by
  have hA : Below w.heap.size w (w.alloc (.cells #[.int .u64 (p.start : Int), .int .u64 (p.len : Int), .int .u16 (p.part : Int)] 45)) := (Below.refl _ _).alloc (Nat.le_refl _) _
  have HN := Lib.hid (num_lit w p.key #[.int .u64 (p.start : Int), .int .u64 (p.len : Int), .int .u64 (p.part : Int)] rfl (by simp [WinR.key]) _ hA (w.heap.size + 1) (by simp))
  obtain ⟨h1, h2, h3⟩ := hp
  have HK : Hid (p.key.length = 3) := Lib.hid rfl
  rw [HK.out] at HN
  generalize hs : (p.start : Int) = s at *
  generalize hl : (p.len : Int) = l at *
  generalize hz : (p.part : Int) = z at *
  have hz0 : 0 ≤ z := by omega
  have hz1 : z < 65536 := by omega
  have hw0 : IntKind.u64.wrap z = z := IntWalk.u64_in _ (by omega)
  clear hs hl hz h1 h2 h3 hA
  go_enter Tryz.func67, Tryz.ntmps67
  go_wp2_with fail
  go_ret
  exact ⟨_, rfl, HN.out⟩

set_option maxHeartbeats 2000000 in
theorem region_ok (p : RegR) (hp : p.ok) (w : World) :
    Calls Tryz.prog 68 #[.agg #[.int .u64 (p.base : Int), .int .u64 (p.size : Int), .int .u16 (p.part : Int), .int .u8 (p.rights : Int), .bool p.shared]] w fun e w' => NumRes w p.key e w' := by
  obtain ⟨h1, h2, h3, h4⟩ := hp
  have HK : Hid (p.key.map U64 = [.int .u64 (p.base : Int), .int .u64 (p.size : Int), .int .u64 (p.part : Int), .int .u64 (p.rights : Int), .int .u64 (bitN p.shared : Int)]) := Lib.hid rfl
  have HL : Hid (p.key.length = 5) := Lib.hid rfl
  have HB := Lib.hid (bit_ok p.shared)
  generalize p.key = key at *
  generalize p.shared = sh at *
  generalize bitN sh = bn at *
  generalize hs : (p.base : Int) = s at *
  generalize hl : (p.size : Int) = l at *
  generalize hz : (p.part : Int) = z at *
  generalize hy : (p.rights : Int) = y at *
  have hz0 : 0 ≤ z := by omega
  have hz1 : z < 65536 := by omega
  have hw0 : IntKind.u64.wrap z = z := IntWalk.u64_in _ (by omega)
  have hy0 : 0 ≤ y := by omega
  have hy1 : y < 256 := by omega
  have hw1 : IntKind.u64.wrap y = y := IntWalk.u64_in _ (by omega)
  clear hs hl hz hy h1 h2 h3 h4
  go_enter Tryz.func68, Tryz.ntmps68
  go_wp2_with fail
  refine region_inv [] (w.alloc (.cells #[.int .u64 s, .int .u64 l, .int .u16 z, .int .u8 y, .bool sh] 47)) [(3, Sp.val (.pointer (some ⟨w.heap.size, 0, none⟩))), (4, Sp.val (.int .u64 s)), (5, Sp.val (.pointer (some ⟨w.heap.size, 1, none⟩))), (6, Sp.val (.int .u64 l)), (7, Sp.val (.pointer (some ⟨w.heap.size, 2, none⟩))), (8, Sp.val (.int .u16 z)), (9, Sp.val (.int .u64 z)),
      (10, Sp.val (.pointer (some ⟨w.heap.size, 3, none⟩))), (11, Sp.val (.int .u8 y)), (12, Sp.val (.int .u64 y)), (13, Sp.val (.pointer (some ⟨w.heap.size, 4, none⟩))), (14, Sp.val (.bool sh)), (15, Sp.val (.int .u64 (bn : Int))), (16, Sp.row 25 1 5 [.int .u64 s, .int .u64 l, .int .u64 z, .int .u64 y, .int .u64 (bn : Int)]),
      (2, Sp.row 25 1 5 [.int .u64 s, .int .u64 l, .int .u64 z, .int .u64 y, .int .u64 (bn : Int)])] [16, 2] rfl (by kernel_rfl) ?_ (by kernel_rfl) ?_ ?_
  case refine_1 => exact (Below.refl _ _).drew
  case refine_2 =>
    refine ⟨?_, ?_, ?_, ?_, ?_, ?_, ?_, ?_, ?_, ?_, ?_, ?_, ?_, ?_, ?_, trivial⟩
    case refine_1 => (refine ⟨_, rfl, Nat.le_of_ble_eq_true rfl, fun listed a W hst hn hdep K hK => ?_⟩; (have e1 := hst.oldOf hn 1 (by kernel_rfl) rfl; simp only [Array.getD_eq_getD_getElem?] at e1); go_simp; exact hK _ _ (Or.inr (Below.refl _ _)) hst.glob (Sp.of_val rfl) trivial)
    case refine_2 => (refine ⟨_, rfl, Nat.le_of_ble_eq_true rfl, fun listed a W hst hn hdep K hK => ?_⟩; (have dd := dep_of hdep 0 (by kernel_rfl); have e1 := hst.valOf 0 3 (by kernel_rfl) dd rfl; clear dd); have c := par_cell hst.glob 0; go_simp; exact hK _ _ (Or.inr (Below.refl _ _)) hst.glob (Sp.of_val rfl) trivial)
    case refine_3 => (refine ⟨_, rfl, Nat.le_of_ble_eq_true rfl, fun listed a W hst hn hdep K hK => ?_⟩; (have e1 := hst.oldOf hn 1 (by kernel_rfl) rfl; simp only [Array.getD_eq_getD_getElem?] at e1); go_simp; exact hK _ _ (Or.inr (Below.refl _ _)) hst.glob (Sp.of_val rfl) trivial)
    case refine_4 => (refine ⟨_, rfl, Nat.le_of_ble_eq_true rfl, fun listed a W hst hn hdep K hK => ?_⟩; (have dd := dep_of hdep 2 (by kernel_rfl); have e1 := hst.valOf 2 5 (by kernel_rfl) dd rfl; clear dd); have c := par_cell hst.glob 1; go_simp; exact hK _ _ (Or.inr (Below.refl _ _)) hst.glob (Sp.of_val rfl) trivial)
    case refine_5 => (refine ⟨_, rfl, Nat.le_of_ble_eq_true rfl, fun listed a W hst hn hdep K hK => ?_⟩; (have e1 := hst.oldOf hn 1 (by kernel_rfl) rfl; simp only [Array.getD_eq_getD_getElem?] at e1); go_simp; exact hK _ _ (Or.inr (Below.refl _ _)) hst.glob (Sp.of_val rfl) trivial)
    case refine_6 => (refine ⟨_, rfl, Nat.le_of_ble_eq_true rfl, fun listed a W hst hn hdep K hK => ?_⟩; (have dd := dep_of hdep 4 (by kernel_rfl); have e1 := hst.valOf 4 7 (by kernel_rfl) dd rfl; clear dd); have c := par_cell hst.glob 2; go_simp; exact hK _ _ (Or.inr (Below.refl _ _)) hst.glob (Sp.of_val rfl) trivial)
    case refine_7 => (refine ⟨_, rfl, Nat.le_of_ble_eq_true rfl, fun listed a W hst hn hdep K hK => ?_⟩; (have dd := dep_of hdep 5 (by kernel_rfl); have e1 := hst.valOf 5 8 (by kernel_rfl) dd rfl; clear dd); go_simp; exact hK _ _ (Or.inr (Below.refl _ _)) hst.glob (Sp.of_val rfl) trivial)
    case refine_8 => (refine ⟨_, rfl, Nat.le_of_ble_eq_true rfl, fun listed a W hst hn hdep K hK => ?_⟩; (have e1 := hst.oldOf hn 1 (by kernel_rfl) rfl; simp only [Array.getD_eq_getD_getElem?] at e1); go_simp; exact hK _ _ (Or.inr (Below.refl _ _)) hst.glob (Sp.of_val rfl) trivial)
    case refine_9 => (refine ⟨_, rfl, Nat.le_of_ble_eq_true rfl, fun listed a W hst hn hdep K hK => ?_⟩; (have dd := dep_of hdep 7 (by kernel_rfl); have e1 := hst.valOf 7 10 (by kernel_rfl) dd rfl; clear dd); have c := par_cell hst.glob 3; go_simp; exact hK _ _ (Or.inr (Below.refl _ _)) hst.glob (Sp.of_val rfl) trivial)
    case refine_10 => (refine ⟨_, rfl, Nat.le_of_ble_eq_true rfl, fun listed a W hst hn hdep K hK => ?_⟩; (have dd := dep_of hdep 8 (by kernel_rfl); have e1 := hst.valOf 8 11 (by kernel_rfl) dd rfl; clear dd); go_simp; exact hK _ _ (Or.inr (Below.refl _ _)) hst.glob (Sp.of_val rfl) trivial)
    case refine_11 => (refine ⟨_, rfl, Nat.le_of_ble_eq_true rfl, fun listed a W hst hn hdep K hK => ?_⟩; (have e1 := hst.oldOf hn 1 (by kernel_rfl) rfl; simp only [Array.getD_eq_getD_getElem?] at e1); go_simp; exact hK _ _ (Or.inr (Below.refl _ _)) hst.glob (Sp.of_val rfl) trivial)
    case refine_12 => (refine ⟨_, rfl, Nat.le_of_ble_eq_true rfl, fun listed a W hst hn hdep K hK => ?_⟩; (have dd := dep_of hdep 10 (by kernel_rfl); have e1 := hst.valOf 10 13 (by kernel_rfl) dd rfl; clear dd); have c := par_cell hst.glob 4; go_simp; exact hK _ _ (Or.inr (Below.refl _ _)) hst.glob (Sp.of_val rfl) trivial)
    case refine_13 =>
      refine ⟨_, rfl, Nat.le_of_ble_eq_true rfl, fun listed a W hst hn hdep K hK => ?_⟩
      (have dd := dep_of hdep 11 (by kernel_rfl); have e1 := hst.valOf 11 14 (by kernel_rfl) dd rfl; clear dd)
      go_simp
      go_wp2_with (go_at_call 92; refine (HB.out _).mono ?_; rintro e w1 ⟨rfl, rfl⟩)
      exact hK _ _ (Or.inr (Below.refl _ _)) hst.glob (Sp.of_val rfl) trivial
    case refine_14 =>
      refine ⟨_, rfl, Nat.le_of_ble_eq_true rfl, fun listed a W hst hn hdep K hK => ?_⟩
      (have dd := dep_of hdep 1 (by kernel_rfl); have e4 := hst.valOf 1 4 (by kernel_rfl) dd rfl; clear dd)
      (have dd := dep_of hdep 3 (by kernel_rfl); have e6 := hst.valOf 3 6 (by kernel_rfl) dd rfl; clear dd)
      (have dd := dep_of hdep 6 (by kernel_rfl); have e9 := hst.valOf 6 9 (by kernel_rfl) dd rfl; clear dd)
      (have dd := dep_of hdep 9 (by kernel_rfl); have e12 := hst.valOf 9 12 (by kernel_rfl) dd rfl; clear dd)
      (have dd := dep_of hdep 12 (by kernel_rfl); have e15 := hst.valOf 12 15 (by kernel_rfl) dd rfl; clear dd)
      go_simp
      have hb : Below W.heap.size W (W.alloc (.cells #[.int .u64 s, .int .u64 l, .int .u64 z, .int .u64 y, .int .u64 (bn : Int)] 25)) := (Below.refl _ _).alloc (Nat.le_refl _) _
      exact hK _ _ (Or.inr hb) (hst.glob.trans (Below.mono hb hst.glob.size)) (Sp.of_row rfl (lit_own (n := 5) hst.glob rfl (by unfold maxLen; omega) rfl)) trivial
    case refine_15 =>
      refine ⟨_, rfl, Nat.le_of_ble_eq_true rfl, fun listed a W hst hn hdep K hK => ?_⟩
      (have dd := dep_of hdep 13 (by kernel_rfl); have e1 := hst.rowOf hn 13 16 (by kernel_rfl) dd (by kernel_rfl) rfl; clear dd)
      go_simp
      exact hK _ _ (Or.inr (Below.refl _ _)) hst.glob (Sp.of_row rfl e1.1) trivial
  case refine_3 =>
    rintro ⟨tm, df⟩ w' listed hl hst
    obtain rfl : df = [] := hst.defers
    have hr := hst.rowEnd 14 2 (by kernel_rfl) (hl 14 (Nat.le_of_ble_eq_true rfl)) (by kernel_rfl) rfl
    have hw := par_below hst.glob
    clear hst hl
    go_wp2_with fail
    go_ret
    exact ⟨_, rfl, by unfold OwnN; rw [HK.out, HL.out]; simpa using hr.base (base' := w.heap.size) (by simp), hw⟩

end Go.Proofs.YthdagjlgfffpbaaGreat

/-
  Layer 5 (conf): the reference's keys of partitions and ports. By the verifier.
-/
set_option linter.unusedVariables false
namespace Go.Proofs.YthdagjlgfffpbaaGreat
open Go.RowKit

/-- Two numbers behind a text behind one. -/
theorem PartR.key_map (p : PartR) : p.key.map U64 = ([.int .u64 (p.id : Int)] ++ (textN p.name).map U64) ++ [.int .u64 (p.period : Int), .int .u64 (p.dur : Int)] := by
  simp [PartR.key, U64]
theorem PortR.key_map (p : PortR) : p.key.map U64 = ([.int .u64 (p.id : Int), .int .u64 (p.part : Int)] ++ (textN p.name).map U64) ++ [.int .u64 (bitN p.out : Int), .int .u64 (bitN p.que : Int), .int .u64 (p.size : Int)] := by
  simp [PortR.key, U64]

set_option maxHeartbeats 4000000 in
theorem partition_ok (p : PartR) (hp : p.ok) (hn : p.name.size ≤ 1000) (w : World) :
    Calls Tryz.prog 66 #[.agg #[.int .u16 (p.id : Int), .string p.name, .int .u64 (p.period : Int), .int .u64 (p.dur : Int)]] w fun e w' => NumRes w p.key e w' := by
  obtain ⟨h1, -, h3, h4⟩ := hp
  have HK := Lib.hid p.key_map
  have HL : Hid (p.key.length = 1 + (textN p.name).length + 2) := Lib.hid (by simp [PartR.key]; omega)
  have HT := Lib.hid (text_ok p.name hn)
  have hz : (bytesOf p.name).length = p.name.size := (Str.of p.name).size.symm
  have HZ : Hid (0 < (textN p.name).length ∧ (textN p.name).length ≤ 1001) := Lib.hid (by simp [textN]; omega)
  generalize p.key = key at *
  generalize p.name = nm at *
  generalize textN nm = t at *
  generalize hs : (p.id : Int) = s at *
  generalize hl : (p.period : Int) = l at *
  generalize hy : (p.dur : Int) = y at *
  have hs0 : 0 ≤ s := by omega
  have hs1 : s < 65536 := by omega
  have hw0 : IntKind.u64.wrap s = s := IntWalk.u64_in _ (by omega)
  clear hs hl hy h1 h3 h4 hz hn
  obtain ⟨tl, htl⟩ : ∃ tl, tl = t.length := ⟨_, rfl⟩
  rw [← htl] at HL HZ
  obtain ⟨tm, htm⟩ : ∃ tm, tm = t.map U64 := ⟨_, rfl⟩
  rw [← htm] at HK
  go_enter Tryz.func66, Tryz.ntmps66
  go_wp2_with fail
  refine region_inv [13] (w.alloc (.cells #[.int .u16 s, .string nm, .int .u64 l, .int .u64 y] 36)) [(3, Sp.val (.pointer (some ⟨w.heap.size, 0, none⟩))), (4, Sp.val (.int .u16 s)), (5, Sp.val (.int .u64 s)), (6, Sp.lit 25 1 1 [.int .u64 s]), (7, Sp.val (.pointer (some ⟨w.heap.size, 1, none⟩))), (8, Sp.val (.string nm)), (9, Sp.row 25 1 tl tm), (10, Sp.row 25 1 (1 + tl) ([.int .u64 s] ++ tm)),
      (11, Sp.val (.pointer (some ⟨w.heap.size, 2, none⟩))), (12, Sp.val (.int .u64 l)), (13, Sp.val (.pointer (some ⟨w.heap.size, 3, none⟩))), (14, Sp.val (.int .u64 y)), (15, Sp.row 25 1 2 [.int .u64 l, .int .u64 y]), (16, Sp.row 25 1 (1 + tl + 2) (([.int .u64 s] ++ tm) ++ [.int .u64 l, .int .u64 y])),
      (2, Sp.row 25 1 (1 + tl + 2) (([.int .u64 s] ++ tm) ++ [.int .u64 l, .int .u64 y]))] [6, 9, 10, 15, 16, 2] rfl (by kernel_rfl) ?_ (by kernel_rfl) ?_ ?_
  case refine_1 => exact (Below.refl _ _).drew
  case refine_2 =>
    refine ⟨?_, ?_, ?_, ?_, ?_, ?_, ?_, ?_, ?_, ?_, ?_, ?_, ?_, ?_, ?_, trivial⟩
    case refine_1 => (refine ⟨_, rfl, Nat.le_of_ble_eq_true rfl, fun listed a W hst hn hdep K hK => ?_⟩; (have e1 := hst.oldOf hn 1 (by kernel_rfl) rfl; simp only [Array.getD_eq_getD_getElem?] at e1); go_simp; exact hK _ _ (Or.inr (Below.refl _ _)) hst.glob (Sp.of_val rfl) trivial)
    case refine_2 => (refine ⟨_, rfl, Nat.le_of_ble_eq_true rfl, fun listed a W hst hn hdep K hK => ?_⟩; (have dd := dep_of hdep 0 (by kernel_rfl); have e1 := hst.valOf 0 3 (by kernel_rfl) dd rfl; clear dd); have c := par_cell hst.glob 0; go_simp; exact hK _ _ (Or.inr (Below.refl _ _)) hst.glob (Sp.of_val rfl) trivial)
    case refine_3 => (refine ⟨_, rfl, Nat.le_of_ble_eq_true rfl, fun listed a W hst hn hdep K hK => ?_⟩; (have dd := dep_of hdep 1 (by kernel_rfl); have e1 := hst.valOf 1 4 (by kernel_rfl) dd rfl; clear dd); go_simp; exact hK _ _ (Or.inr (Below.refl _ _)) hst.glob (Sp.of_val rfl) trivial)
    case refine_4 =>
      refine ⟨_, rfl, Nat.le_of_ble_eq_true rfl, fun listed a W hst hn hdep K hK => ?_⟩
      (have dd := dep_of hdep 2 (by kernel_rfl); have e1 := hst.valOf 2 5 (by kernel_rfl) dd rfl; clear dd)
      go_simp
      have hb : Below W.heap.size W (W.alloc (.cells #[.int .u64 s] 25)) := (Below.refl _ _).alloc (Nat.le_refl _) _
      exact hK _ _ (Or.inr hb) (hst.glob.trans (Below.mono hb hst.glob.size)) (Sp.of_lit rfl (lit_own (n := 1) hst.glob rfl (by unfold maxLen; omega) rfl) ⟨_, rfl⟩) trivial
    case refine_5 => (refine ⟨_, rfl, Nat.le_of_ble_eq_true rfl, fun listed a W hst hn hdep K hK => ?_⟩; (have e1 := hst.oldOf hn 1 (by kernel_rfl) rfl; simp only [Array.getD_eq_getD_getElem?] at e1); go_simp; exact hK _ _ (Or.inr (Below.refl _ _)) hst.glob (Sp.of_val rfl) trivial)
    case refine_6 => (refine ⟨_, rfl, Nat.le_of_ble_eq_true rfl, fun listed a W hst hn hdep K hK => ?_⟩; (have dd := dep_of hdep 4 (by kernel_rfl); have e1 := hst.valOf 4 7 (by kernel_rfl) dd rfl; clear dd); have c := par_cell hst.glob 1; go_simp; exact hK _ _ (Or.inr (Below.refl _ _)) hst.glob (Sp.of_val rfl) trivial)
    case refine_7 =>
      refine ⟨_, rfl, Nat.le_of_ble_eq_true rfl, fun listed a W hst hn hdep K hK => ?_⟩
      (have dd := dep_of hdep 5 (by kernel_rfl); have e1 := hst.valOf 5 8 (by kernel_rfl) dd rfl; clear dd)
      go_simp
      go_wp2_with (go_at_call 91; refine (HT.out _).mono ?_; rintro e w1 ⟨v, rfl, ho, hb⟩)
      exact hK _ _ (Or.inr hb) (hst.glob.trans (Below.mono hb hst.glob.size)) (Sp.of_row rfl (by rw [htl, htm]; exact OwnC.base ho hst.glob.size)) trivial
    case refine_8 =>
      refine ⟨_, rfl, Nat.le_of_ble_eq_true rfl, fun listed a W hst hn hdep K hK => ?_⟩
      (have dd := dep_of hdep 3 (by kernel_rfl); have r6 := hst.rowOf hn 3 6 (by kernel_rfl) dd (by kernel_rfl) rfl; clear dd)
      (have dd := dep_of hdep 6 (by kernel_rfl); have r9 := hst.rowOf hn 6 9 (by kernel_rfl) dd (by kernel_rfl) rfl; clear dd)
      refine inv_append_full elem64 rfl 6 9 rfl _ 1 _ r6.1 (r6.2 rfl) tl _ r9.1.arg (by have := HZ.out.2; omega) hst.glob.size ?_
      intro v' w' ho hb
      exact hK _ _ (Or.inr hb) (hst.glob.trans (Below.mono hb hst.glob.size)) (Sp.of_row rfl ho) trivial
    case refine_9 => (refine ⟨_, rfl, Nat.le_of_ble_eq_true rfl, fun listed a W hst hn hdep K hK => ?_⟩; (have e1 := hst.oldOf hn 1 (by kernel_rfl) rfl; simp only [Array.getD_eq_getD_getElem?] at e1); go_simp; exact hK _ _ (Or.inr (Below.refl _ _)) hst.glob (Sp.of_val rfl) trivial)
    case refine_10 => (refine ⟨_, rfl, Nat.le_of_ble_eq_true rfl, fun listed a W hst hn hdep K hK => ?_⟩; (have dd := dep_of hdep 8 (by kernel_rfl); have e1 := hst.valOf 8 11 (by kernel_rfl) dd rfl; clear dd); have c := par_cell hst.glob 2; go_simp; exact hK _ _ (Or.inr (Below.refl _ _)) hst.glob (Sp.of_val rfl) trivial)
    case refine_11 => (refine ⟨_, rfl, Nat.le_of_ble_eq_true rfl, fun listed a W hst hn hdep K hK => ?_⟩; (have e1 := hst.oldOf hn 1 (by kernel_rfl) rfl; simp only [Array.getD_eq_getD_getElem?] at e1); go_simp; exact hK _ _ (Or.inr (Below.refl _ _)) hst.glob (Sp.of_val rfl) trivial)
    case refine_12 => (refine ⟨_, rfl, Nat.le_of_ble_eq_true rfl, fun listed a W hst hn hdep K hK => ?_⟩; (have dd := dep_of hdep 10 (by kernel_rfl); have e1 := hst.valOf 10 13 (by kernel_rfl) dd rfl; clear dd); have c := par_cell hst.glob 3; go_simp; exact hK _ _ (Or.inr (Below.refl _ _)) hst.glob (Sp.of_val rfl) trivial)
    case refine_13 =>
      refine ⟨_, rfl, Nat.le_of_ble_eq_true rfl, fun listed a W hst hn hdep K hK => ?_⟩
      (have dd := dep_of hdep 9 (by kernel_rfl); have e12 := hst.valOf 9 12 (by kernel_rfl) dd rfl; clear dd)
      (have dd := dep_of hdep 11 (by kernel_rfl); have e14 := hst.valOf 11 14 (by kernel_rfl) dd rfl; clear dd)
      go_simp
      have hb : Below W.heap.size W (W.alloc (.cells #[.int .u64 l, .int .u64 y] 25)) := (Below.refl _ _).alloc (Nat.le_refl _) _
      exact hK _ _ (Or.inr hb) (hst.glob.trans (Below.mono hb hst.glob.size)) (Sp.of_row rfl (lit_own (n := 2) hst.glob rfl (by unfold maxLen; omega) rfl)) trivial
    case refine_14 =>
      refine ⟨_, rfl, Nat.le_of_ble_eq_true rfl, fun listed a W hst hn hdep K hK => ?_⟩
      (have dd := dep_of hdep 7 (by kernel_rfl); have r10 := hst.rowOf hn 7 10 (by kernel_rfl) dd (by kernel_rfl) rfl; clear dd)
      (have dd := dep_of hdep 12 (by kernel_rfl); have r15 := hst.rowOf hn 12 15 (by kernel_rfl) dd (by kernel_rfl) rfl; clear dd)
      refine inv_append elem64 rfl 10 15 rfl _ (1 + tl) _ r10.1 2 _ r15.1.arg (by intro u hu; simp at hu; rcases hu with rfl | rfl <;> rfl) (by have := HZ.out.2; omega) hst.glob.size ?_
      intro v' w' ho hg
      exact hK _ _ (Or.inl (by simp)) (grown_belowc hst.glob r10.1 hg hst.glob.size) (Sp.of_row rfl ho) trivial
    case refine_15 =>
      refine ⟨_, rfl, Nat.le_of_ble_eq_true rfl, fun listed a W hst hn hdep K hK => ?_⟩
      (have dd := dep_of hdep 13 (by kernel_rfl); have r16 := hst.rowOf hn 13 16 (by kernel_rfl) dd (by kernel_rfl) rfl; clear dd)
      go_simp
      exact hK _ _ (Or.inr (Below.refl _ _)) hst.glob (Sp.of_row rfl r16.1) trivial
  case refine_3 =>
    rintro ⟨tm, df⟩ w' listed hl hst
    obtain rfl : df = [] := hst.defers
    have hr := hst.rowEnd 14 2 (by kernel_rfl) (hl 14 (Nat.le_of_ble_eq_true rfl)) (by kernel_rfl) rfl
    have hw := par_below hst.glob
    clear hst hl
    go_wp2_with fail
    go_ret
    exact ⟨_, rfl, by unfold OwnN; rw [HK.out, HL.out]; simpa using hr.base (base' := w.heap.size) (by simp), hw⟩

end Go.Proofs.YthdagjlgfffpbaaGreat

/-
  Layer 5 (conf): the reference's keys of ports and channels. By the verifier.
-/
set_option linter.unusedVariables false
namespace Go.Proofs.YthdagjlgfffpbaaGreat
open Go.RowKit

set_option maxHeartbeats 4000000 in
theorem port_ok (p : PortR) (hp : p.ok) (hn : p.name.size ≤ 1000) (w : World) :
    Calls Tryz.prog 69 #[.agg #[.int .u16 (p.id : Int), .int .u16 (p.part : Int), .string p.name, .bool p.out, .bool p.que, .int .u32 (p.size : Int)]] w fun e w' => NumRes w p.key e w' := by
  obtain ⟨h1, h2, -, h4⟩ := hp
  have HK := Lib.hid p.key_map
  have HL : Hid (p.key.length = 2 + (textN p.name).length + 3) := Lib.hid (by simp [PortR.key]; omega)
  have HT := Lib.hid (text_ok p.name hn)
  have HB1 := Lib.hid (bit_ok p.out)
  have HB2 := Lib.hid (bit_ok p.que)
  have hz : (bytesOf p.name).length = p.name.size := (Str.of p.name).size.symm
  have HZ : Hid (0 < (textN p.name).length ∧ (textN p.name).length ≤ 1001) := Lib.hid (by simp [textN]; omega)
  generalize p.key = key at *
  generalize p.name = nm at *
  generalize p.out = po at *
  generalize p.que = pq at *
  generalize textN nm = t at *
  generalize hbo : (bitN po : Int) = bo at *
  generalize hbq : (bitN pq : Int) = bq at *
  generalize hs : (p.id : Int) = s at *
  generalize hl : (p.part : Int) = l at *
  generalize hy : (p.size : Int) = y at *
  have hs0 : 0 ≤ s := by omega
  have hs1 : s < 65536 := by omega
  have hw0 : IntKind.u64.wrap s = s := IntWalk.u64_in _ (by omega)
  have hl0 : 0 ≤ l := by omega
  have hl1 : l < 65536 := by omega
  have hw1 : IntKind.u64.wrap l = l := IntWalk.u64_in _ (by omega)
  have hy0 : 0 ≤ y := by omega
  have hy1 : y < 4294967296 := by omega
  have hw2 : IntKind.u64.wrap y = y := IntWalk.u64_in _ (by omega)
  clear hs hl hy h1 h2 h4 hz hn
  obtain ⟨tl, htl⟩ : ∃ tl, tl = t.length := ⟨_, rfl⟩
  rw [← htl] at HL HZ
  obtain ⟨tm, htm⟩ : ∃ tm, tm = t.map U64 := ⟨_, rfl⟩
  rw [← htm] at HK
  go_enter Tryz.func69, Tryz.ntmps69
  go_wp2_with fail
  refine region_inv [21] (w.alloc (.cells #[.int .u16 s, .int .u16 l, .string nm, .bool po, .bool pq, .int .u32 y] 39)) [(3, Sp.val (.pointer (some ⟨w.heap.size, 0, none⟩))), (4, Sp.val (.int .u16 s)), (5, Sp.val (.int .u64 s)), (6, Sp.val (.pointer (some ⟨w.heap.size, 1, none⟩))), (7, Sp.val (.int .u16 l)), (8, Sp.val (.int .u64 l)), (9, Sp.lit 25 1 2 [.int .u64 s, .int .u64 l]), (10, Sp.val (.pointer (some ⟨w.heap.size, 2, none⟩))), (11, Sp.val (.string nm)), (12, Sp.row 25 1 tl tm), (13, Sp.row 25 1 (2 + tl) ([.int .u64 s, .int .u64 l] ++ tm)), (14, Sp.val (.pointer (some ⟨w.heap.size, 3, none⟩))), (15, Sp.val (.bool po)), (16, Sp.val (.int .u64 bo)), (17, Sp.val (.pointer (some ⟨w.heap.size, 4, none⟩))), (18, Sp.val (.bool pq)), (19, Sp.val (.int .u64 bq)), (20, Sp.val (.pointer (some ⟨w.heap.size, 5, none⟩))), (21, Sp.val (.int .u32 y)), (22, Sp.val (.int .u64 y)), (23, Sp.row 25 1 3 [.int .u64 bo, .int .u64 bq, .int .u64 y]), (24, Sp.row 25 1 (2 + tl + 3) (([.int .u64 s, .int .u64 l] ++ tm) ++ [.int .u64 bo, .int .u64 bq, .int .u64 y])), (2, Sp.row 25 1 (2 + tl + 3) (([.int .u64 s, .int .u64 l] ++ tm) ++ [.int .u64 bo, .int .u64 bq, .int .u64 y]))] [9, 12, 13, 23, 24, 2] rfl (by kernel_rfl) ?_ (by kernel_rfl) ?_ ?_
  case refine_1 => exact (Below.refl _ _).drew
  case refine_2 =>
    refine ⟨?_, ?_, ?_, ?_, ?_, ?_, ?_, ?_, ?_, ?_, ?_, ?_, ?_, ?_, ?_, ?_, ?_, ?_, ?_, ?_, ?_, ?_, ?_, trivial⟩
    case refine_1 => (refine ⟨_, rfl, Nat.le_of_ble_eq_true rfl, fun listed a W hst hn hdep K hK => ?_⟩; (have e1 := hst.oldOf hn 1 (by kernel_rfl) rfl; simp only [Array.getD_eq_getD_getElem?] at e1); go_simp; exact hK _ _ (Or.inr (Below.refl _ _)) hst.glob (Sp.of_val rfl) trivial)
    case refine_2 => (refine ⟨_, rfl, Nat.le_of_ble_eq_true rfl, fun listed a W hst hn hdep K hK => ?_⟩; (have dd := dep_of hdep 0 (by kernel_rfl); have e1 := hst.valOf 0 3 (by kernel_rfl) dd rfl; clear dd); have c := par_cell hst.glob 0; go_simp; exact hK _ _ (Or.inr (Below.refl _ _)) hst.glob (Sp.of_val rfl) trivial)
    case refine_3 => (refine ⟨_, rfl, Nat.le_of_ble_eq_true rfl, fun listed a W hst hn hdep K hK => ?_⟩; (have dd := dep_of hdep 1 (by kernel_rfl); have e1 := hst.valOf 1 4 (by kernel_rfl) dd rfl; clear dd); go_simp; exact hK _ _ (Or.inr (Below.refl _ _)) hst.glob (Sp.of_val rfl) trivial)
    case refine_4 => (refine ⟨_, rfl, Nat.le_of_ble_eq_true rfl, fun listed a W hst hn hdep K hK => ?_⟩; (have e1 := hst.oldOf hn 1 (by kernel_rfl) rfl; simp only [Array.getD_eq_getD_getElem?] at e1); go_simp; exact hK _ _ (Or.inr (Below.refl _ _)) hst.glob (Sp.of_val rfl) trivial)
    case refine_5 => (refine ⟨_, rfl, Nat.le_of_ble_eq_true rfl, fun listed a W hst hn hdep K hK => ?_⟩; (have dd := dep_of hdep 3 (by kernel_rfl); have e1 := hst.valOf 3 6 (by kernel_rfl) dd rfl; clear dd); have c := par_cell hst.glob 1; go_simp; exact hK _ _ (Or.inr (Below.refl _ _)) hst.glob (Sp.of_val rfl) trivial)
    case refine_6 => (refine ⟨_, rfl, Nat.le_of_ble_eq_true rfl, fun listed a W hst hn hdep K hK => ?_⟩; (have dd := dep_of hdep 4 (by kernel_rfl); have e1 := hst.valOf 4 7 (by kernel_rfl) dd rfl; clear dd); go_simp; exact hK _ _ (Or.inr (Below.refl _ _)) hst.glob (Sp.of_val rfl) trivial)
    case refine_7 =>
      refine ⟨_, rfl, Nat.le_of_ble_eq_true rfl, fun listed a W hst hn hdep K hK => ?_⟩
      (have dd := dep_of hdep 2 (by kernel_rfl); have e5 := hst.valOf 2 5 (by kernel_rfl) dd rfl; clear dd)
      (have dd := dep_of hdep 5 (by kernel_rfl); have e8 := hst.valOf 5 8 (by kernel_rfl) dd rfl; clear dd)
      go_simp
      have hb : Below W.heap.size W (W.alloc (.cells #[.int .u64 s, .int .u64 l] 25)) := (Below.refl _ _).alloc (Nat.le_refl _) _
      exact hK _ _ (Or.inr hb) (hst.glob.trans (Below.mono hb hst.glob.size)) (Sp.of_lit rfl (lit_own (n := 2) hst.glob rfl (by unfold maxLen; omega) rfl) ⟨_, rfl⟩) trivial
    case refine_8 => (refine ⟨_, rfl, Nat.le_of_ble_eq_true rfl, fun listed a W hst hn hdep K hK => ?_⟩; (have e1 := hst.oldOf hn 1 (by kernel_rfl) rfl; simp only [Array.getD_eq_getD_getElem?] at e1); go_simp; exact hK _ _ (Or.inr (Below.refl _ _)) hst.glob (Sp.of_val rfl) trivial)
    case refine_9 => (refine ⟨_, rfl, Nat.le_of_ble_eq_true rfl, fun listed a W hst hn hdep K hK => ?_⟩; (have dd := dep_of hdep 7 (by kernel_rfl); have e1 := hst.valOf 7 10 (by kernel_rfl) dd rfl; clear dd); have c := par_cell hst.glob 2; go_simp; exact hK _ _ (Or.inr (Below.refl _ _)) hst.glob (Sp.of_val rfl) trivial)
    case refine_10 =>
      refine ⟨_, rfl, Nat.le_of_ble_eq_true rfl, fun listed a W hst hn hdep K hK => ?_⟩
      (have dd := dep_of hdep 8 (by kernel_rfl); have e1 := hst.valOf 8 11 (by kernel_rfl) dd rfl; clear dd)
      go_simp
      go_wp2_with (go_at_call 91; refine (HT.out _).mono ?_; rintro e w1 ⟨v, rfl, ho, hb⟩)
      exact hK _ _ (Or.inr hb) (hst.glob.trans (Below.mono hb hst.glob.size)) (Sp.of_row rfl (by rw [htl, htm]; exact OwnC.base ho hst.glob.size)) trivial
    case refine_11 =>
      refine ⟨_, rfl, Nat.le_of_ble_eq_true rfl, fun listed a W hst hn hdep K hK => ?_⟩
      (have dd := dep_of hdep 6 (by kernel_rfl); have r6 := hst.rowOf hn 6 9 (by kernel_rfl) dd (by kernel_rfl) rfl; clear dd)
      (have dd := dep_of hdep 9 (by kernel_rfl); have r9 := hst.rowOf hn 9 12 (by kernel_rfl) dd (by kernel_rfl) rfl; clear dd)
      refine inv_append_full elem64 rfl 9 12 rfl _ 2 _ r6.1 (r6.2 rfl) tl _ r9.1.arg (by have := HZ.out.2; omega) hst.glob.size ?_
      intro v' w' ho hb
      exact hK _ _ (Or.inr hb) (hst.glob.trans (Below.mono hb hst.glob.size)) (Sp.of_row rfl ho) trivial
    case refine_12 => (refine ⟨_, rfl, Nat.le_of_ble_eq_true rfl, fun listed a W hst hn hdep K hK => ?_⟩; (have e1 := hst.oldOf hn 1 (by kernel_rfl) rfl; simp only [Array.getD_eq_getD_getElem?] at e1); go_simp; exact hK _ _ (Or.inr (Below.refl _ _)) hst.glob (Sp.of_val rfl) trivial)
    case refine_13 => (refine ⟨_, rfl, Nat.le_of_ble_eq_true rfl, fun listed a W hst hn hdep K hK => ?_⟩; (have dd := dep_of hdep 11 (by kernel_rfl); have e1 := hst.valOf 11 14 (by kernel_rfl) dd rfl; clear dd); have c := par_cell hst.glob 3; go_simp; exact hK _ _ (Or.inr (Below.refl _ _)) hst.glob (Sp.of_val rfl) trivial)
    case refine_14 =>
      refine ⟨_, rfl, Nat.le_of_ble_eq_true rfl, fun listed a W hst hn hdep K hK => ?_⟩
      (have dd := dep_of hdep 12 (by kernel_rfl); have e1 := hst.valOf 12 15 (by kernel_rfl) dd rfl; clear dd)
      go_simp
      go_wp2_with (go_at_call 92; refine (HB1.out _).mono ?_; rintro e w1 ⟨rfl, rfl⟩)
      exact hK _ _ (Or.inr (Below.refl _ _)) hst.glob (Sp.of_val rfl) trivial
    case refine_15 => (refine ⟨_, rfl, Nat.le_of_ble_eq_true rfl, fun listed a W hst hn hdep K hK => ?_⟩; (have e1 := hst.oldOf hn 1 (by kernel_rfl) rfl; simp only [Array.getD_eq_getD_getElem?] at e1); go_simp; exact hK _ _ (Or.inr (Below.refl _ _)) hst.glob (Sp.of_val rfl) trivial)
    case refine_16 => (refine ⟨_, rfl, Nat.le_of_ble_eq_true rfl, fun listed a W hst hn hdep K hK => ?_⟩; (have dd := dep_of hdep 14 (by kernel_rfl); have e1 := hst.valOf 14 17 (by kernel_rfl) dd rfl; clear dd); have c := par_cell hst.glob 4; go_simp; exact hK _ _ (Or.inr (Below.refl _ _)) hst.glob (Sp.of_val rfl) trivial)
    case refine_17 =>
      refine ⟨_, rfl, Nat.le_of_ble_eq_true rfl, fun listed a W hst hn hdep K hK => ?_⟩
      (have dd := dep_of hdep 15 (by kernel_rfl); have e1 := hst.valOf 15 18 (by kernel_rfl) dd rfl; clear dd)
      go_simp
      go_wp2_with (go_at_call 92; refine (HB2.out _).mono ?_; rintro e w1 ⟨rfl, rfl⟩)
      exact hK _ _ (Or.inr (Below.refl _ _)) hst.glob (Sp.of_val rfl) trivial
    case refine_18 => (refine ⟨_, rfl, Nat.le_of_ble_eq_true rfl, fun listed a W hst hn hdep K hK => ?_⟩; (have e1 := hst.oldOf hn 1 (by kernel_rfl) rfl; simp only [Array.getD_eq_getD_getElem?] at e1); go_simp; exact hK _ _ (Or.inr (Below.refl _ _)) hst.glob (Sp.of_val rfl) trivial)
    case refine_19 => (refine ⟨_, rfl, Nat.le_of_ble_eq_true rfl, fun listed a W hst hn hdep K hK => ?_⟩; (have dd := dep_of hdep 17 (by kernel_rfl); have e1 := hst.valOf 17 20 (by kernel_rfl) dd rfl; clear dd); have c := par_cell hst.glob 5; go_simp; exact hK _ _ (Or.inr (Below.refl _ _)) hst.glob (Sp.of_val rfl) trivial)
    case refine_20 => (refine ⟨_, rfl, Nat.le_of_ble_eq_true rfl, fun listed a W hst hn hdep K hK => ?_⟩; (have dd := dep_of hdep 18 (by kernel_rfl); have e1 := hst.valOf 18 21 (by kernel_rfl) dd rfl; clear dd); go_simp; exact hK _ _ (Or.inr (Below.refl _ _)) hst.glob (Sp.of_val rfl) trivial)
    case refine_21 =>
      refine ⟨_, rfl, Nat.le_of_ble_eq_true rfl, fun listed a W hst hn hdep K hK => ?_⟩
      (have dd := dep_of hdep 13 (by kernel_rfl); have e16 := hst.valOf 13 16 (by kernel_rfl) dd rfl; clear dd)
      (have dd := dep_of hdep 16 (by kernel_rfl); have e19 := hst.valOf 16 19 (by kernel_rfl) dd rfl; clear dd)
      (have dd := dep_of hdep 19 (by kernel_rfl); have e22 := hst.valOf 19 22 (by kernel_rfl) dd rfl; clear dd)
      go_simp
      have hb : Below W.heap.size W (W.alloc (.cells #[.int .u64 bo, .int .u64 bq, .int .u64 y] 25)) := (Below.refl _ _).alloc (Nat.le_refl _) _
      exact hK _ _ (Or.inr hb) (hst.glob.trans (Below.mono hb hst.glob.size)) (Sp.of_row rfl (lit_own (n := 3) hst.glob rfl (by unfold maxLen; omega) rfl)) trivial
    case refine_22 =>
      refine ⟨_, rfl, Nat.le_of_ble_eq_true rfl, fun listed a W hst hn hdep K hK => ?_⟩
      (have dd := dep_of hdep 10 (by kernel_rfl); have r10 := hst.rowOf hn 10 13 (by kernel_rfl) dd (by kernel_rfl) rfl; clear dd)
      (have dd := dep_of hdep 20 (by kernel_rfl); have r15 := hst.rowOf hn 20 23 (by kernel_rfl) dd (by kernel_rfl) rfl; clear dd)
      refine inv_append elem64 rfl 13 23 rfl _ (2 + tl) _ r10.1 3 _ r15.1.arg (by intro u hu; simp at hu; rcases hu with rfl | rfl | rfl <;> rfl) (by have := HZ.out.2; omega) hst.glob.size ?_
      intro v' w' ho hg
      exact hK _ _ (Or.inl (by simp)) (grown_belowc hst.glob r10.1 hg hst.glob.size) (Sp.of_row rfl ho) trivial
    case refine_23 =>
      refine ⟨_, rfl, Nat.le_of_ble_eq_true rfl, fun listed a W hst hn hdep K hK => ?_⟩
      (have dd := dep_of hdep 21 (by kernel_rfl); have r16 := hst.rowOf hn 21 24 (by kernel_rfl) dd (by kernel_rfl) rfl; clear dd)
      go_simp
      exact hK _ _ (Or.inr (Below.refl _ _)) hst.glob (Sp.of_row rfl r16.1) trivial
  case refine_3 =>
    rintro ⟨tm, df⟩ w' listed hl hst
    obtain rfl : df = [] := hst.defers
    have hr := hst.rowEnd 22 2 (by kernel_rfl) (hl 22 (Nat.le_of_ble_eq_true rfl)) (by kernel_rfl) rfl
    have hw := par_below hst.glob
    clear hst hl
    go_wp2_with fail
    go_ret
    exact ⟨_, rfl, by unfold OwnN; rw [HK.out, HL.out]; simpa using hr.base (base' := w.heap.size) (by simp), hw⟩

end Go.Proofs.YthdagjlgfffpbaaGreat

/-
  Layer 5 (conf): the reference's keys of channels. By the verifier.
-/
set_option linter.unusedVariables false
namespace Go.Proofs.YthdagjlgfffpbaaGreat
open Go.RowKit

/-- The cells of the call's parameter stand. -/
def Par (w : World) (C : Obj) (W : World) : Prop := Below w.heap.size w W ∧ W.heap[w.heap.size]? = some C
theorem Par.lt {w W : World} {C : Obj} (h : Par w C W) : w.heap.size < W.heap.size := by
  rcases Nat.lt_or_ge w.heap.size W.heap.size with h1 | h1
  · exact h1
  · have := h.2; rw [Array.getElem?_eq_none h1] at this; cases this
theorem Par.below {w W W' : World} {C : Obj} (h : Par w C W) (hb : Below W.heap.size W W') : Par w C W' := ⟨h.1.trans (hb.mono h.1.size), by rw [hb.block _ h.lt]; exact h.2⟩
theorem Par.start0 (w : World) (C : Obj) : Par w C (w.alloc C) := ⟨(Below.refl _ _).alloc (Nat.le_refl _) _, heap_alloc_new w _⟩

/-- The cell of destination k. -/
theorem DestsIn.at {w wr : World} {x : ChanC} (h : DestsIn w x) (hb : Below w.heap.size w wr) {k : Nat} (hk : k < x.r.dests.length) : ∃ b o, x.A = some ⟨b, o, none⟩ ∧ wr.cell? ⟨b, o + k, none⟩ = some (.int .u16 ((x.r.dests.getD k 0 : Nat) : Int)) := by
  obtain ⟨b, o, hA, -, hc⟩ := (h.cells.below (Nat.le_refl _) hb).some (by rw [List.length_map]; omega)
  refine ⟨b, o, hA, ?_⟩
  rw [hc k (U16 (x.r.dests.getD k 0)) (by rw [List.getElem?_map, List.getElem?_eq_getElem hk]; simp [List.getD, hk])]
  rfl

set_option maxHeartbeats 4000000 in
theorem channel_ok (x : ChanC) (hp : x.r.ok) (hn : x.r.dests.length ≤ 1000) (w : World) (hD : DestsIn w x) :
    Calls Tryz.prog 70 #[.agg #[.int .u16 (x.r.id : Int), .int .u16 (x.r.src : Int), .slice x.A x.r.dests.length x.cap]] w fun e w' => NumRes w x.r.key e w' := by
  obtain ⟨h1, h2, h3⟩ := hp
  have HD := Lib.hid (fun (wr : World) (hb : Below w.heap.size w wr) (k : Nat) (hk : k < x.r.dests.length) => hD.at hb hk)
  have HK : Hid (x.r.key = x.r.id :: x.r.src :: x.r.dests) := Lib.hid rfl
  generalize x.r.key = key at *
  have H3 := Lib.hid h3
  have HN := Lib.hid hn
  clear h3 hD hn
  obtain ⟨⟨id, src, ds⟩, A, cp⟩ := x
  dsimp only at *
  obtain ⟨C, hC⟩ : ∃ C : Obj, C = .cells #[.int .u16 (id : Int), .int .u16 (src : Int), .slice A ds.length cp] 34 := ⟨_, rfl⟩
  have HP := Lib.hid (Par.start0 w C)
  have HO : Hid (OwnN ((w.alloc C).alloc (.cells #[.int .u64 (id : Int), .int .u64 (src : Int)] 25)) (w.alloc C).heap.size (.slice (some ⟨w.heap.size + 1, 0, none⟩) 2 2) (id :: src :: ds.take 0) ∧ Below (w.alloc C).heap.size (w.alloc C) ((w.alloc C).alloc (.cells #[.int .u64 (id : Int), .int .u64 (src : Int)] 25))) := Lib.hid (by
    have := num_lit (w.alloc C) [id, src] #[.int .u64 (id : Int), .int .u64 (src : Int)] rfl (by simp) (w.alloc C) (Below.refl _ _) (w.heap.size + 1) (by simp)
    exact this)
  have hHs : (w.alloc C).heap.size = w.heap.size + 1 := by simp
  have HHS := Lib.hid hHs
  clear hHs
  subst hC
  have hw0 : IntKind.u64.wrap (id : Int) = (id : Int) := IntWalk.u64_in _ (by omega)
  have hw1 : IntKind.u64.wrap (src : Int) = (src : Int) := IntWalk.u64_in _ (by omega)
  go_enter Tryz.func70, Tryz.ntmps70
  go_wp2_with fail
  go_loopw [3, 4] (fun v i wr => ∃ (k : Nat) (sv : Value), sv = v ∧ k ≤ ds.length ∧ i = .int .i64 (k : Int) ∧ Hid (OwnN wr (w.heap.size + 1) sv (id :: src :: ds.take k) ∧ Par w (.cells #[.int .u16 (id : Int), .int .u16 (src : Int), .slice A ds.length cp] 34) wr ∧ Below (w.heap.size + 1) (w.alloc (.cells #[.int .u16 (id : Int), .int .u16 (src : Int), .slice A ds.length cp] 34)) wr)) (fun _ i _ => ds.length - (intOf i).toNat)
  case atStart => 
    have := HO.out
    rw [HHS.out] at this
    exact ⟨0, _, rfl, by omega, rfl, Lib.hid ⟨this.1, HP.out.below (by rw [HHS.out]; exact this.2), this.2⟩⟩
  case round =>
    obtain ⟨k, sv, rfl, hk, rfl, ho⟩ := hrel
    have c := cell_of_row wr _ 2 _ _ _ ho.out.2.1.2
    by_cases hlt : k < ds.length
    · have hki : (k : Int) < (ds.length : Int) := by omega
      have hk1 : (k : Int) ≤ 1000 := by have := HN.out; omega
      have hwk : wrap64 ((k : Int) + 1) = (k : Int) + 1 := by unfold wrap64; omega
      obtain ⟨b, o, rfl, hc⟩ := HD.out wr ho.out.2.1.1 k hlt
      have hx : ds.getD k 0 < 65536 := H3.out _ (by
        rw [List.getD, List.getElem?_eq_getElem hlt]
        exact List.getElem_mem hlt)
      have HX : Hid (id :: src :: ds.take (k + 1) = (id :: src :: ds.take k) ++ [ds.getD k 0]) := Lib.hid (by
        rw [List.take_succ_eq_append_getElem hlt]
        simp [List.getD, hlt])
      have HM : Hid ((id :: src :: ds.take k).length = 2 + k) := Lib.hid (by rw [List.length_cons, List.length_cons, List.length_take]; omega)
      generalize ds.getD k 0 = y at *
      have hz1 : IntKind.u64.wrap (y : Int) = (y : Int) := IntWalk.u64_in _ (by omega)
      have hB1 : w.heap.size + 1 ≤ wr.heap.size := ho.out.2.1.lt
      have HL := Lib.hid (litN ho.out.1 (ho.out.2.2) hB1 [y] #[.int .u64 (y : Int)] rfl)
      have HB1 := Lib.hid hB1
      clear hB1
      generalize id :: src :: ds.take k = m at *
      go_wp2_with ((with_reducible refine wpList_append_g elem64 rfl (.tmp 19) (.tmp 26) rfl (w.heap.size + 1) sv m.length (m.map U64) rfl HL.out.own (some ⟨wr.heap.size, 0, none⟩) 1 1 ([y].map U64) rfl HL.out.lit (len1 _) (u64_one _) some_nil (by have := HM.out; have := HN.out; omega) HL.out.size ?_); intro v2 w2 ho2 hg2; have hb2 := grown_belowc HL.out.below HL.out.own hg2 HL.out.size; have HO2 := Lib.hid (And.intro (OwnN.app rfl ho2) hb2); clear ho2 hg2 hb2)
      go_roundw
      case rel => exact ⟨k + 1, v2, rfl, by omega, by go_num, Lib.hid ⟨by rw [HX.out]; exact HO2.out.1, HP.out.below (by rw [HHS.out]; exact HO2.out.2), HO2.out.2⟩⟩
      case measure => simp [intOf]; omega
    · have hki : ¬ (k : Int) < (ds.length : Int) := by omega
      have HTK : Hid (ds.take k = ds) := Lib.hid (List.take_of_length_le (by omega))
      go_wp2_with fail
      go_ret
      rw [HK.out]
      have h5 := ho.out.1
      rw [HTK.out] at h5
      exact ⟨sv, rfl, OwnC.base h5 (by omega), ho.out.2.1.1⟩

end Go.Proofs.YthdagjlgfffpbaaGreat

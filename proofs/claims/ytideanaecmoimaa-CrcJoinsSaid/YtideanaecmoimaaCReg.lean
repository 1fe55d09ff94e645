/-
  Layer 2 (crc): the register. By the verifier.
-/
import Derived.Test.YtideanaecmoimaaCBuilt
set_option linter.unusedVariables false
namespace Go.Proofs.Ytideanaecmoimaa
open Go.RowKit

/-- A register with a value. -/
def Reg (w : World) (B v : Nat) : Prop := Row w B 54 257 (regF v)

/-- A new register is handed back. -/
def RegOut (w : World) (v : Nat) (e : Ending) (w' : World) : Prop := ∃ B, e = .returned (.pointer (some ⟨B, 0, none⟩)) ∧ Reg w' B v ∧ w.heap.size ≤ B ∧ Below w.heap.size w w'

theorem opened_ok (w : World) : Calls Try.prog 22 #[] w fun e w' => RegOut w 4294967295 e w' := by
  have HT := Lib.hid (table_ok w)
  have HB := Lib.hid built_open
  go_enter Try.func22, Try.ntmps22
  go_wp2_with fail
  refine (HT.out).mono ?_
  rintro e w1 ⟨rfl, hb1⟩
  go_wp2_with (refine wpList_built rfl 54 0 1 _ _ rfl (.agg tabArr) (.int .u32 4294967295) rfl rfl (rowOf 257 (regF 4294967295)) HB.out ?_)
  go_ret
  exact ⟨w1.heap.size, rfl, Row.new _ _ _ _, hb1.size, hb1.alloc hb1.size _⟩

theorem not32 (n : Nat) (h : n < 4294967296) : bits .xor .u32 4294967295 (n : Int) = ((4294967295 ^^^ n : Nat) : Int) :=
  u32_xor_nat 4294967295 n (by omega) h

theorem closed_ok (s : Nat) (hs : s < 4294967296) (w : World) : Calls Try.prog 29 #[.int .u32 s] w fun e w' => RegOut w (4294967295 ^^^ s) e w' := by
  have HT := Lib.hid (table_ok w)
  have HB : Hid (∀ z : Int, z = bits .xor .u32 4294967295 (s : Int) → Try.prog.built 54 [(0, .agg tabArr), (1, .int .u32 z)] = some (rowOf 257 (regF (4294967295 ^^^ s)))) :=
    Lib.hid fun z hz => by rw [hz, not32 s hs]; exact built_reg _
  obtain ⟨y, hy⟩ : ∃ y : Int, y = (s : Int) := ⟨_, rfl⟩
  rw [← hy] at HB ⊢
  clear hy hs
  go_enter Try.func29, Try.ntmps29
  go_wp2_with fail
  refine (HT.out).mono ?_
  rintro e w1 ⟨rfl, hb1⟩
  go_wp2_with (refine wpList_built rfl 54 0 1 _ _ rfl (.agg tabArr) (.int .u32 (bits .xor .u32 4294967295 y)) rfl rfl (rowOf 257 (regF (4294967295 ^^^ s))) (HB.out _ rfl) ?_)
  go_ret
  exact ⟨w1.heap.size, rfl, Row.new _ _ _ _, hb1.size, hb1.alloc hb1.size _⟩

theorem reg_value {w : World} {B v : Nat} (h : Reg w B v) : w.cell? ⟨B, 256, none⟩ = some (V32 v) := h.cell (i := 256) (by omega)
theorem reg_table {w : World} {B v : Nat} (h : Reg w B v) {i : Nat} (hi : i < 256) : w.cell? ⟨B, i, none⟩ = some (V32 (E i)) := by
  rw [Row.cell h (by omega)]
  unfold regF
  rw [if_pos hi]
theorem reg_set {w : World} {B v : Nat} (h : Reg w B v) (u : Nat) : Reg (w.setCell ⟨B, 256, none⟩ (V32 u)) B u := by
  refine (h.set (i := 256) (by omega) (V32 u)).congr fun i hi => ?_
  unfold regF
  by_cases h6 : i = 256
  · subst h6; rfl
  · rw [if_neg h6, if_pos (by omega), if_pos (by omega)]

theorem sum_ok (B v : Nat) (hv : v < 4294967296) (w : World) (h : Reg w B v) :
    Calls Try.prog 25 #[.pointer (some ⟨B, 0, none⟩)] w fun e w' => e = .returned (.int .u32 ((4294967295 ^^^ v : Nat) : Int)) ∧ w = w' := by
  have hc := reg_value h
  have hn := not32 v hv
  unfold V32 at hc
  rw [← hn]
  clear hn
  go_enter Try.func25, Try.ntmps25
  go_wp2_with fail
  go_ret
  exact ⟨rfl, rfl⟩

/-- The bytes that a slice holds. -/
def Bys (w : World) (A : Option Addr) (l : List Nat) : Prop := Seg w A l.length (fun i => V8 (l.getD i 0)) ∧ Bs l ∧ l.length ≤ maxLen

theorem Bys.below {w w' : World} {A : Option Addr} {l : List Nat} (h : Bys w A l) {B : Nat} (hB : w.heap.size ≤ B) (hb : Below B w w') : Bys w' A l := ⟨h.1.below hB hb, h.2⟩

theorem xor8 (a b : Nat) (ha : a < 256) (hb : b < 256) : bits .xor .u8 (a : Int) (b : Int) = ((a ^^^ b : Nat) : Int) := u8_xor_nat a b ha hb

set_option maxHeartbeats 400000 in
theorem take_ok (B v : Nat) (A : Option Addr) (l : List Nat) (c : Nat) (hv : v < 4294967296) (w : World) (h : Reg w B v) (hl : Bys w A l) :
    Calls Try.prog 24 #[.pointer (some ⟨B, 0, none⟩), .slice A l.length c] w fun e w' => e = .returned (.tuple #[]) ∧ w.setCell ⟨B, 256, none⟩ (V32 (fo v l)) = w' := by
  have hc := reg_value h
  have hfr : w.frozen? ⟨B, 256, none⟩ = false := h.free 256
  have hm := hl.2.2
  unfold maxLen at hm
  have HR := Lib.hid h
  have HL := Lib.hid hl
  clear h hl
  go_enter Try.func24, Try.ntmps24
  go_wp2_with fail
  go_loop [4, 13] (fun x i => ∃ k : Nat, k ≤ l.length ∧ i = .int .i64 (k : Int) ∧ x = V32 (fo v (l.take k))) (fun _ i => l.length - (intOf i).toNat)
  case atStart => exact ⟨0, by omega, rfl, rfl⟩
  case round =>
    obtain ⟨k, hk, rfl, rfl⟩ := hrel
    by_cases hlt : k < l.length
    · obtain ⟨b, o, rfl, hbo, hcl⟩ := HL.out.1 k hlt
      have hx : l.getD k 0 < 256 := HL.out.2.1.get k
      have hf : fo v (l.take k) < 4294967296 := fo_lt hv (HL.out.2.1.take k)
      have hsn := fo_snoc v l k hlt
      have hkl : (k : Int) < l.length := by omega
      replace hcl : w.cell? ⟨b, o + k, none⟩ = some (V8 (l.getD k 0)) := hcl
      unfold V32
      unfold V8 at hcl
      generalize l.getD k 0 = x at *
      generalize fo v (l.take k) = f at *
      rw [upd_table] at hsn
      have hi : f % 256 ^^^ x < 256 := xor_lt8 (by omega) hx
      have ht := reg_table HR.out hi
      have hE := E_lt hi
      have e1 : bits .xor .u8 ((f : Int) % 256) (x : Int) = ((f % 256 ^^^ x : Nat) : Int) := by rw [← xor8 _ _ (by omega) hx, Int.natCast_emod]; rfl
      have e2 : bits .xor .u32 ((f : Int) / 256) (E (f % 256 ^^^ x) : Int) = (fo v (l.take (k + 1)) : Int) := by rw [hsn, ← xor32 _ _ (by omega) hE, Int.natCast_ediv]; rfl
      unfold V32 at ht
      generalize f % 256 ^^^ x = q at *
      generalize E q = t at *
      generalize hg : fo v (l.take (k + 1)) = g at *
      have HG := Lib.hid hg
      obtain ⟨fz, hfz⟩ : ∃ fz : Int, fz = (f : Int) := ⟨_, rfl⟩
      have f0 : 0 ≤ fz := by omega
      have f1 : fz < 4294967296 := by omega
      rw [← hfz] at e1 e2 ⊢
      clear hg hsn hfz
      go_wp2_with fail
      go_round
      case rel => exact ⟨k + 1, by omega, by go_num, by rw [HG.out]⟩
      case measure => simp [intOf]; omega
    · have hkk : k = l.length := by omega
      have hkl : ¬ (k : Int) < l.length := by omega
      have hf : fo v (l.take k) = fo v l := by rw [hkk, List.take_length]
      rw [hf]
      unfold V32 at hc ⊢
      clear hf hkk
      go_wp2_with fail
      go_end0
      exact ⟨rfl, rfl⟩
end Go.Proofs.Ytideanaecmoimaa

/-
  strconv.FormatUint to the base 10. By the verifier.
-/
import Derived.Test.YtmgohahjocdeeaaDoorEnv
import Derived.Test.YtmgohahjocdeeaaDoorDigits
import Derived.Lib.AppendIntMem
import Derived.Shelf.Strconv.Itoa2
import Derived.Laws.IdiomStrings
set_option linter.unusedVariables false
namespace Go.Proofs.YtmgohahjocdeeaaDoor
open Go.RowKit Go.Sort

set_option maxRecDepth 100000 in
theorem fu10_small (u : Nat) (h : u < 100) (w : World) :
    Calls Tryd.prog 90 #[.int .u64 u, .int .i64 10] w fun e w' => e = .returned (.string ⟨(digs 10 u).toArray⟩) ∧ Below w.heap.size w w' := by
  rw [digs_ten]
  have hu : (u : Int) < 100 := by omega
  go_enter Tryd.func90, Tryd.ntmps90
  go_wp2_with (go_at_call 99; refine (Tryd.internal_strconv_small u h _).mono ?_; rintro e w' ⟨rfl, rfl⟩)
  go_ret
  exact ⟨rfl, Below.refl _ _⟩

set_option maxRecDepth 100000 in
theorem fu10_big (u : Nat) (h100 : 100 ≤ u) (hu64 : u < 18446744073709551616) (w : World) (he : Env w) :
    Calls Tryd.prog 90 #[.int .u64 u, .int .i64 10] w fun e w' => e = .returned (.string ⟨(digs 10 u).toArray⟩) ∧ Below w.heap.size w w' := by
  rw [digs_ten]
  have hu1 : 1 ≤ u := by omega
  have hnd20 : Lib.nDigits u ≤ 20 := by have := Lib.numDigits_eq u hu1 hu64; split at this <;> omega
  have hb3 : Lib.nDigits u ≤ 24 := by omega
  have hal : Tryd.prog.arrayLen 128 = 24 := by kernel_rfl
  have htab := he.pow
  have hsl1 : ∀ W, (Instr.sliceAt 128 (.pointer (some ⟨w.heap.size, 0, none⟩)) none (some (.int .i64 (Lib.nDigits u : Int))) none).run Tryd.prog W = .ok (.slice (some ⟨w.heap.size, 0, none⟩) (Lib.nDigits u) 24) W := fun W => by
    rw [run_sliceAt_array_h W 128 ⟨w.heap.size, 0, none⟩ (by simp [Program.arrayLen, Program.elem, Tryd.underlying128]) .i64 (Lib.nDigits u : Int) (by omega) (by rw [hal]; omega)]
    go_simp
  have hH0 := Lib.holds_zero0 w 128 (Lib.nDigits u) (by omega)
  have hfmt := Tryd.internal_strconv_formatBase10 w.heap.size 0 24 u (Array.replicate (Lib.nDigits u) 0) (w.alloc (.cells Lib.zeros24 128)) hH0 (by rw [Array.size_replicate]; exact Lib.lt_pow_nDigits u) hu64 (by rw [Array.size_replicate]; omega)
  rw [Array.size_replicate] at hfmt
  have HH0 := Lib.hid hH0
  have HF := Lib.hid hfmt
  have hui : 100 ≤ (u : Int) := by omega
  clear hH0 hal hfmt
  go_enter Tryd.func90, Tryd.ntmps90
  go_wp2_with fail
  refine (Tryd.internal_strconv_numDigits u hu1 hu64 _ (Lib.tabIs_alloc htab _)).mono ?_
  rintro e w' ⟨rfl, rfl⟩
  go_wp2_with fail
  refine HF.out.mono ?_
  rintro e w' ⟨rfl, k, v', dk, rfl, hF⟩
  have hcv : (convert 51 9 (.slice (some ⟨w.heap.size, 0, none⟩) (Lib.nDigits u) 24)).run Tryd.prog ((putRow (fun (b : UInt8) => Value.int .u8 (b.toNat : Int)) (w.alloc (.cells Lib.zeros24 128)) w.heap.size 0 dk).drewN k) = .ok (.string ⟨(Lib.decDigits u).toArray⟩) ((putRow (fun (b : UInt8) => Value.int .u8 (b.toNat : Int)) (w.alloc (.cells Lib.zeros24 128)) w.heap.size 0 dk).drewN k) := by
    have h := run_convert_bytes_back (P := Tryd.prog) ((putRow (fun (b : UInt8) => Value.int .u8 (b.toNat : Int)) (w.alloc (.cells Lib.zeros24 128)) w.heap.size 0 dk).drewN k) 51 9 5 ⟨w.heap.size, 0, none⟩ 24 (Lib.decDigits u) Tryd.underlying51 Tryd.underlying5 Tryd.underlying9 (fun j hj => by
      rw [Lib.row_is_numeral hF j hj, Lib.add_plain, World.cell?_drewN]
      exact cell?_putRow (fun (b : UInt8) => Value.int .u8 (b.toNat : Int)) _ w.heap.size 0 _ dk HH0.out (by rw [hF.size, Array.size_replicate]) j (by rw [hF.size]; rw [Lib.decDigits_length] at hj; exact hj))
    rw [Lib.decDigits_length] at h
    exact h
  go_wp2
  go_ret
  obtain ⟨os, eo⟩ := Lib.fin_at w (.cells Lib.zeros24 128) dk k 0
  refine ⟨rfl, ?_⟩
  have eo' := Lib.below_grow w.heap.size w (Nat.le_refl _) k os
  rw [← eo] at eo'
  exact eo'

theorem fu10_ok (u : Nat) (hu : u < 18446744073709551616) (w : World) (he : Env w) :
    Calls Tryd.prog 90 #[.int .u64 u, .int .i64 10] w fun e w' => e = .returned (.string ⟨(digs 10 u).toArray⟩) ∧ Below w.heap.size w w' := by
  by_cases h : u < 100
  · exact fu10_small u h w
  · exact fu10_big u (by omega) hu w he

theorem pow2_16 (w : World) : Calls Tryd.prog 109 #[.int .i64 16] w fun e w' => e = .returned (.bool true) ∧ w = w' := by
  have hb : bits .and .i64 16 15 = 0 := by decide
  go_enter Tryd.func109, Tryd.ntmps109
  go_wp2
  go_ret
  exact ⟨rfl, rfl⟩

theorem tz64_16 (w : World) (h : w.cell? ⟨5, 15, none⟩ = some (.int .u8 4)) : Calls Tryd.prog 113 #[.int .u64 16] w fun e w' => e = .returned (.int .i64 4) ∧ w = w' := by
  have hz : IntKind.u64.wrap (bits .and .u64 16 (IntKind.u64.wrap (-16)) * 285870213051353865) / 288230376151711744 = 15 := by decide
  go_enter Tryd.func113, Tryd.ntmps113
  go_wp2
  go_ret
  exact ⟨rfl, rfl⟩

theorem tz_16 (w : World) (h : w.cell? ⟨5, 15, none⟩ = some (.int .u8 4)) : Calls Tryd.prog 110 #[.int .u64 16] w fun e w' => e = .returned (.int .i64 4) ∧ w = w' := by
  have H := Lib.hid (tz64_16 w h)
  clear h
  go_enter Tryd.func110, Tryd.ntmps110
  go_wp2_with (go_at_call 113; refine H.out.mono ?_; rintro e w' ⟨rfl, rfl⟩)
  go_ret
  exact ⟨rfl, rfl⟩

theorem and15 (x : Int) (hx : U x) : bits .and .u64 x 15 = x % 16 := by
  obtain ⟨n, rfl⟩ := Int.eq_ofNat_of_zero_le hx.lo
  have h := bits_and_u64_nat n 15 (by have := hx.hi; omega) (by omega)
  rw [show n &&& 15 = n % 16 from Nat.and_two_pow_sub_one_eq_mod n 4] at h
  rw [show ((15 : Nat) : Int) = 15 from rfl] at h
  rw [h]
  omega

theorem dig36_at (d : Nat) (h : d < 16) (h' : d < (⟨#[48, 49, 50, 51, 52, 53, 54, 55, 56, 57, 97, 98, 99, 100, 101, 102, 103, 104, 105, 106, 107, 108, 109, 110, 111, 112, 113, 114, 115, 116, 117, 118, 119, 120, 121, 122]⟩ : ByteArray).size) :
    (⟨#[48, 49, 50, 51, 52, 53, 54, 55, 56, 57, 97, 98, 99, 100, 101, 102, 103, 104, 105, 106, 107, 108, 109, 110, 111, 112, 113, 114, 115, 116, 117, 118, 119, 120, 121, 122]⟩ : ByteArray)[d] = dch d := by
  have : d = 0 ∨ d = 1 ∨ d = 2 ∨ d = 3 ∨ d = 4 ∨ d = 5 ∨ d = 6 ∨ d = 7 ∨ d = 8 ∨ d = 9 ∨ d = 10 ∨ d = 11 ∨ d = 12 ∨ d = 13 ∨ d = 14 ∨ d = 15 := by omega
  rcases this with rfl | rfl | rfl | rfl | rfl | rfl | rfl | rfl | rfl | rfl | rfl | rfl | rfl | rfl | rfl | rfl <;> rfl

/-- What the loop of formatBits keeps: the digits from place p on stand in the array. -/
def Fb (w : World) (B p : Nat) (suf : List UInt8) : Prop :=
  p + suf.length = 65 ∧ (∀ j, j < 65 → ∃ v, w.cell? ⟨B, j, none⟩ = some v) ∧ (∀ j, w.frozen? ⟨B, j, none⟩ = false) ∧ ∀ j (h : j < suf.length), w.cell? ⟨B, p + j, none⟩ = some (.int .u8 (suf[j].toNat : Int))

theorem Fb.start (w : World) : Fb (w.alloc (.cells Tryd.zeroCells138 138)) w.heap.size 65 [] := by
  refine ⟨rfl, fun j hj => ?_, fun j => World.frozen?_alloc_new _ _ _ _, fun j h => absurd h (by simp)⟩
  have hs : Tryd.zeroCells138.size = 65 := by kernel_rfl
  exact ⟨_, by rw [World.cell?_alloc_new]; exact Array.getElem?_eq_getElem (by omega)⟩

theorem Fb.drew {w : World} {B p : Nat} {suf : List UInt8} (h : Fb w B p suf) : Fb w.drew B p suf := h

theorem Fb.store {w : World} {B p : Nat} {suf : List UInt8} (h : Fb w B p suf) (hp : 0 < p) (c : UInt8) : Fb (w.setCell ⟨B, p - 1, none⟩ (.int .u8 (c.toNat : Int))) B (p - 1) (c :: suf) := by
  obtain ⟨h1, h2, h3, h4⟩ := h
  obtain ⟨v0, hv0⟩ := h2 (p - 1) (by omega)
  refine ⟨by simp; omega, fun j hj => ?_, fun j => by rw [World.frozen?_setCell]; exact h3 j, fun j hj => ?_⟩
  · by_cases e : j = p - 1
    · subst e
      exact ⟨_, World.cell?_setCell_same _ _ _ hv0⟩
    · obtain ⟨v, hv⟩ := h2 j hj
      exact ⟨v, by rw [World.cell?_setCell_other _ _ _ _ (fun e' => e (by injection e' with _ e2; exact e2.symm))]; exact hv⟩
  · cases j with
    | zero => exact World.cell?_setCell_same _ _ _ hv0
    | succ i =>
      have hi : i < suf.length := by simpa using hj
      rw [World.cell?_setCell_other _ _ _ _ (fun e' => by injection e' with _ e2; omega), List.getElem_cons_succ, show p - 1 + (i + 1) = p + i by omega]
      exact h4 i hi

set_option maxRecDepth 100000 in
theorem fb16 (u : Nat) (hu : u < 18446744073709551616) (w : World) (htz : w.cell? ⟨5, 15, none⟩ = some (.int .u8 4)) :
    Calls Tryd.prog 102 #[.slice none 0 0, .int .u64 u, .int .i64 16, .bool false, .bool false] w fun e w' => e = .returned (.tuple #[.slice none 0 0, .string ⟨(digs 16 u).toArray⟩]) ∧ Below w.heap.size w w' := by
  have HT := Lib.hid htz
  have hlt := lt_of_cell htz
  clear htz
  go_enter Tryd.func102, Tryd.ntmps102
  go_wp2_with fail
  refine (pow2_16 _).mono ?_
  rintro e w' ⟨rfl, rfl⟩
  go_wp2_with fail
  refine (tz_16 _ (by rw [World.cell?_alloc_lt _ _ _ hlt]; exact HT.out)).mono ?_
  rintro e w' ⟨rfl, rfl⟩
  go_wp2_with fail
  have HU : Hid (∀ d, digs 16 u = d → d.length ≤ 16) := Lib.hid (fun d hd => by rw [← hd]; exact digs_len (by omega) 15 u (by omega))
  go_loopw [1, 13] (fun t i wr => ∃ (x : Int) (p : Nat) (suf : List UInt8), t = .int .u64 x ∧ i = .int .i64 p ∧ U x ∧ Hid (digs 16 u = digs 16 x.toNat ++ suf) ∧ Hid (Fb wr w.heap.size p suf) ∧ Below w.heap.size w wr) (fun t _ _ => (intOf t).toNat)
  case atStart => exact ⟨u, 65, [], rfl, rfl, ⟨by omega, by omega⟩, Lib.hid (by simp), Lib.hid (Fb.start w), (Below.refl _ _).alloc (Nat.le_refl _) _⟩
  case round =>
    obtain ⟨x, p, suf, rfl, rfl, hx, hd, hf, hbw⟩ := hrel
    have x0 := hx.lo; have x1 := hx.hi
    have hlen := HU.out _ hd.out
    have hl2 : 1 ≤ (digs 16 x.toNat).length := List.length_pos_iff.2 (digs_ne _ _)
    rw [List.length_append] at hlen
    have hp65 := hf.out.1
    have hp : 1 ≤ p := by omega
    have hp' : p ≤ 65 := by omega
    obtain ⟨v0, hv0⟩ := hf.out.2.1 (p - 1) (by omega)
    have hfz := hf.out.2.2.1 (p - 1)
    clear hlen hl2 hp65
    by_cases h16 : 16 ≤ x
    · have hand := and15 x hx
      have m0 : 0 ≤ x % 16 := by omega
      have m1 : x % 16 < 16 := by omega
      have hdd : digs 16 x.toNat = digs 16 (x / 16).toNat ++ [dch (x % 16).toNat] := by
        rw [digs_big (by omega) (by omega)]
        congr 2 <;> congr 1 <;> omega
      have HD : Hid (digs 16 u = digs 16 (x / 16).toNat ++ (dch (x % 16).toNat :: suf)) := Lib.hid (by rw [hd.out, hdd]; simp)
      clear hdd
      go_wp2
      refine ⟨⟨x / 16, p - 1, dch (x % 16).toNat :: suf, rfl, by congr 1; omega, ⟨by omega, by omega⟩, HD, Lib.hid ?_, hbw.setCell (by simp) _⟩, by simp [intOf]; omega⟩
      rw [dig36_at _ (by omega)]
      exact hf.out.store hp _
    · have hdd : digs 16 x.toNat = [dch x.toNat] := digs_small (by omega)
      have HD : Hid (digs 16 u = dch x.toNat :: suf) := Lib.hid (by rw [hd.out, hdd]; rfl)
      have m1 : x < 16 := by omega
      have hdg := fun h' => dig36_at x.toNat (by omega) h'
      have hF := hf.out.store hp (dch x.toNat)
      have hal : Tryd.prog.arrayLen 138 = 65 := by kernel_rfl
      have hsl : ∀ W, (Instr.sliceAt 138 (.pointer (some ⟨w.heap.size, 0, none⟩)) (some (.int .i64 ((p : Int) - 1))) none none).run Tryd.prog W = .ok (.slice (some ⟨w.heap.size, p - 1, none⟩) (65 - (p - 1)) (65 - (p - 1))) W := fun W => by
        rw [run_sliceAt_array_l W 138 ⟨w.heap.size, 0, none⟩ (by simp [Program.arrayLen, Program.elem, Tryd.underlying138]) .i64 ((p : Int) - 1) (by omega) (by rw [hal]; omega)]
        go_simp
        omega
      have hcv : (convert 51 9 (.slice (some ⟨w.heap.size, p - 1, none⟩) (65 - (p - 1)) (65 - (p - 1)))).run Tryd.prog (wr.setCell ⟨w.heap.size, p - 1, none⟩ (.int .u8 ((dch x.toNat).toNat : Int))) = .ok (.string ⟨(digs 16 u).toArray⟩) (wr.setCell ⟨w.heap.size, p - 1, none⟩ (.int .u8 ((dch x.toNat).toNat : Int))) := by
        rw [HD.out]
        have h := run_convert_bytes_back (P := Tryd.prog) (wr.setCell ⟨w.heap.size, p - 1, none⟩ (.int .u8 ((dch x.toNat).toNat : Int))) 51 9 5 ⟨w.heap.size, p - 1, none⟩ (65 - (p - 1)) (dch x.toNat :: suf) Tryd.underlying51 Tryd.underlying5 Tryd.underlying9 (fun j hj => by
          rw [Lib.add_plain]
          exact hF.2.2.2 j hj)
        have hl : (dch x.toNat :: suf).length = 65 - (p - 1) := by have := hF.1; omega
        rw [hl] at h
        exact h
      have HB : Hid (Below w.heap.size w (wr.setCell ⟨w.heap.size, p - 1, none⟩ (.int .u8 ((dch x.toNat).toNat : Int)))) := Lib.hid (hbw.setCell (by simp) _)
      clear hdd hF hal
      go_wp2
      go_ret2
      exact ⟨rfl, HB.out⟩

set_option maxRecDepth 100000 in
theorem fu16_ok (u : Nat) (hu : u < 18446744073709551616) (w : World) (he : Env w) :
    Calls Tryd.prog 90 #[.int .u64 u, .int .i64 16] w fun e w' => e = .returned (.string ⟨(digs 16 u).toArray⟩) ∧ Below w.heap.size w w' := by
  have H := Lib.hid (fb16 u hu w he.tz)
  clear he
  go_enter Tryd.func90, Tryd.ntmps90
  go_wp2_with (go_at_call 102; refine H.out.mono ?_; rintro e w' ⟨rfl, hb⟩)
  go_ret
  exact ⟨rfl, hb⟩

/-- num.Decimal -/
theorem decimal_ok (u : Nat) (hu : u < 18446744073709551616) (w : World) (he : Env w) :
    Calls Tryd.prog 82 #[.int .u64 u] w fun e w' => e = .returned (.string ⟨(digs 10 u).toArray⟩) ∧ Below w.heap.size w w' := by
  have H := Lib.hid (fu10_ok u hu w he)
  clear he
  have HS : Hid (Calls Tryd.prog 86 #[.int .u64 u, .int .i64 10] w fun e w' => e = .returned (.string ⟨(digs 10 u).toArray⟩) ∧ Below w.heap.size w w') := Lib.hid (by
    go_enter Tryd.func86, Tryd.ntmps86
    go_wp2_with (go_at_call 90; refine H.out.mono ?_; rintro e w' ⟨rfl, hb⟩)
    go_ret
    exact ⟨rfl, hb⟩)
  go_enter Tryd.func82, Tryd.ntmps82
  go_wp2_with (go_at_call 86; refine HS.out.mono ?_; rintro e w' ⟨rfl, hb⟩)
  go_ret
  exact ⟨rfl, hb⟩

/-- num.Hex -/
theorem hex_ok (u : Nat) (hu : u < 18446744073709551616) (w : World) (he : Env w) :
    Calls Tryd.prog 81 #[.int .u64 u] w fun e w' => e = .returned (.string ⟨(48 :: 120 :: digs 16 u).toArray⟩) ∧ Below w.heap.size w w' := by
  have H := Lib.hid (fu16_ok u hu w he)
  clear he
  have HS : Hid (Calls Tryd.prog 86 #[.int .u64 u, .int .i64 16] w fun e w' => e = .returned (.string ⟨(digs 16 u).toArray⟩) ∧ Below w.heap.size w w') := Lib.hid (by
    go_enter Tryd.func86, Tryd.ntmps86
    go_wp2_with (go_at_call 90; refine H.out.mono ?_; rintro e w' ⟨rfl, hb⟩)
    go_ret
    exact ⟨rfl, hb⟩)
  have hle : (digs 16 u).length ≤ 16 := digs_len (by omega) 15 u (by omega)
  go_enter Tryd.func81, Tryd.ntmps81
  go_wp2_with (go_at_call 86; refine HS.out.mono ?_; rintro e w' ⟨rfl, hb⟩)
  go_ret
  exact ⟨congrArg (fun s => Ending.returned (.string s)) (ByteArray.mk_append_mk [48, 120] (digs 16 u)), hb⟩

end Go.Proofs.YtmgohahjocdeeaaDoor

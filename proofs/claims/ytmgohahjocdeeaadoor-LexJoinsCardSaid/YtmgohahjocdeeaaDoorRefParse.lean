/-
  The reference's Parse. By the verifier.
-/
import Derived.Test.YtmgohahjocdeeaaDoorRefForm
set_option linter.unusedVariables false
namespace Go.Proofs.YtmgohahjocdeeaaDoor
open Go.RowKit

/-- The value of digits as the reference reckons it: it may wrap. -/
def rval (b : Nat) (acc : Nat) : List UInt8 → Option Nat
  | [] => some acc
  | c :: r => if b ≤ dval c then none else rval b ((acc * b + dval c) % 18446744073709551616) r

def rparseO (s : List UInt8) : Option Int :=
  if 20 < s.length then none
  else if 2 < s.length ∧ s.take 2 = [48, 120] then exactO (rval 16 0 (s.drop 2)) form16 s
  else exactO (rval 10 0 s) form10 s

theorem dval_lt (c : UInt8) : dval c < 100 := by
  have := c.toNat_lt
  unfold dval
  split
  · omega
  · split <;> omega

theorem index_at (s : List UInt8) (k : Nat) (hk : k < s.length) (w : World) :
    (Instr.index 9 (.string ⟨s.toArray⟩) (.int .i64 (k : Int))).run Tryd.prog w = .ok (.int .u8 ((s.getD k 0).toNat : Int)) w := by
  rw [run_index_string w 9 ⟨s.toArray⟩ .i64 k Tryd.underlying9]
  have h : (0 : Int) ≤ k ∧ (k : Int) < ((⟨s.toArray⟩ : ByteArray).size : Int) := ⟨by omega, by show (k : Int) < (s.toArray.size : Int); simp; omega⟩
  rw [dif_pos h]
  congr 3
  simp [List.getD, hk]
  rfl

theorem cut2_at (s : List UInt8) (h : 2 < s.length) (w : World) :
    (Instr.slice 9 (.string ⟨s.toArray⟩) none (some (.int .i64 2)) none).run Tryd.prog w = .ok (.string ⟨(s.take 2).toArray⟩) w := by
  rw [run_slice_string_to_if w 9 ⟨s.toArray⟩ .i64 2 Tryd.underlying9, if_pos ⟨by omega, by show (2 : Int) ≤ (s.toArray.size : Int); simp; omega⟩]
  congr 2
  apply ByteArray.ext
  simp [ByteArray.data_extract]

theorem long_ok (s : List UInt8) (h : 20 < s.length) (hm : s.length ≤ 140737488355328) (w : World) :
    Calls Tryd.prog 28 #[.string ⟨s.toArray⟩] w fun e w' => FoldRes none e ∧ Below w.heap.size w w' := by
  go_enter Tryd.func28, Tryd.ntmps28
  go_wp2
  go_ret2
  exact ⟨rfl, Below.refl _ _⟩

set_option maxHeartbeats 1600000 in
theorem hex_in (s : List UInt8) (h20 : s.length ≤ 20) (h2 : 2 < s.length) (hp : s.take 2 = [48, 120]) (w : World) :
    Calls Tryd.prog 28 #[.string ⟨s.toArray⟩] w fun e w' => FoldRes (rparseO s) e ∧ Below w.heap.size w w' := by
  have HRES : Hid (rparseO s = exactO (rval 16 0 (s.drop 2)) form16 s) := Lib.hid (by unfold rparseO; rw [if_neg (by omega), if_pos ⟨h2, hp⟩])
  have hcut := cut2_at s h2
  rw [hp] at hcut
  clear hp
  go_enter Tryd.func28, Tryd.ntmps28
  go_wp2
  go_loopw [6, 7] (fun t i wr => ∃ (k x : Nat), t = .int .u64 x ∧ i = .int .i64 k ∧ 2 ≤ k ∧ k ≤ s.length ∧ (x : Int) < 18446744073709551616 ∧ Hid (rval 16 0 (s.drop 2) = rval 16 x (s.drop k)) ∧ Below w.heap.size w wr) (fun _ i _ => s.length - (intOf i).toNat)
  case atStart => exact ⟨2, 0, rfl, rfl, by omega, by omega, by omega, Lib.hid rfl, Below.refl _ _⟩
  case round =>
    obtain ⟨k, x, rfl, rfl, hk0, hk, hx, hd, hbw⟩ := hrel
    by_cases hlt : k < s.length
    · have hidx := index_at s k hlt
      have hdrop : s.drop k = s.getD k 0 :: s.drop (k + 1) := by
        rw [List.drop_eq_getElem_cons hlt]; simp [List.getD, hlt]
      have hdec := hd.out
      rw [hdrop] at hdec
      simp only [rval] at hdec
      have hcl : (k : Int) < s.length := by omega
      generalize s.getD k 0 = ch at *
      have hcall := fun W => digit_ok ch W
      have hdl := dval_lt ch
      generalize hdv : dval ch = d at *
      obtain ⟨z, hz⟩ : ∃ z : Int, z = (d : Int) := ⟨_, rfl⟩
      rw [← hz] at hcall
      have HC := Lib.hid hcall
      have HZ := Lib.hid hz
      have z0 : 0 ≤ z := by omega
      have z1 : z < 100 := by omega
      clear hcall hdrop hdv
      by_cases hge : 16 ≤ d
      · rw [if_pos hge] at hdec
        have HD := Lib.hid hdec
        have hzg : 16 ≤ z := by omega
        clear hdec hge hz hdl
        go_wp2_with (go_at_call 44; refine (HC.out _).mono ?_; rintro e w' ⟨rfl, rfl⟩)
        go_ret2
        have hres := HRES.out
        rw [HD.out] at hres
        rw [hres]
        exact ⟨rfl, hbw⟩
      · rw [if_neg hge] at hdec
        have HD := Lib.hid hdec
        have hzg : z < 16 := by omega
        obtain ⟨y, hy⟩ : ∃ y : Int, y = (x : Int) := ⟨_, rfl⟩
        have y0 : 0 ≤ y := by omega
        have y1 : y < 18446744073709551616 := by omega
        have hw : IntKind.u64.wrap (IntKind.u64.wrap (y * 16) + z) = (((x * 16 + d) % 18446744073709551616 : Nat) : Int) := by
          rw [IntKind.wrap_u64, IntKind.wrap_u64]
          omega
        obtain ⟨v, hv⟩ : ∃ v : Int, v = (((x * 16 + d) % 18446744073709551616 : Nat) : Int) := ⟨_, rfl⟩
        rw [← hv] at hw
        have HV := Lib.hid hv
        rw [← hy]
        have v0 : 0 ≤ v := by omega
        have v1 : v < 18446744073709551616 := by omega
        clear hdec hge hz hdl hv hy hx
        go_wp2_with (go_at_call 44; refine (HC.out _).mono ?_; rintro e w' ⟨rfl, rfl⟩)
        go_roundw
        case rel => exact ⟨k + 1, (x * 16 + d) % 18446744073709551616, by rw [HV.out], by go_num, by omega, by omega, by omega, HD, hbw⟩
        case measure => simp [intOf]; omega
    · have hkk : k = s.length := by omega
      have hcl : ¬ ((k : Int) < s.length) := by omega
      have hdec := hd.out
      rw [hkk, List.drop_length] at hdec
      simp only [rval] at hdec
      have hres := HRES.out
      rw [hdec] at hres
      obtain ⟨y, hy⟩ : ∃ y : Int, y = (x : Int) := ⟨_, rfl⟩
      have hyn : y.toNat = x := by omega
      have hU : U y := ⟨by omega, by omega⟩
      have hcall := fun W => rhex_ok y hU W
      rw [hyn] at hcall
      have HC := Lib.hid hcall
      have HY := Lib.hid hy
      rw [← hy]
      clear hkk hdec hcall hy hyn hx hU
      by_cases hs : form16 x = s
      · have hr : exactO (some x) form16 s = some (x : Int) := if_pos hs
        rw [hr] at hres
        have HR := Lib.hid hres
        have HS := Lib.hid hs
        clear hr hres hs
        go_wp2_with fail
        refine (HC.out _).mono ?_
        rintro e w2 ⟨rfl, hb2⟩
        rw [HS.out]
        go_wp2_with fail
        go_ret2
        rw [HR.out]
        exact ⟨congrArg (fun q : Int => Ending.returned (.tuple #[.int .u64 q, .bool true])) HY.out, hbw.trans (hb2.mono hbw.size)⟩
      · have hr : exactO (some x) form16 s = none := if_neg hs
        rw [hr] at hres
        have HR := Lib.hid hres
        have hne : (form16 x == s) = false := by rw [beq_eq_false_iff_ne]; exact hs
        clear hr hres hs
        go_wp2_with fail
        refine (HC.out _).mono ?_
        rintro e w2 ⟨rfl, hb2⟩
        go_wp2_with fail
        go_ret2
        rw [HR.out]
        exact ⟨rfl, hbw.trans (hb2.mono hbw.size)⟩

set_option maxHeartbeats 1600000 in
theorem dec_long (s : List UInt8) (h20 : s.length ≤ 20) (h2 : 2 < s.length) (hp : ¬ s.take 2 = [48, 120]) (w : World) :
    Calls Tryd.prog 28 #[.string ⟨s.toArray⟩] w fun e w' => FoldRes (rparseO s) e ∧ Below w.heap.size w w' := by
  have HRES : Hid (rparseO s = exactO (rval 10 0 (s.drop 0)) form10 s) := Lib.hid (by unfold rparseO; rw [if_neg (by omega), if_neg (fun h => hp h.2)]; rfl)
  have hcut := cut2_at s h2
  have hne : (s.take 2 == [48, 120]) = false := by rw [beq_eq_false_iff_ne]; exact hp
  generalize s.take 2 = p2 at *
  clear hp
  go_enter Tryd.func28, Tryd.ntmps28
  go_wp2
  go_loopw [6, 7] (fun t i wr => ∃ (k x : Nat), t = .int .u64 x ∧ i = .int .i64 k ∧ 0 ≤ k ∧ k ≤ s.length ∧ (x : Int) < 18446744073709551616 ∧ Hid (rval 10 0 (s.drop 0) = rval 10 x (s.drop k)) ∧ Below w.heap.size w wr) (fun _ i _ => s.length - (intOf i).toNat)
  case atStart => exact ⟨0, 0, rfl, rfl, by omega, by omega, by omega, Lib.hid rfl, Below.refl _ _⟩
  case round =>
    obtain ⟨k, x, rfl, rfl, hk0, hk, hx, hd, hbw⟩ := hrel
    by_cases hlt : k < s.length
    · have hidx := index_at s k hlt
      have hdrop : s.drop k = s.getD k 0 :: s.drop (k + 1) := by
        rw [List.drop_eq_getElem_cons hlt]; simp [List.getD, hlt]
      have hdec := hd.out
      rw [hdrop] at hdec
      simp only [rval] at hdec
      have hcl : (k : Int) < s.length := by omega
      generalize s.getD k 0 = ch at *
      have hcall := fun W => digit_ok ch W
      have hdl := dval_lt ch
      generalize hdv : dval ch = d at *
      obtain ⟨z, hz⟩ : ∃ z : Int, z = (d : Int) := ⟨_, rfl⟩
      rw [← hz] at hcall
      have HC := Lib.hid hcall
      have HZ := Lib.hid hz
      have z0 : 0 ≤ z := by omega
      have z1 : z < 100 := by omega
      clear hcall hdrop hdv
      by_cases hge : 10 ≤ d
      · rw [if_pos hge] at hdec
        have HD := Lib.hid hdec
        have hzg : 10 ≤ z := by omega
        clear hdec hge hz hdl
        go_wp2_with (go_at_call 44; refine (HC.out _).mono ?_; rintro e w' ⟨rfl, rfl⟩)
        go_ret2
        have hres := HRES.out
        rw [HD.out] at hres
        rw [hres]
        exact ⟨rfl, hbw⟩
      · rw [if_neg hge] at hdec
        have HD := Lib.hid hdec
        have hzg : z < 10 := by omega
        obtain ⟨y, hy⟩ : ∃ y : Int, y = (x : Int) := ⟨_, rfl⟩
        have y0 : 0 ≤ y := by omega
        have y1 : y < 18446744073709551616 := by omega
        have hw : IntKind.u64.wrap (IntKind.u64.wrap (y * 10) + z) = (((x * 10 + d) % 18446744073709551616 : Nat) : Int) := by
          rw [IntKind.wrap_u64, IntKind.wrap_u64]
          omega
        obtain ⟨v, hv⟩ : ∃ v : Int, v = (((x * 10 + d) % 18446744073709551616 : Nat) : Int) := ⟨_, rfl⟩
        rw [← hv] at hw
        have HV := Lib.hid hv
        rw [← hy]
        have v0 : 0 ≤ v := by omega
        have v1 : v < 18446744073709551616 := by omega
        clear hdec hge hz hdl hv hy hx
        go_wp2_with (go_at_call 44; refine (HC.out _).mono ?_; rintro e w' ⟨rfl, rfl⟩)
        go_roundw
        case rel => exact ⟨k + 1, (x * 10 + d) % 18446744073709551616, by rw [HV.out], by go_num, by omega, by omega, by omega, HD, hbw⟩
        case measure => simp [intOf]; omega
    · have hkk : k = s.length := by omega
      have hcl : ¬ ((k : Int) < s.length) := by omega
      have hdec := hd.out
      rw [hkk, List.drop_length] at hdec
      simp only [rval] at hdec
      have hres := HRES.out
      rw [hdec] at hres
      obtain ⟨y, hy⟩ : ∃ y : Int, y = (x : Int) := ⟨_, rfl⟩
      have hyn : y.toNat = x := by omega
      have hU : U y := ⟨by omega, by omega⟩
      have hcall := fun W => rdecimal_ok y hU W
      rw [hyn] at hcall
      have HC := Lib.hid hcall
      have HY := Lib.hid hy
      rw [← hy]
      clear hkk hdec hcall hy hyn hx hU
      by_cases hs : form10 x = s
      · have hr : exactO (some x) form10 s = some (x : Int) := if_pos hs
        rw [hr] at hres
        have HR := Lib.hid hres
        have HS := Lib.hid hs
        clear hr hres hs
        go_wp2_with fail
        refine (HC.out _).mono ?_
        rintro e w2 ⟨rfl, hb2⟩
        rw [HS.out]
        go_wp2_with fail
        go_ret2
        rw [HR.out]
        exact ⟨congrArg (fun q : Int => Ending.returned (.tuple #[.int .u64 q, .bool true])) HY.out, hbw.trans (hb2.mono hbw.size)⟩
      · have hr : exactO (some x) form10 s = none := if_neg hs
        rw [hr] at hres
        have HR := Lib.hid hres
        have hne : (form10 x == s) = false := by rw [beq_eq_false_iff_ne]; exact hs
        clear hr hres hs
        go_wp2_with fail
        refine (HC.out _).mono ?_
        rintro e w2 ⟨rfl, hb2⟩
        go_wp2_with fail
        go_ret2
        rw [HR.out]
        exact ⟨rfl, hbw.trans (hb2.mono hbw.size)⟩

set_option maxHeartbeats 1600000 in
theorem dec_short (s : List UInt8) (h2 : s.length ≤ 2) (w : World) :
    Calls Tryd.prog 28 #[.string ⟨s.toArray⟩] w fun e w' => FoldRes (rparseO s) e ∧ Below w.heap.size w w' := by
  have HRES : Hid (rparseO s = exactO (rval 10 0 (s.drop 0)) form10 s) := Lib.hid (by unfold rparseO; rw [if_neg (by omega), if_neg (fun h => by omega)]; rfl)
  go_enter Tryd.func28, Tryd.ntmps28
  go_wp2
  go_loopw [6, 7] (fun t i wr => ∃ (k x : Nat), t = .int .u64 x ∧ i = .int .i64 k ∧ 0 ≤ k ∧ k ≤ s.length ∧ (x : Int) < 18446744073709551616 ∧ Hid (rval 10 0 (s.drop 0) = rval 10 x (s.drop k)) ∧ Below w.heap.size w wr) (fun _ i _ => s.length - (intOf i).toNat)
  case atStart => exact ⟨0, 0, rfl, rfl, by omega, by omega, by omega, Lib.hid rfl, Below.refl _ _⟩
  case round =>
    obtain ⟨k, x, rfl, rfl, hk0, hk, hx, hd, hbw⟩ := hrel
    by_cases hlt : k < s.length
    · have hidx := index_at s k hlt
      have hdrop : s.drop k = s.getD k 0 :: s.drop (k + 1) := by
        rw [List.drop_eq_getElem_cons hlt]; simp [List.getD, hlt]
      have hdec := hd.out
      rw [hdrop] at hdec
      simp only [rval] at hdec
      have hcl : (k : Int) < s.length := by omega
      generalize s.getD k 0 = ch at *
      have hcall := fun W => digit_ok ch W
      have hdl := dval_lt ch
      generalize hdv : dval ch = d at *
      obtain ⟨z, hz⟩ : ∃ z : Int, z = (d : Int) := ⟨_, rfl⟩
      rw [← hz] at hcall
      have HC := Lib.hid hcall
      have HZ := Lib.hid hz
      have z0 : 0 ≤ z := by omega
      have z1 : z < 100 := by omega
      clear hcall hdrop hdv
      by_cases hge : 10 ≤ d
      · rw [if_pos hge] at hdec
        have HD := Lib.hid hdec
        have hzg : 10 ≤ z := by omega
        clear hdec hge hz hdl
        go_wp2_with (go_at_call 44; refine (HC.out _).mono ?_; rintro e w' ⟨rfl, rfl⟩)
        go_ret2
        have hres := HRES.out
        rw [HD.out] at hres
        rw [hres]
        exact ⟨rfl, hbw⟩
      · rw [if_neg hge] at hdec
        have HD := Lib.hid hdec
        have hzg : z < 10 := by omega
        obtain ⟨y, hy⟩ : ∃ y : Int, y = (x : Int) := ⟨_, rfl⟩
        have y0 : 0 ≤ y := by omega
        have y1 : y < 18446744073709551616 := by omega
        have hw : IntKind.u64.wrap (IntKind.u64.wrap (y * 10) + z) = (((x * 10 + d) % 18446744073709551616 : Nat) : Int) := by
          rw [IntKind.wrap_u64, IntKind.wrap_u64]
          omega
        obtain ⟨v, hv⟩ : ∃ v : Int, v = (((x * 10 + d) % 18446744073709551616 : Nat) : Int) := ⟨_, rfl⟩
        rw [← hv] at hw
        have HV := Lib.hid hv
        rw [← hy]
        have v0 : 0 ≤ v := by omega
        have v1 : v < 18446744073709551616 := by omega
        clear hdec hge hz hdl hv hy hx
        go_wp2_with (go_at_call 44; refine (HC.out _).mono ?_; rintro e w' ⟨rfl, rfl⟩)
        go_roundw
        case rel => exact ⟨k + 1, (x * 10 + d) % 18446744073709551616, by rw [HV.out], by go_num, by omega, by omega, by omega, HD, hbw⟩
        case measure => simp [intOf]; omega
    · have hkk : k = s.length := by omega
      have hcl : ¬ ((k : Int) < s.length) := by omega
      have hdec := hd.out
      rw [hkk, List.drop_length] at hdec
      simp only [rval] at hdec
      have hres := HRES.out
      rw [hdec] at hres
      obtain ⟨y, hy⟩ : ∃ y : Int, y = (x : Int) := ⟨_, rfl⟩
      have hyn : y.toNat = x := by omega
      have hU : U y := ⟨by omega, by omega⟩
      have hcall := fun W => rdecimal_ok y hU W
      rw [hyn] at hcall
      have HC := Lib.hid hcall
      have HY := Lib.hid hy
      rw [← hy]
      clear hkk hdec hcall hy hyn hx hU
      by_cases hs : form10 x = s
      · have hr : exactO (some x) form10 s = some (x : Int) := if_pos hs
        rw [hr] at hres
        have HR := Lib.hid hres
        have HS := Lib.hid hs
        clear hr hres hs
        go_wp2_with fail
        refine (HC.out _).mono ?_
        rintro e w2 ⟨rfl, hb2⟩
        rw [HS.out]
        go_wp2_with fail
        go_ret2
        rw [HR.out]
        exact ⟨congrArg (fun q : Int => Ending.returned (.tuple #[.int .u64 q, .bool true])) HY.out, hbw.trans (hb2.mono hbw.size)⟩
      · have hr : exactO (some x) form10 s = none := if_neg hs
        rw [hr] at hres
        have HR := Lib.hid hres
        have hne : (form10 x == s) = false := by rw [beq_eq_false_iff_ne]; exact hs
        clear hr hres hs
        go_wp2_with fail
        refine (HC.out _).mono ?_
        rintro e w2 ⟨rfl, hb2⟩
        go_wp2_with fail
        go_ret2
        rw [HR.out]
        exact ⟨rfl, hbw.trans (hb2.mono hbw.size)⟩

theorem rparse_ok (s : List UInt8) (hm : s.length ≤ 140737488355328) (w : World) :
    Calls Tryd.prog 28 #[.string ⟨s.toArray⟩] w fun e w' => FoldRes (rparseO s) e ∧ Below w.heap.size w w' := by
  by_cases h20 : 20 < s.length
  · have : rparseO s = none := if_pos h20
    rw [this]
    exact long_ok s h20 hm w
  · by_cases h2 : 2 < s.length
    · by_cases hp : s.take 2 = [48, 120]
      · exact hex_in s (by omega) h2 hp w
      · exact dec_long s (by omega) h2 hp w
    · exact dec_short s (by omega) w

end Go.Proofs.YtmgohahjocdeeaaDoor

/-
  Layer 3 (buf): the reference's Append, Zeros and Align; slices.Grow and slices.Concat. By the verifier.
-/
import Derived.Test.YtajkneekehkhbaaBZero
import Derived.IntWalk
set_option linter.unusedVariables false
namespace Go.Proofs.Ytajkneekehkhbaa
open Go.RowKit

theorem rzeros_no (A : Option Addr) (L c : Nat) (n : Int) (hL : L ≤ 1000000) (hn : I64 n) (h : ¬ zOK L n) (w : World) :
    Calls Try.prog 40 #[.slice A L c, .int .i64 n] w fun e w' => e = .returned (.tuple #[.slice A L c, .bool false]) ∧ w = w' := by
  unfold zOK at h
  unfold I64 at hn
  by_cases h1 : n < 0
  · go_enter Try.func40, Try.ntmps40
    go_wp2_with fail
    go_ret2
    exact ⟨rfl, rfl⟩
  · have h2 : 16777216 - (L : Int) < n := by omega
    go_enter Try.func40, Try.ntmps40
    go_wp2_with fail
    go_ret2
    exact ⟨rfl, rfl⟩

set_option maxHeartbeats 1000000 in
theorem rzeros_yes (A : Option Addr) (l : List Nat) (c : Nat) (n : Nat) (w : World) (hl : Bys w A l) (hlen : l.length ≤ 900000) (hn : n ≤ 1000) :
    Calls Try.prog 40 #[.slice A l.length c, .int .i64 (n : Int)] w fun e w' => PartRes w (l ++ List.replicate n 0) e w' := by
  have HO := Lib.hid (own_lit w)
  have hA1 : Below w.heap.size w (w.alloc (.cells #[] 5)) := (Below.refl _ _).alloc (Nat.le_refl _) _
  have HB := Lib.hid (hl.below (Nat.le_refl _) hA1)
  have hsz : w.heap.size ≤ (w.alloc (.cells #[] 5)).heap.size := by simp
  have HL := Lib.hid (And.intro hlen hn)
  have h2 : (n : Int) ≤ 16777216 - (l.length : Int) := by omega
  have h3 : (l.length : Int) ≤ 900000 := by omega
  clear hl hlen hn
  go_enter Try.func40, Try.ntmps40
  go_wp2_with (first
    | ((with_reducible refine wpList_append_t 22 Try.underlying22 rfl (.tmp 16) (.tmp 17) rfl w.heap.size (.slice (some ⟨w.heap.size, 0, none⟩) 0 0) [] rfl HO.out A l l.length c rfl rfl HB.out (by have := HL.out; simp; omega) hsz ?_); intro v1 w1 ho1 hg1 hf1; have hb1 := grown_below hA1 HO.out hg1 hsz; rw [List.nil_append] at ho1; have HO1 := Lib.hid ho1; have HB1 := Lib.hid hb1; clear ho1 hg1 hf1 hb1)
    | ((with_reducible refine wpList_zeros_t 22 3 Try.underlying22 Try.underlying3 rfl (.tmp 18) (.tmp 19) rfl w.heap.size v1 l rfl HO1.out n n rfl rfl (by have := HL.out; omega) HB1.out.size ?_); intro v2 w2 ho2 hg2 hf2; have hb2 := grown_below HB1.out HO1.out hg2 HB1.out.size; have HO2 := Lib.hid ho2; have HB2 := Lib.hid hb2; clear ho2 hg2 hf2 hb2))
  go_ret2
  exact ⟨v2, rfl, HO2.out, HB2.out⟩

theorem ralign_small (A : Option Addr) (L c : Nat) (n : Int) (hn : n < 1) (w : World) :
    Calls Try.prog 41 #[.slice A L c, .int .i64 n] w fun e w' => e = .returned (.tuple #[.slice A L c, .bool false]) ∧ w = w' := by
  go_enter Try.func41, Try.ntmps41
  go_wp2_with fail
  go_ret2
  exact ⟨rfl, rfl⟩

theorem ralign_zero (A : Option Addr) (L c n : Nat) (hn : 1 ≤ n) (hn2 : I64 (n : Int)) (hL : L ≤ 1000000) (h : L % n = 0) (w : World) :
    Calls Try.prog 41 #[.slice A L c, .int .i64 (n : Int)] w fun e w' => e = .returned (.tuple #[.slice A L c, .bool true]) ∧ w = w' := by
  unfold I64 at hn2
  obtain ⟨N, hN⟩ : ∃ N : Int, N = (n : Int) := ⟨_, rfl⟩
  have hmod : (L : Int) % N = 0 := by rw [hN, ← Int.natCast_emod, h]; rfl
  have hN1 : 1 ≤ N := by omega
  have hN2 : N ≤ 9223372036854775807 := by omega
  have hL1 : (L : Int) ≤ 1000000 := by omega
  have hN0 : ¬ N = 0 := by omega
  have hNn : ¬ N < 1 := by omega
  rw [← hN]
  clear hn hn2 hL h hN
  go_enter Try.func41, Try.ntmps41
  go_wp2_with fail
  go_ret2
  exact ⟨rfl, rfl⟩

theorem ralign_else (A : Option Addr) (L c n : Nat) (hn : 1 ≤ n) (hn2 : I64 (n : Int)) (hL : L ≤ 1000000) (h : L % n ≠ 0) (w : World) (R : Value → Value → World → Prop)
    (HZ : Calls Try.prog 40 #[.slice A L c, .int .i64 ((n - L % n : Nat) : Int)] w fun e w' => ∃ v b, e = .returned (.tuple #[v, b]) ∧ R v b w') :
    Calls Try.prog 41 #[.slice A L c, .int .i64 (n : Int)] w fun e w' => ∃ v b, e = .returned (.tuple #[v, b]) ∧ R v b w' := by
  unfold I64 at hn2
  obtain ⟨N, hN⟩ : ∃ N : Int, N = (n : Int) := ⟨_, rfl⟩
  obtain ⟨r, hr⟩ : ∃ r : Int, r = ((L % n : Nat) : Int) := ⟨_, rfl⟩
  have hlt := Nat.mod_lt L (show 0 < n by omega)
  have hmod : (L : Int) % N = r := by rw [hN, hr, ← Int.natCast_emod]
  have e1 : ((n - L % n : Nat) : Int) = N - r := by omega
  rw [e1] at HZ
  have HZ0 : Hid (Calls Try.prog 40 #[.slice A L c, .int .i64 (N - r)] w fun e w' => ∃ v b, e = .returned (.tuple #[v, b]) ∧ R v b w') := Lib.hid HZ
  have hN1 : 1 ≤ N := by omega
  have hN2 : N ≤ 9223372036854775807 := by omega
  have hL1 : (L : Int) ≤ 1000000 := by omega
  have hN0 : ¬ N = 0 := by omega
  have hNn : ¬ N < 1 := by omega
  have hr0 : 0 ≤ r := by omega
  have hr1 : r < N := by omega
  have hr2 : (r == 0) = false := by simp; omega
  rw [← hN]
  clear hn hn2 hL h hN HZ e1 hlt hr
  go_enter Try.func41, Try.ntmps41
  go_wp2_with fail
  refine HZ0.out.mono ?_
  rintro e w2 ⟨v, b, rfl, hR⟩
  have HR := Lib.hid hR
  clear hR
  go_wp2_with fail
  go_ret2
  exact ⟨v, b, rfl, HR.out⟩

set_option maxHeartbeats 1000000 in
theorem rappend_ok (A : Option Addr) (l : List Nat) (c : Nat) (x : Nat) (hx : x < 18446744073709551616) (n : Nat) (w : World) (hl : Bys w A l) (hlen : l.length ≤ 900000) (hn : n ≤ 8) :
    Calls Try.prog 39 #[.slice A l.length c, .int .u64 (x : Int), .int .i64 (n : Int)] w fun e w' => NewO w (l ++ leB n x) e w' := by
  have HO := Lib.hid (own_lit w)
  have hA1 : Below w.heap.size w (w.alloc (.cells #[] 5)) := (Below.refl _ _).alloc (Nat.le_refl _) _
  have HB := Lib.hid (hl.below (Nat.le_refl _) hA1)
  have hsz : w.heap.size ≤ (w.alloc (.cells #[] 5)).heap.size := by simp
  have HL := Lib.hid (And.intro hlen hn)
  have HX := Lib.hid hx
  have hn8 : (n : Int) ≤ 8 := by omega
  have HLB := Lib.hid hl.2.1
  clear hl hlen hn hx
  go_enter Try.func39, Try.ntmps39
  go_wp2_with ((with_reducible refine wpList_append_t 22 Try.underlying22 rfl (.tmp 9) (.tmp 10) rfl w.heap.size (.slice (some ⟨w.heap.size, 0, none⟩) 0 0) [] rfl HO.out A l l.length c rfl rfl HB.out (by have := HL.out; simp; omega) hsz ?_); intro v1 w1 ho1 hg1 hf1; have hb1 := grown_below hA1 HO.out hg1 hsz; rw [List.nil_append] at ho1; have HO1 := Lib.hid ho1; have HB1 := Lib.hid hb1; clear ho1 hg1 hf1 hb1)
  go_loopw [7, 1, 8] (fun v x' i wr => ∃ (k : Nat) (sv : Value), sv = v ∧ k ≤ n ∧ i = .int .i64 (k : Int) ∧ x' = .int .u64 ((x / 256 ^ k : Nat) : Int) ∧ Hid (OwnB wr w.heap.size sv (l ++ leB k x) ∧ Below w.heap.size w wr)) (fun _ _ i _ => n - (intOf i).toNat)
  case atStart => exact ⟨0, v1, rfl, by omega, rfl, by simp, Lib.hid ⟨by simpa [leB] using HO1.out, HB1.out⟩⟩
  case round =>
    obtain ⟨k, sv, rfl, hk, rfl, rfl, ho⟩ := hrel
    by_cases hlt : k < n
    · have hkn : (k : Int) < (n : Int) := by omega
      have hle : x / 256 ^ k ≤ x := Nat.div_le_self _ _
      have hst : leB (k + 1) x = leB k x ++ [x / 256 ^ k % 256] := leB_add k 1 x
      have hst2 : x / 256 ^ (k + 1) = x / 256 ^ k / 256 := by rw [Nat.pow_succ, Nat.div_div_eq_div_mul]
      have HST := Lib.hid (And.intro hst hst2)
      clear hst hst2
      generalize x / 256 ^ k = q at *
      have hq1 : q < 18446744073709551616 := by have := HX.out; omega
      obtain ⟨z, hz⟩ : ∃ z : Int, z = (q : Int) := ⟨_, rfl⟩
      have hz0 : 0 ≤ z := by omega
      have hz1 : z < 18446744073709551616 := by omega
      have hw : IntKind.u64.wrap (z / 256) = z / 256 := IntWalk.u64_in _ (by omega)
      have HZ : Hid (z / 256 = ((q / 256 : Nat) : Int)) := Lib.hid (by rw [hz]; rfl)
      have HQ : Hid (OwnB (wr.alloc (.cells #[.int .u8 (z % 256)] 5)) w.heap.size sv (l ++ leB k x) ∧ Bys (wr.alloc (.cells #[.int .u8 (z % 256)] 5)) (some ⟨wr.heap.size, 0, none⟩) [q % 256] ∧ Below w.heap.size w (wr.alloc (.cells #[.int .u8 (z % 256)] 5))) := by
        have hA : Below wr.heap.size wr (wr.alloc (.cells #[.int .u8 (z % 256)] 5)) := (Below.refl _ _).alloc (Nat.le_refl _) _
        refine Lib.hid ⟨ho.out.1.below hA, ?_, ho.out.2.trans (hA.mono ho.out.2.size)⟩
        refine bys_lit wr _ _ _ ?_ (by intro y hy; simp at hy; omega) (by unfold maxLen; simp)
        rw [hz]
        rfl
      have HLN : Hid ((l ++ leB k x).length + 1 ≤ 1000000) := Lib.hid (by rw [List.length_append, leB_len]; have := HL.out; omega)
      rw [← hz]
      clear hz hle
      go_wp2_with ((with_reducible refine wpList_append_t 22 Try.underlying22 rfl (.tmp 17) (.tmp 20) rfl w.heap.size sv (l ++ leB k x) rfl HQ.out.1 (some ⟨wr.heap.size, 0, none⟩) [q % 256] 1 1 rfl rfl HQ.out.2.1 HLN.out HQ.out.2.2.size ?_); intro v2 w2 ho2 hg2 hf2; have hb2 := grown_below HQ.out.2.2 HQ.out.1 hg2 HQ.out.2.2.size; have HO2 := Lib.hid (And.intro ho2 hb2); clear ho2 hg2 hf2 hb2)
      go_roundw
      case rel => exact ⟨k + 1, v2, rfl, by omega, by go_num, by rw [HST.out.2, HZ.out], Lib.hid (by rw [HST.out.1, ← List.append_assoc]; exact HO2.out)⟩
      case measure => simp [intOf]; omega
    · have hkn : ¬ (k : Int) < (n : Int) := by omega
      have hkk : k = n := by omega
      subst hkk
      go_wp2_with fail
      go_ret
      exact ⟨sv, rfl, ho.out.1, ho.out.2⟩

end Go.Proofs.Ytajkneekehkhbaa

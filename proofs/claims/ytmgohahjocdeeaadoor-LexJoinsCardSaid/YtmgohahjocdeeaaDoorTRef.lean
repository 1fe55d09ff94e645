/-
  Layer 6 (lex): the reference's Place, skip and run. By the verifier.
-/
import Derived.Test.YtmgohahjocdeeaaDoorTBase
import Derived.Test.YtmgohahjocdeeaaDoorTChr
set_option linter.unusedVariables false
namespace Go.Proofs.YtmgohahjocdeeaaDoor
open Go.RowKit

theorem ne_beq {x c : Nat} (h : x ≠ c) (z : Int) (hz : (c : Int) = z) : ((x : Int) == z) = false := by rw [beq_eq_false_iff_ne]; omega
theorem ne_bne {x c : Nat} (h : x ≠ c) (z : Int) (hz : (c : Int) = z) : ((x : Int) != z) = true := by rw [bne_iff_ne]; omega

theorem rplace_ok (s : ByteArray) (l : List Nat) (hs : Str s l) (hm : l.length ≤ 2000000) (k : Nat) (hk : k ≤ l.length) (w : World) :
    Calls Tryd.prog 16 #[.string s, .int .i64 (k : Int)] w fun e w' => e = .returned (.tuple #[.int .i64 ((placeV l k).1 : Int), .int .i64 ((placeV l k).2 : Int)]) ∧ w = w' := by
  have hsz : (s.size : Int) = (l.length : Int) := by have := hs.size; omega
  have c1 : ¬ (s.size : Int) < (k : Int) := by omega
  have HS := Lib.hid hs
  have HK := Lib.hid (And.intro hk hm)
  clear hs hsz hk hm
  go_enter Tryd.func16, Tryd.ntmps16
  go_wp2_with fail
  go_loopw [6, 7, 8] (fun la ca i wr => ∃ j a b : Nat, la = .int .i64 (a : Int) ∧ ca = .int .i64 (b : Int) ∧ i = .int .i64 (j : Int) ∧ j ≤ k ∧ Hid (placeV l j = (a, b)) ∧ wr = w) (fun _ _ i _ => k - (intOf i).toNat)
  case atStart => exact ⟨0, 1, 1, rfl, rfl, rfl, by omega, Lib.hid rfl, rfl⟩
  case round =>
    obtain ⟨j, a, b, rfl, rfl, rfl, hj, hp, rfl⟩ := hrel
    obtain ⟨hkl, hm⟩ := HK.out
    have hbd := placeV_bound l j
    rw [hp.out] at hbd
    obtain ⟨-, ha, -, hb⟩ := hbd
    by_cases hlt : j < k
    · have hi := HS.out.index (k := j) (by omega)
      have hji : (j : Int) < (k : Int) := by omega
      have hst := placeV_step (l := l) (k := j) (by omega)
      rw [hp.out] at hst
      have ha' : (a : Int) ≤ 2000001 := by omega
      have hb' : (b : Int) ≤ 2000001 := by omega
      have hj' : (j : Int) ≤ 2000001 := by omega
      by_cases h10 : l.getD j 0 = 10
      · rw [h10] at hi hst
        have HP := Lib.hid hst
        clear hst h10 hp ha hb hkl hm hlt
        go_wp2_with fail
        go_roundw
        case rel => exact ⟨j + 1, a + 1, 1, by go_num, rfl, by go_num, by omega, HP, by trivial⟩
        case measure => simp [intOf]; omega
      · have HP := Lib.hid (hst.trans (stepP_no _ h10))
        have e1 := ne_beq h10 10 rfl
        generalize l.getD j 0 = y at *
        clear hst h10 hp ha hb hkl hm hlt
        go_wp2_with fail
        go_roundw
        case rel => exact ⟨j + 1, a, b + 1, rfl, by go_num, by go_num, by omega, HP, by trivial⟩
        case measure => simp [intOf]; omega
    · have hji : ¬ (j : Int) < (k : Int) := by omega
      obtain rfl : j = k := by omega
      have HP := Lib.hid hp.out
      clear hp hkl hm hlt
      go_wp2_with fail
      go_ret2
      rw [HP.out]
      exact ⟨rfl, rfl⟩

theorem rplace_no (s : ByteArray) (l : List Nat) (hs : Str s l) (x : Int) (hx : x < 0 ∨ (l.length : Int) < x) (w : World) :
    Calls Tryd.prog 16 #[.string s, .int .i64 x] w fun e w' => e = .returned (.tuple #[.int .i64 0, .int .i64 0]) ∧ w = w' := by
  have hsz : (s.size : Int) = (l.length : Int) := by have := hs.size; omega
  by_cases h0 : x < 0
  · clear hs hsz hx
    go_enter Tryd.func16, Tryd.ntmps16
    go_wp2_with fail
    go_ret2
    exact ⟨rfl, rfl⟩
  · have c1 : (s.size : Int) < x := by omega
    clear hs hsz hx
    go_enter Tryd.func16, Tryd.ntmps16
    go_wp2_with fail
    go_ret2
    exact ⟨rfl, rfl⟩

theorem skip_drop {l : List Nat} {j : Nat} (c : Bool) (h : j < l.length) : skipL c (l.drop j) = if !noteB c (l.getD j 0) && !blankB (l.getD j 0) then 0 else 1 + skipL (noteB c (l.getD j 0)) (l.drop (j + 1)) := by
  rw [drop_at h, skip_cons]
theorem skip_past {l : List Nat} {j : Nat} (c : Bool) (h : l.length ≤ j) : skipL c (l.drop j) = 0 := by
  rw [List.drop_of_length_le h, skip_nil]

set_option maxHeartbeats 1000000 in
theorem rskip_ok (s : ByteArray) (l : List Nat) (hs : Str s l) (hm : l.length ≤ 2000000) (k : Nat) (hk : k ≤ l.length) (w : World) :
    Calls Tryd.prog 24 #[.string s, .int .i64 (k : Int)] w fun e w' => e = .returned (.int .i64 (atV l k : Int)) ∧ w = w' := by
  have HZ : Hid ((s.size : Int) = (l.length : Int)) := Lib.hid (by have := hs.size; omega)
  have HS := Lib.hid hs
  have HK := Lib.hid (And.intro hk hm)
  clear hs hk hm
  go_enter Tryd.func24, Tryd.ntmps24
  go_wp2_with fail
  go_loopw [1] (fun i wr => ∃ j : Nat, i = .int .i64 (j : Int) ∧ j ≤ l.length ∧ Hid (atV l k = j + skipL false (l.drop j)) ∧ wr = w) (fun i _ => l.length - (intOf i).toNat)
  case atStart => exact ⟨k, rfl, HK.out.1, Lib.hid rfl, rfl⟩
  case round =>
    obtain ⟨j, rfl, hj, hp, rfl⟩ := hrel
    have hm := HK.out.2
    by_cases hlt : j < l.length
    · have hi := HS.out.index hlt
      have hks : (j : Int) < (s.size : Int) := by have := HZ.out; omega
      have hj' : (j : Int) ≤ 2000001 := by omega
      have hsk := skip_drop false hlt
      by_cases h35 : l.getD j 0 = 35
      · rw [h35] at hi
        have HJ := Lib.hid (And.intro hlt h35)
        have HP : Hid (atV l k = j + skipL true (l.drop j)) := Lib.hid (by
          rw [hp.out, hsk, h35, drop_at hlt, h35, skip_note _ (by omega)]
          rfl)
        clear hsk h35 hp hm
        go_wp2_with fail
        go_loopw [1] (fun i w2 => ∃ n : Nat, i = .int .i64 (n : Int) ∧ j ≤ n ∧ n ≤ l.length ∧ Hid (atV l k = n + skipL true (l.drop n)) ∧ w2 = wr) (fun i _ => l.length - (intOf i).toNat)
        case atStart => exact ⟨j, rfl, by omega, by omega, HP, rfl⟩
        case round =>
          obtain ⟨n, rfl, hjn, hn, hp, rfl⟩ := hrel
          have hm := HK.out.2
          clear hi hks
          by_cases hlt2 : n < l.length
          · have hi := HS.out.index hlt2
            have hks : (n : Int) < (s.size : Int) := by have := HZ.out; omega
            have hn' : (n : Int) ≤ 2000001 := by omega
            by_cases h10 : l.getD n 0 = 10
            · have hne : n ≠ j := fun e => by have := HJ.out.2; rw [← e, h10] at this; omega
              have HQ : Hid (atV l k = n + skipL false (l.drop n)) := Lib.hid (by rw [hp.out, drop_at hlt2, h10, skip_line, skip_line])
              rw [h10] at hi
              clear h10 hp hm
              go_wp2_with fail
              go_roundw
              case rel => exact ⟨n, rfl, by omega, HQ, by trivial⟩
              case measure => simp [intOf]; omega
            · have HQ : Hid (atV l k = (n + 1) + skipL true (l.drop (n + 1))) := Lib.hid (by rw [hp.out, drop_at hlt2, skip_note _ h10]; omega)
              have e1 := ne_beq h10 10 rfl
              have e2 := ne_bne h10 10 rfl
              have e3 : ¬ ((l.getD n 0 : Nat) : Int) = 10 := by omega
              generalize l.getD n 0 = y at *
              clear h10 hp hm
              go_wp2_with fail
              go_roundw
              case rel => exact ⟨n + 1, by go_num, by omega, by omega, HQ, by trivial⟩
              case measure => simp [intOf]; omega
          · have hks : ¬ (n : Int) < (s.size : Int) := by have := HZ.out; omega
            have HQ : Hid (atV l k = n + skipL false (l.drop n)) := Lib.hid (by rw [hp.out, skip_past true (by omega), skip_past false (by omega)])
            have hne : n ≠ j := fun e => by have := HJ.out.1; omega
            clear hp hm
            go_wp2_with fail
            go_roundw
            case rel => exact ⟨n, rfl, by omega, HQ, by trivial⟩
            case measure => simp [intOf]; omega
      · have e35 := ne_beq h35 35 rfl
        by_cases hb : blankB (l.getD j 0) = true
        · have HP : Hid (atV l k = (j + 1) + skipL false (l.drop (j + 1))) := Lib.hid (by
            have hn : noteB false (l.getD j 0) = false := by unfold noteB; rw [if_neg h35]; split <;> rfl
            rw [hp.out, hsk, hn, hb]
            simp only [Bool.not_true, Bool.and_false, Bool.false_eq_true, if_false]
            omega)
          have hcases : l.getD j 0 = 32 ∨ l.getD j 0 = 9 ∨ l.getD j 0 = 13 ∨ l.getD j 0 = 10 := by simpa [blankB] using hb
          clear hsk hb hp hm
          rcases hcases with hy | hy | hy | hy
          all_goals
            rw [hy] at hi e35
            clear hy h35
            go_wp2_with fail
            go_roundw
            case rel => exact ⟨j + 1, by go_num, by omega, HP, by trivial⟩
            case measure => simp [intOf]; omega
        · have hb' : blankB (l.getD j 0) = false := by simpa using hb
          have HP : Hid (atV l k = j) := Lib.hid (by
            have hn : noteB false (l.getD j 0) = false := by unfold noteB; rw [if_neg h35]; split <;> rfl
            rw [hp.out, hsk, hn, hb']
            rfl)
          have hcases : l.getD j 0 ≠ 32 ∧ l.getD j 0 ≠ 9 ∧ l.getD j 0 ≠ 13 ∧ l.getD j 0 ≠ 10 := by simpa [blankB] using hb
          obtain ⟨h1, h2, h3, h4⟩ := hcases
          have e1 := ne_beq h1 32 rfl
          have e2 := ne_beq h2 9 rfl
          have e3 := ne_beq h3 13 rfl
          have e4 := ne_beq h4 10 rfl
          have b1 := ne_bne h1 32 rfl
          have b2 := ne_bne h2 9 rfl
          have b3 := ne_bne h3 13 rfl
          have b4 := ne_bne h4 10 rfl
          have g1 : ¬ ((l.getD j 0 : Nat) : Int) = 32 := by omega
          have g2 : ¬ ((l.getD j 0 : Nat) : Int) = 9 := by omega
          have g3 : ¬ ((l.getD j 0 : Nat) : Int) = 13 := by omega
          have g4 : ¬ ((l.getD j 0 : Nat) : Int) = 10 := by omega
          generalize l.getD j 0 = y at *
          clear hsk hb hb' hp hm h1 h2 h3 h4 h35
          go_wp2_with fail
          go_ret
          rw [HP.out]
          exact ⟨rfl, rfl⟩
    · have hks : ¬ (j : Int) < (s.size : Int) := by have := HZ.out; omega
      have HP : Hid (atV l k = j) := Lib.hid (by rw [hp.out, skip_past false (by omega)]; rfl)
      clear hp hm
      go_wp2_with fail
      go_ret
      rw [HP.out]
      exact ⟨rfl, rfl⟩

theorem tw_step {P : Nat → Bool} {l : List Nat} {j : Nat} (h : j < l.length) (hp : P (l.getD j 0) = true) : ((l.drop j).takeWhile P).length = 1 + ((l.drop (j + 1)).takeWhile P).length := by
  rw [drop_at h, List.takeWhile_cons, if_pos hp, List.length_cons]
  omega
theorem tw_stop {P : Nat → Bool} {l : List Nat} {j : Nat} (h : j < l.length) (hp : P (l.getD j 0) = false) : ((l.drop j).takeWhile P).length = 0 := by
  rw [drop_at h, List.takeWhile_cons, hp]
  rfl
theorem tw_past {P : Nat → Bool} {l : List Nat} {j : Nat} (h : l.length ≤ j) : ((l.drop j).takeWhile P).length = 0 := by
  rw [List.drop_of_length_le h]
  rfl
theorem tw_take (P : Nat → Bool) (l : List Nat) : l.takeWhile P = l.take (l.takeWhile P).length := by
  induction l with
  | nil => rfl
  | cons x r ih =>
    rw [List.takeWhile_cons]
    split
    · rw [List.length_cons, List.take_succ_cons, ← ih]
    · rfl

/-- The bytes that run takes. -/
def runB (d : Bool) (x : Nat) : Bool := letterB x || (d && digitB x)

set_option maxHeartbeats 1000000 in
theorem rrun_ok (s : ByteArray) (l : List Nat) (hs : Str s l) (hm : l.length ≤ 2000000) (k : Nat) (hk : k ≤ l.length) (d : Bool) (w : World) :
    Calls Tryd.prog 26 #[.string s, .int .i64 (k : Int), .bool d] w fun e w' => e = .returned (.int .i64 ((k + ((l.drop k).takeWhile (runB d)).length : Nat) : Int)) ∧ w = w' := by
  have HZ : Hid ((s.size : Int) = (l.length : Int)) := Lib.hid (by have := hs.size; omega)
  have HS := Lib.hid hs
  have HK := Lib.hid (And.intro hk hm)
  obtain ⟨N, hN⟩ : ∃ N, N = k + ((l.drop k).takeWhile (runB d)).length := ⟨_, rfl⟩
  rw [← hN]
  have HN := Lib.hid hN
  clear hs hk hm hN
  go_enter Tryd.func26, Tryd.ntmps26
  go_wp2_with fail
  go_loopw [1] (fun i wr => ∃ j : Nat, i = .int .i64 (j : Int) ∧ j ≤ l.length ∧ Hid (N = j + ((l.drop j).takeWhile (runB d)).length) ∧ wr = w) (fun i _ => l.length - (intOf i).toNat)
  case atStart => exact ⟨k, rfl, HK.out.1, HN, rfl⟩
  case round =>
    obtain ⟨j, rfl, hj, hp, rfl⟩ := hrel
    have hm := HK.out.2
    by_cases hlt : j < l.length
    · have hi := HS.out.index hlt
      have hks : (j : Int) < (s.size : Int) := by have := HZ.out; omega
      have hj' : (j : Int) ≤ 2000001 := by omega
      have HT : Hid (runB d (l.getD j 0) = true → N = j + 1 + ((l.drop (j + 1)).takeWhile (runB d)).length) := Lib.hid fun h => by rw [hp.out, tw_step hlt h]; omega
      have HF : Hid (runB d (l.getD j 0) = false → N = j) := Lib.hid fun h => by rw [hp.out, tw_stop hlt h]; rfl
      have HL := Lib.hid (rletter_ok (l.getD j 0))
      have HD := Lib.hid (rdigit_ok (l.getD j 0))
      generalize l.getD j 0 = y at *
      unfold runB at HT HF
      generalize letterB y = t at *
      generalize digitB y = g at *
      clear hp hm
      cases t <;> cases d <;> cases g
      all_goals
        go_wp2_with (first | (go_at_call 25; refine (HL.out _).mono ?_; rintro e w1 ⟨rfl, rfl⟩) | (go_at_call 27; refine (HD.out _).mono ?_; rintro e w1 ⟨rfl, rfl⟩))
        first
          | (have HR := Lib.hid (HF.out rfl); go_ret; rw [HR.out]; exact ⟨rfl, rfl⟩)
          | (have HR := Lib.hid (HT.out rfl)
             go_roundw
             case rel => exact ⟨j + 1, by go_num, by omega, HR, by trivial⟩
             case measure => simp [intOf]; omega)
    · have hks : ¬ (j : Int) < (s.size : Int) := by have := HZ.out; omega
      have HR : Hid (N = j) := Lib.hid (by rw [hp.out, tw_past (by omega)]; rfl)
      clear hp hm
      go_wp2_with fail
      go_ret
      rw [HR.out]
      exact ⟨rfl, rfl⟩

end Go.Proofs.YtmgohahjocdeeaaDoor

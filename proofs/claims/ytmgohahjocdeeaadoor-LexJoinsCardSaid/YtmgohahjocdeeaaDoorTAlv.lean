/-
  Layer 6 (lex): the example of the chapter holds. By the verifier.
-/
import Derived.Test.YtmgohahjocdeeaaDoorTTk2
set_option linter.unusedVariables false
namespace Go.Proofs.YtmgohahjocdeeaaDoor
open Go.RowKit

def exB : List Nat := [102, 114, 97, 109, 101, 32, 48, 120, 49, 48, 59]
def exT : List Tok := [⟨1, [102, 114, 97, 109, 101], 0, 1, 1⟩, ⟨2, [48, 120, 49, 48], 16, 1, 7⟩, ⟨4, [59], 0, 1, 11⟩, ⟨0, [], 0, 1, 12⟩]

theorem num16 : numV [48, 120, 49, 48] = some 16 := by
  have h0 : ([48, 120, 49, 48] : List Nat).map UInt8.ofNat = [48, 120, 49, 48] := by decide
  unfold numV
  rw [h0]
  have h1 : Lib.hasPrefix [48, 120, 49, 48] [48, 120] = true := by decide
  have h2 : Lib.trimPrefix [48, 120, 49, 48] [48, 120] = [49, 48] := by decide
  have h3 : parse16 [49, 48] = some 16 := by decide
  have h4 : digs 16 16 = [49, 48] := by
    rw [digs_big (by omega) (by omega), digs_small (by omega)]
    decide
  unfold parseO
  rw [if_pos h1, h2, h3]
  show (if form16 16 = [48, 120, 49, 48] then some ((16 : Nat) : Int) else none) = some 16
  unfold form16
  rw [h4, if_pos rfl]
  rfl

theorem ex_toks : tokensV numV exB = (exT, none) := by
  have r1 : (⟨0, 1, [102, 114, 97, 109, 101], 0, 5⟩ : Rd) = readL numV (exB.drop 0) := rfl
  have r2 : (⟨0, 2, [48, 120, 49, 48], 16, 4⟩ : Rd) = readL numV (([32, 48, 120, 49, 48, 59] : List Nat).drop 1) := by
    show _ = readN [48, 120, 49, 48] (numV [48, 120, 49, 48])
    rw [num16]
    rfl
  have r3 : (⟨0, 4, [59], 0, 1⟩ : Rd) = readL numV (([59] : List Nat).drop 0) := rfl
  have r4 : (⟨0, 0, [], 0, 0⟩ : Rd) = readL numV (([] : List Nat).drop 0) := rfl
  have t4 : toks numV 9 [] (1, 12) = ([⟨0, [], 0, 1, 12⟩], none) := toks_end 8 (1, 12) (s := 0) rfl r4 rfl rfl
  have t3 : toks numV 10 [59] (1, 11) = (⟨4, [59], 0, 1, 11⟩ :: [⟨0, [], 0, 1, 12⟩], none) := by
    rw [toks_more 9 (1, 11) (s := 0) rfl r3 rfl (by decide)]
    show (_ :: (toks numV 9 [] (1, 12)).1, (toks numV 9 [] (1, 12)).2) = _
    rw [t4]
    rfl
  have t2 : toks numV 11 [32, 48, 120, 49, 48, 59] (1, 6) = (⟨2, [48, 120, 49, 48], 16, 1, 7⟩ :: ⟨4, [59], 0, 1, 11⟩ :: [⟨0, [], 0, 1, 12⟩], none) := by
    rw [toks_more 10 (1, 6) (s := 1) rfl r2 rfl (by decide)]
    show (_ :: (toks numV 10 [59] (1, 11)).1, (toks numV 10 [59] (1, 11)).2) = _
    rw [t3]
    rfl
  show toks numV 12 exB (1, 1) = _
  rw [toks_more 11 (1, 1) (s := 0) rfl r1 rfl (by decide)]
  show (_ :: (toks numV 11 [32, 48, 120, 49, 48, 59] (1, 6)).1, (toks numV 11 [32, 48, 120, 49, 48, 59] (1, 6)).2) = _
  rw [t2]
  rfl

theorem str_lit6 (l : List Nat) (b : Bool) (hb : l.all (fun x => decide (x < 256)) = b) (h : b = true) (s : ByteArray) (hs : s = strB l) : Str s l := ⟨hs, fun x hx => by
  rw [← hb] at h
  have := List.all_eq_true.1 h x hx
  simpa using this⟩
theorem ex_str : Str ⟨#[102, 114, 97, 109, 101, 32, 48, 120, 49, 48, 59]⟩ exB := str_lit6 _ _ rfl rfl _ (by kernel_rfl)
theorem ex_10 : strB [48, 120, 49, 48] = ⟨#[48, 120, 49, 48]⟩ := by kernel_rfl

set_option maxHeartbeats 1000000 in
theorem alive_ok (w : World) (hE : Env w) :
    Calls Tryd.prog 9 #[] w fun e w' => e = .returned (.bool true) ∧ Below w.heap.size w w' := by
  have hT := ptokens_ok _ exB ex_str (by unfold exB; decide) (by rw [ex_toks]; decide) w hE
  rw [ex_toks] at hT
  have HT := Lib.hid hT
  clear hT hE
  go_enter Tryd.func9, Tryd.ntmps9
  go_wp2_with fail
  refine HT.out.mono ?_
  rintro e w1 ⟨hb, h1, -⟩
  obtain ⟨A, c, rfl, ho⟩ := h1 rfl
  obtain ⟨A', c', hv, hce, -⟩ := ho.cells
  injection hv with hA
  subst hA
  obtain ⟨b, o, rfl, hlt, hc⟩ := hce.some (by decide)
  have d5 : w1.cell? ⟨b, o + 5, none⟩ = some (.int .i64 2) := hc 5 _ rfl
  have d6 : w1.cell? ⟨b, o + 6, none⟩ = some (.string ⟨#[48, 120, 49, 48]⟩) := by rw [← ex_10]; exact hc 6 _ rfl
  have d7 : w1.cell? ⟨b, o + 7, none⟩ = some (.int .u64 16) := hc 7 _ rfl
  have d8 : w1.cell? ⟨b, o + 8, none⟩ = some (.int .i64 1) := hc 8 _ rfl
  have d9 : w1.cell? ⟨b, o + 9, none⟩ = some (.int .i64 7) := hc 9 _ rfl
  have d15 : w1.cell? ⟨b, o + 15, none⟩ = some (.int .i64 0) := hc 15 _ rfl
  have HB := Lib.hid hb
  clear hb h1 ho hce hc
  unfold faultA
  go_wp2_with fail
  go_ret
  exact ⟨rfl, HB.out.alloc HB.out.size _⟩

end Go.Proofs.YtmgohahjocdeeaaDoor

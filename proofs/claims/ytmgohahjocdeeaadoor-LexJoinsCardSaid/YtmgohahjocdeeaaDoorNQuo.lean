/-
  Layer 4: name.Quote and the reference's. By the verifier.
-/
import Derived.Test.YtmgohahjocdeeaaDoorNVal
import Derived.Test.YtmgohahjocdeeaaDoorMApp
set_option linter.unusedVariables false
namespace Go.Proofs.YtmgohahjocdeeaaDoor
open Go.RowKit

/-- Bytes that the call has made, and one byte more as a literal. -/
structure Lit8 (w : World) (base : Nat) (sv : Value) (l : List Nat) (x : Nat) (W wr : World) : Prop where
  own : OwnB W base sv l
  lit : Bys W (some ⟨wr.heap.size, 0, none⟩) [x]
  below : Below base w W
  size : base ≤ W.heap.size

theorem lit8 {w wr : World} {base : Nat} {sv : Value} {l : List Nat} (ho : OwnB wr base sv l) (hb : Below base w wr) (hs : base ≤ wr.heap.size) (x : Nat) (hx : x < 256) (z : Int) (hz : z = (x : Int)) :
    Lit8 w base sv l x (wr.alloc (.cells #[.int .u8 z] 5)) wr := by
  have hA : Below wr.heap.size wr (wr.alloc (.cells #[.int .u8 z] 5)) := (Below.refl _ _).alloc (Nat.le_refl _) _
  refine ⟨ho.below hA, bys_lit wr _ _ _ (by rw [hz]; rfl) (by intro y hy; simp at hy; omega) (by unfold maxLen; simp), hb.trans (hA.mono hs), by simp; omega⟩

/-- A string that is handed back, and memory that is made. -/
def StrRes (w : World) (l : List Nat) (e : Ending) (w' : World) : Prop := e = .returned (.string (strB l)) ∧ Below w.heap.size w w'

theorem own_lit1 (w : World) (x : Nat) (z : Int) (hz : z = (x : Int)) : OwnB (w.alloc (.cells #[.int .u8 z] 5)) w.heap.size (.slice (some ⟨w.heap.size, 0, none⟩) 1 1) [x] :=
  by
  have := World.ownsRow_lit w (e := 5) (size := 1) #[.int .u8 z] 1 (Nat.le_refl _) (by unfold maxLen; omega) rfl
  subst hz
  exact this

set_option maxHeartbeats 1000000 in
theorem quote_ok (s : ByteArray) (l : List Nat) (hs : Str s l) (hm : l.length ≤ maxLen) (w : World) :
    Calls Tryd.prog 30 #[.string s] w fun e w' => StrRes w (quoteV l) e w' := by
  have HV := Lib.hid (valid_ok s l hs hm)
  cases hv : nameB l with
  | false =>
    rw [hv] at HV
    have hr : quoteV l = [] := by unfold quoteV; rw [hv]; rfl
    rw [hr]
    clear hr hv hs hm
    go_enter Tryd.func30, Tryd.ntmps30
    go_wp2_with fail
    refine (HV.out _).mono ?_
    rintro e w1 ⟨rfl, rfl⟩
    go_wp2_with fail
    go_ret
    exact ⟨rfl, Below.refl _ _⟩
  | true =>
    rw [hv] at HV
    have hr : quoteV l = quoteL l := by unfold quoteV; rw [hv]; rfl
    rw [hr]
    have hn30 := ((nameB_iff l).1 hv).2.1
    have HN := Lib.hid hn30
    have HZ := Lib.hid hs.size
    have HS := Lib.hid hs
    have HO0 := Lib.hid (own_lit1 w 34 34 rfl)
    have HB0 : Hid (Below w.heap.size w (w.alloc (.cells #[.int .u8 34] 5))) := Lib.hid ((Below.refl _ _).alloc (Nat.le_refl _) _)
    clear hr hv hs hm
    go_enter Tryd.func30, Tryd.ntmps30
    go_wp2_with fail
    refine (HV.out _).mono ?_
    rintro e w1 ⟨rfl, rfl⟩
    go_wp2_with fail
    go_loopw [3, 11] (fun v i wr => ∃ (k : Nat) (sv : Value), sv = v ∧ k ≤ l.length ∧ i = .int .i64 (k : Int) ∧ Hid (OwnB wr w.heap.size sv (34 :: esc (l.take k)) ∧ Below w.heap.size w wr)) (fun _ i _ => l.length - (intOf i).toNat)
    case atStart => exact ⟨0, _, rfl, by omega, rfl, Lib.hid ⟨by simpa [esc] using HO0.out, HB0.out⟩⟩
    case round =>
      obtain ⟨k, sv, rfl, hk, rfl, ho⟩ := hrel
      by_cases hlt : k < l.length
      · have hi := HS.out.index hlt
        have hks : (k : Int) < (s.size : Int) := by have := HZ.out; omega
        have HE := Lib.hid (escaped_ok (l.getD k 0))
        have HX := Lib.hid (HS.out.2.get k)
        have hes := esc_snoc l k hlt
        have HLN : Hid ((34 :: esc (l.take k)).length ≤ 100) := Lib.hid (by have := (esc_len (l.take k)).2; have := List.length_take_le k l; simp; have := HN.out; have := l.length_take_le' k; omega)
        generalize l.getD k 0 = x at *
        cases hx : escB x with
        | false =>
          rw [hx] at hes HE
          have HES : Hid (34 :: esc (l.take (k + 1)) = (34 :: esc (l.take k)) ++ [x]) := Lib.hid (by rw [hes]; simp)
          have HL := Lib.hid (lit8 ho.out.1 ho.out.2 ho.out.2.size x HX.out x rfl)
          clear hes hx
          generalize 34 :: esc (l.take k) = m at *
          go_wp2_with fail
          refine (HE.out _).mono ?_
          rintro e w1 ⟨rfl, rfl⟩
          go_wp2_with ((with_reducible refine wpList_append_t 51 Tryd.underlying51 rfl (.tmp 21) (.tmp 25) rfl w.heap.size sv m rfl HL.out.own (some ⟨wr.heap.size, 0, none⟩) [x] 1 1 rfl rfl HL.out.lit (by have := HLN.out; omega) HL.out.size ?_); intro v2 w2 ho2 hg2 hf2; have hb2 := grown_below HL.out.below HL.out.own hg2 HL.out.size; have HO2 := Lib.hid (And.intro ho2 hb2); clear ho2 hg2 hf2 hb2)
          go_roundw
          case rel => exact ⟨k + 1, v2, rfl, by omega, by go_num, Lib.hid (by rw [HES.out]; exact HO2.out)⟩
          case measure => simp [intOf]; omega
        | true =>
          rw [hx] at hes HE
          have HES : Hid (34 :: esc (l.take (k + 1)) = ((34 :: esc (l.take k)) ++ [92]) ++ [x]) := Lib.hid (by rw [hes]; simp)
          have HL := Lib.hid (lit8 ho.out.1 ho.out.2 ho.out.2.size 92 (by omega) 92 rfl)
          clear hes hx
          generalize 34 :: esc (l.take k) = m at *
          go_wp2_with fail
          refine (HE.out _).mono ?_
          rintro e w1 ⟨rfl, rfl⟩
          go_wp2_with (first
            | ((with_reducible refine wpList_append_t 51 Tryd.underlying51 rfl (.tmp 18) (.tmp 19) rfl w.heap.size sv m rfl HL.out.own (some ⟨wr.heap.size, 0, none⟩) [92] 1 1 rfl rfl HL.out.lit (by have := HLN.out; omega) HL.out.size ?_); intro v2 w2 ho2 hg2 hf2; have hb2 := grown_below HL.out.below HL.out.own hg2 HL.out.size; have HM := Lib.hid (lit8 ho2 hb2 hb2.size x HX.out x rfl); clear ho2 hg2 hf2 hb2)
            | ((with_reducible refine wpList_append_t 51 Tryd.underlying51 rfl (.tmp 21) (.tmp 25) rfl w.heap.size v2 (m ++ [92]) rfl HM.out.own (some ⟨w2.heap.size, 0, none⟩) [x] 1 1 rfl rfl HM.out.lit (by have := HLN.out; simp; omega) HM.out.size ?_); intro v3 w3 ho2 hg2 hf2; have hb2 := grown_below HM.out.below HM.out.own hg2 HM.out.size; have HO2 := Lib.hid (And.intro ho2 hb2); clear ho2 hg2 hf2 hb2))
          go_roundw
          case rel => exact ⟨k + 1, v3, rfl, by omega, by go_num, Lib.hid (by rw [HES.out]; exact HO2.out)⟩
          case measure => simp [intOf]; omega
      · have hks : ¬ (k : Int) < (s.size : Int) := by have := HZ.out; omega
        have HT : Hid (l.take k = l) := Lib.hid (List.take_of_length_le (by omega))
        have HL := Lib.hid (lit8 ho.out.1 ho.out.2 ho.out.2.size 34 (by omega) 34 rfl)
        rw [HT.out] at HL ho
        have HLN : Hid ((34 :: esc l).length ≤ 100) := Lib.hid (by have := (esc_len l).2; simp; have := HN.out; omega)
        have HQ : Hid (quoteL l = (34 :: esc l) ++ [34] ∧ Bs (quoteL l) ∧ (quoteL l).length ≤ maxLen) := Lib.hid ⟨rfl, by
          intro y hy
          unfold quoteL at hy
          rcases List.mem_cons.1 hy with rfl | hy
          · omega
          · rcases List.mem_append.1 hy with hy | hy
            · exact esc_bs HS.out.2 y hy
            · simp at hy; omega, by have := HLN.out; simp at this; simp [quoteL, maxLen]; omega⟩
        obtain ⟨q, hq⟩ : ∃ q, q = quoteL l := ⟨_, rfl⟩
        rw [← hq] at HQ
        have HQE := Lib.hid hq
        clear hq
        generalize 34 :: esc l = m at *
        clear hlt HT
        go_wp2_with ((with_reducible refine wpList_append_t 51 Tryd.underlying51 rfl (.tmp 28) (.tmp 29) rfl w.heap.size sv m rfl HL.out.own (some ⟨wr.heap.size, 0, none⟩) [34] 1 1 rfl rfl HL.out.lit (by have := HLN.out; omega) HL.out.size ?_); intro v2 w2 ho2 hg2 hf2; have hb2 := grown_below HL.out.below HL.out.own hg2 HL.out.size; rw [← HQ.out.1] at ho2; obtain ⟨A2, c2, rfl, hy2, -, -⟩ := ho2.shape HQ.out.2.1 HQ.out.2.2; have hcv := conv_ok c2 hy2; have HB2 := Lib.hid hb2; clear ho2 hg2 hf2 hb2 hy2)
        go_ret
        rw [← HQE.out]
        exact ⟨rfl, HB2.out⟩


end Go.Proofs.YtmgohahjocdeeaaDoor

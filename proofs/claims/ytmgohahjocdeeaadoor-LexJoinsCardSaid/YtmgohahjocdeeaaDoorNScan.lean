/-
  Layer 4: the scanner in memory, its states, and name.Scan. By the verifier.
-/
import Derived.Test.YtmgohahjocdeeaaDoorNQuo
import Derived.Test.YtmgohahjocdeeaaDoorNRsc
import Derived.Test.YtmgohahjocdeeaaDoorNMach
set_option linter.unusedVariables false
namespace Go.Proofs.YtmgohahjocdeeaaDoor
open Go.RowKit

/-- A scanner: its block, the bytes of the name, whether it is closed. -/
def Scn (w : World) (base B : Nat) (o : List Nat) (c : Bool) : Prop :=
  ∃ sv, Row w B 115 2 (fun i => if i = 0 then sv else .bool c) ∧ OwnB w base sv o ∧ sv.ownBlock ≠ some B ∧ Bs o ∧ base ≤ B ∧ base ≤ w.heap.size ∧ o.length ≤ 30

/-- A state as a value. -/
def stV (B st : Nat) : Value := if st = 0 then .nilFunc else if st = 1 then .func (.func 87) #[.pointer (some ⟨B, 0, none⟩)] #[] else .func (.func 91) #[.pointer (some ⟨B, 0, none⟩)] #[]

/-- What a state answers. -/
def StRes (w : World) (base B : Nat) (q : Nat × List Nat × Bool) (e : Ending) (w' : World) : Prop := e = .returned (stV B q.1) ∧ Scn w' base B q.2.1 q.2.2 ∧ Below base w w'

theorem Scn.cells {w : World} {base B : Nat} {o : List Nat} {c : Bool} (h : Scn w base B o c) :
    ∃ A n, OwnB w base (.slice A o.length n) o ∧ Bys w A o ∧ w.cell? ⟨B, 0, none⟩ = some (.slice A o.length n) ∧ w.frozen? ⟨B, 0, none⟩ = false ∧ w.cell? ⟨B, 1, none⟩ = some (.bool c) ∧ w.frozen? ⟨B, 1, none⟩ = false ∧ B < w.heap.size ∧ (Value.slice A o.length n).ownBlock ≠ some B := by
  obtain ⟨sv, hr, ho, hne, hb, h1, h2, h3⟩ := h
  obtain ⟨A, n, rfl, hy, -⟩ := ho.slice hb (by unfold maxLen; omega)
  exact ⟨A, n, ho, hy, hr.cell (i := 0) (by omega), hr.free 0, hr.cell (i := 1) (by omega), hr.free 1, hr.lt, hne⟩

theorem Scn.close {w : World} {base B : Nat} {o : List Nat} {c : Bool} (h : Scn w base B o c) : Scn (w.setCell ⟨B, 1, none⟩ (.bool true)) base B o true ∧ Below base w (w.setCell ⟨B, 1, none⟩ (.bool true)) := by
  obtain ⟨sv, hr, ho, hne, hb, h1, h2, h3⟩ := h
  have ht : Turn (fun k => k = B) w (w.setCell ⟨B, 1, none⟩ (.bool true)) := Turn.setCell (S := fun k => k = B) (Turn.refl _ w) rfl _
  refine ⟨⟨sv, (hr.set (i := 1) (by omega) _).congr fun i hi => ?_, ht.own ho (fun k hk e => hne (by rw [hk, e])), hne, hb, h1, by simpa using h2, h3⟩, ht.below (fun k hk => by rw [hk]; exact h1) h2⟩
  by_cases hi1 : i = 1
  · rw [if_pos hi1, if_neg (by omega)]
  · obtain rfl : i = 0 := by omega
    rfl

theorem Scn.push {w w1 : World} {base B : Nat} {o : List Nat} {c : Bool} (h : Scn w base B o c) {sv : Value} (hc : w.cell? ⟨B, 0, none⟩ = some sv) {x : Nat} (hx : x < 256) (hl : o.length ≠ 30) {W : World} (hW : Below w.heap.size w W) {v' : Value} (ho' : OwnB w1 base v' (o ++ [x])) (hg : W.grownBy w1 sv.ownBlock) (hf : v'.ownBlock = sv.ownBlock ∨ v'.ownBlock = some W.heap.size) :
    Scn (w1.setCell ⟨B, 0, none⟩ v') base B (o ++ [x]) c ∧ Below base w (w1.setCell ⟨B, 0, none⟩ v') := by
  obtain ⟨sv0, hr, ho, hne, hb, h1, h2, h3⟩ := h
  have hsv : sv = sv0 := by
    have := hr.cell (i := 0) (by omega)
    rw [if_pos rfl] at this
    rw [this] at hc
    injection hc with hc
    exact hc.symm
  subst hsv
  have hBW : B < W.heap.size := Nat.lt_of_lt_of_le hr.lt hW.size
  have hrW : Row W B 115 2 (fun i => if i = 0 then sv else .bool c) := (Turn.of_below (S := fun _ => False) hW).row hr id
  have ht := Turn.of_grown hg
  have hr1 := ht.row hrW (fun e => hne e)
  have hv' : v'.ownBlock ≠ some B := by
    rcases hf with hf | hf
    · rw [hf]; exact hne
    · rw [hf]
      intro e
      injection e with e
      omega
  have ht2 : Turn (fun k => k = B ∨ sv.ownBlock = some k) w (w1.setCell ⟨B, 0, none⟩ v') :=
    ((Turn.of_below (S := fun k => k = B ∨ sv.ownBlock = some k) hW).trans (ht.mono (S' := fun k => k = B ∨ sv.ownBlock = some k) (fun i _ hi => .inr hi)) (fun i _ hi => hi)).setCell (.inl rfl) v'
  have hb2 : Below base w (w1.setCell ⟨B, 0, none⟩ v') := ht2.below (fun k hk => by
    rcases hk with rfl | hk
    · exact h1
    · exact (ho.lt hk).1) h2
  refine ⟨⟨v', (hr1.set (i := 0) (by omega) v').congr fun i hi => ?_, ((Turn.refl (fun k => k = B) w1).setCell rfl v').own ho' (fun k hk e => hv' (by rw [hk, e])), hv', ?_, h1, Nat.le_trans h2 hb2.size, by simp; omega⟩, hb2⟩
  · by_cases hi0 : i = 0
    · rw [if_pos hi0, if_pos hi0]
    · rw [if_neg hi0, if_neg hi0, if_neg hi0]
  · intro y hy
    rcases List.mem_append.1 hy with hy | hy
    · exact hb y hy
    · rw [List.mem_singleton.1 hy]; exact hx

set_option maxHeartbeats 1000000 in
theorem take_ok (base B : Nat) (o : List Nat) (c : Bool) (x : Nat) (hx : x < 256) (w : World) (hS : Scn w base B o c) :
    Calls Tryd.prog 92 #[.pointer (some ⟨B, 0, none⟩), .int .u8 (x : Int)] w fun e w' => StRes w base B (takeM o c x) e w' := by
  have hmf : ∀ (fn : Fn) (first cap : Array Value) (w : World), (Instr.makeFunc fn first cap).run Tryd.prog w = .ok (.func fn first cap) w := fun _ _ _ _ => rfl
  obtain ⟨A, n, ho, hy, hcell, hfr, -, -, hB, hne⟩ := hS.cells
  have HP := Lib.hid (printable_ok x)
  have HS := Lib.hid hS
  cases hv : nameByte x with
  | false =>
    have hr : takeM o c x = (0, o, c) := if_neg (fun h => by rw [hv] at h; exact absurd h.1 (by decide))
    rw [hr]
    rw [hv] at HP
    clear hr hv hS ho hy hne
    go_enter Tryd.func92, Tryd.ntmps92
    go_wp2_with fail
    refine (HP.out _).mono ?_
    rintro e w1 ⟨rfl, rfl⟩
    go_wp2_with fail
    go_ret
    exact ⟨rfl, HS.out, Below.refl _ _⟩
  | true =>
    rw [hv] at HP
    by_cases h30 : o.length = 30
    · have hr : takeM o c x = (0, o, c) := if_neg (fun h => h.2 h30)
      rw [hr]
      rw [h30] at hcell
      clear hr hv hS ho hy hne h30
      go_enter Tryd.func92, Tryd.ntmps92
      go_wp2_with fail
      refine (HP.out _).mono ?_
      rintro e w1 ⟨rfl, rfl⟩
      go_wp2_with fail
      go_ret
      exact ⟨rfl, HS.out, Below.refl _ _⟩
    · have hr : takeM o c x = (1, o ++ [x], c) := if_pos ⟨hv, h30⟩
      rw [hr]
      have g30 : ((o.length : Int) == 30) = false := by rw [beq_eq_false_iff_ne]; omega
      have H30 := Lib.hid h30
      have hl30 : o.length ≤ 30 := by obtain ⟨sv, h1, h2, h3, h4, h5, h6, h7⟩ := hS; exact h7
      have HL30 := Lib.hid hl30
      have HL := Lib.hid (lit8 ho (Below.refl base w) (by obtain ⟨sv, h1, h2, h3, h4, h5, h6, h7⟩ := hS; exact h6) x hx x rfl)
      have HX := Lib.hid hx
      have HNE := Lib.hid hne
      have HA : Hid (Below w.heap.size w (w.alloc (.cells #[.int .u8 (x : Int)] 5))) := Lib.hid ((Below.refl _ _).alloc (Nat.le_refl _) _)
      clear hr hv hS ho hy hne h30 hx hl30
      go_enter Tryd.func92, Tryd.ntmps92
      go_wp2_with fail
      refine (HP.out _).mono ?_
      rintro e w1 ⟨rfl, rfl⟩
      go_wp2_with ((with_reducible refine wpList_append_t 51 Tryd.underlying51 rfl (.tmp 20) (.tmp 22) rfl base (.slice A o.length n) o rfl HL.out.own (some ⟨w.heap.size, 0, none⟩) [x] 1 1 rfl rfl HL.out.lit (by have := HL30.out; omega) HL.out.size ?_); intro v1 w1 ho1 hg1 hf1; have hB1 : B < w1.heap.size := Nat.lt_of_lt_of_le (Nat.lt_of_lt_of_le hB HA.out.size) hg1.size; have hblk := (hg1.block B (Nat.lt_of_lt_of_le hB HA.out.size) (fun e => HNE.out e.symm)).trans (HA.out.block B hB); have hcell1 := (World.cell?_of_block (w := w) (a := ⟨B, 0, none⟩) hblk).trans hcell; have hfr1 := (World.frozen?_of_block (w := w) (a := ⟨B, 0, none⟩) hblk).trans hfr; have HF := Lib.hid (HS.out.push hcell HX.out H30.out HA.out ho1 hg1 hf1); obtain ⟨A1, c1, hv1, -⟩ := ho1.slice HF.out.1.choose_spec.2.2.2.1 (by have := HL30.out; unfold maxLen; simp; omega); generalize hlq : (o ++ [x]).length = lq at hv1; subst hv1; clear ho1 hg1 hf1 hblk hlq)
      go_ret
      exact ⟨rfl, HF.out⟩

theorem special_ok (base B : Nat) (o : List Nat) (c : Bool) (x : Nat) (hx : x < 256) (w : World) (hS : Scn w base B o c) :
    Calls Tryd.prog 91 #[.pointer (some ⟨B, 0, none⟩), .int .u8 (x : Int)] w fun e w' => StRes w base B (stepM 2 o c x) e w' := by
  have HE := Lib.hid (escaped_ok x)
  cases he : escB x with
  | false =>
    have hr : stepM 2 o c x = (0, o, c) := by unfold stepM; rw [if_neg (by omega), he]; rfl
    rw [hr]
    rw [he] at HE
    have HS := Lib.hid hS
    clear hr he hS
    go_enter Tryd.func91, Tryd.ntmps91
    go_wp2_with fail
    refine (HE.out _).mono ?_
    rintro e w1 ⟨rfl, rfl⟩
    go_wp2_with fail
    go_ret
    exact ⟨rfl, HS.out, Below.refl _ _⟩
  | true =>
    have hr : stepM 2 o c x = takeM o c x := by unfold stepM; rw [if_neg (by omega), if_pos he]
    rw [hr]
    rw [he] at HE
    have HT := Lib.hid (take_ok base B o c x hx w hS)
    generalize takeM o c x = q at *
    clear hr he hS hx
    go_enter Tryd.func91, Tryd.ntmps91
    go_wp2_with fail
    refine (HE.out _).mono ?_
    rintro e w1 ⟨rfl, rfl⟩
    go_wp2_with fail
    refine HT.out.mono ?_
    rintro e w1 ⟨rfl, h⟩
    have H := Lib.hid h
    clear h
    go_wp2_with fail
    go_ret
    exact ⟨rfl, H.out⟩

theorem inside_ok (base B : Nat) (o : List Nat) (c : Bool) (x : Nat) (hx : x < 256) (w : World) (hS : Scn w base B o c) :
    Calls Tryd.prog 87 #[.pointer (some ⟨B, 0, none⟩), .int .u8 (x : Int)] w fun e w' => StRes w base B (stepM 1 o c x) e w' := by
  have hmf : ∀ (fn : Fn) (first cap : Array Value) (w : World), (Instr.makeFunc fn first cap).run Tryd.prog w = .ok (.func fn first cap) w := fun _ _ _ _ => rfl
  by_cases h34 : x = 34
  · subst h34
    have hr : stepM 1 o c 34 = (0, o, true) := rfl
    rw [hr]
    obtain ⟨A, n, -, -, -, -, hcell, hfr, hB, -⟩ := hS.cells
    have HC := Lib.hid hS.close
    clear hr hS hx
    go_enter Tryd.func87, Tryd.ntmps87
    go_wp2_with fail
    go_ret
    exact ⟨rfl, HC.out⟩
  · by_cases h92 : x = 92
    · subst h92
      have hr : stepM 1 o c 92 = (2, o, c) := rfl
      rw [hr]
      have HS := Lib.hid hS
      clear hr hS hx h34
      go_enter Tryd.func87, Tryd.ntmps87
      go_wp2_with fail
      go_ret
      exact ⟨rfl, HS.out, Below.refl _ _⟩
    · have hr : stepM 1 o c x = takeM o c x := by unfold stepM; rw [if_pos rfl, if_neg h34, if_neg h92]
      rw [hr]
      have HT := Lib.hid (take_ok base B o c x hx w hS)
      generalize takeM o c x = q at *
      have g34 : ((x : Int) == 34) = false := by rw [beq_eq_false_iff_ne]; omega
      have g92 : ((x : Int) == 92) = false := by rw [beq_eq_false_iff_ne]; omega
      clear hr hS hx h34 h92
      go_enter Tryd.func87, Tryd.ntmps87
      go_wp2_with fail
      refine HT.out.mono ?_
      rintro e w1 ⟨rfl, h⟩
      have H := Lib.hid h
      clear h
      go_wp2_with fail
      go_ret
      exact ⟨rfl, H.out⟩

theorem stepM_le (st : Nat) (o : List Nat) (c : Bool) (x : Nat) : (stepM st o c x).1 ≤ 2 := by
  unfold stepM takeM
  repeat' split
  all_goals simp

/-- What a run answers. -/
def RdRes (w : World) (base B : Nat) (q : Nat × List Nat × Bool) (e : Ending) (w' : World) : Prop := e = .returned (.int .i64 (q.1 : Int)) ∧ Scn w' base B q.2.1 q.2.2 ∧ Below base w w'

set_option maxHeartbeats 1000000 in
set_option maxRecDepth 20000 in
theorem read_ok (base B : Nat) (s : ByteArray) (m : List Nat) (hs : Str s m) (hm : m.length ≤ maxLen) (w : World) (hS : Scn w base B [] false) :
    Calls Tryd.prog 83 #[.pointer (some ⟨B, 0, none⟩), .string s] w fun e w' => RdRes w base B (runM 1 [] false 0 m) e w' := by
  have hmf : ∀ (fn : Fn) (first cap : Array Value) (w : World), (Instr.makeFunc fn first cap).run Tryd.prog w = .ok (.func fn first cap) w := fun _ _ _ _ => rfl
  have q1 : ∀ (fn : Fn) (first cap : Array Value) (w : World), (binOp .neq 120 (.func fn first cap) .nilFunc).run Tryd.prog w = .ok (.bool true) w := fun _ _ _ _ => rfl
  have q0 : ∀ (w : World), (binOp .neq 120 .nilFunc .nilFunc).run Tryd.prog w = .ok (.bool false) w := fun _ => rfl
  unfold maxLen at hm
  have HS := Lib.hid hs
  have HZ := Lib.hid hs.size
  have H0 := Lib.hid hS
  clear hs hS
  go_enter Tryd.func83, Tryd.ntmps83
  go_wp2_with fail
  go_loopw [6, 5] (fun v i wr => ∃ (k st : Nat) (o : List Nat) (c : Bool), v = stV B st ∧ st ≤ 2 ∧ k ≤ m.length ∧ i = .int .i64 (k : Int) ∧ Hid (Scn wr base B o c ∧ Below base w wr ∧ runM 1 [] false 0 m = runM st o c k (m.drop k))) (fun _ i _ => m.length - (intOf i).toNat)
  case atStart => exact ⟨0, 1, [], false, rfl, by omega, by omega, rfl, Lib.hid ⟨H0.out, Below.refl _ _, rfl⟩⟩
  case round =>
    obtain ⟨k, st, o, c, rfl, hst, hk, rfl, ho⟩ := hrel
    by_cases h0 : st = 0
    · subst h0
      have HR : Hid (runM 1 [] false 0 m = (k, o, c)) := Lib.hid (by rw [ho.out.2.2, runM_stop])
      unfold stV
      clear hst
      go_wp2_with fail
      go_ret
      rw [HR.out]
      exact ⟨rfl, ho.out.1, ho.out.2.1⟩
    · by_cases hlt : k < m.length
      · have hi := HS.out.index hlt
        have hks : (k : Int) < (s.size : Int) := by have := HZ.out; omega
        have HX := Lib.hid (HS.out.2.get k)
        have HR : Hid (runM 1 [] false 0 m = runM (stepM st o c (m.getD k 0)).1 (stepM st o c (m.getD k 0)).2.1 (stepM st o c (m.getD k 0)).2.2 (k + 1) (m.drop (k + 1))) := Lib.hid (by rw [ho.out.2.2, drop_at hlt, runM_step h0])
        generalize m.getD k 0 = x at *
        by_cases h1 : st = 1
        · subst h1
          have HC := Lib.hid (inside_ok base B o c x HX.out wr ho.out.1)
          have HQ := Lib.hid (stepM_le 1 o c x)
          generalize stepM 1 o c x = q at *
          unfold stV
          clear h0 hst
          go_wp2_with fail
          refine HC.out.mono ?_
          rintro e w1 ⟨rfl, h⟩
          have H := Lib.hid h
          clear h
          go_wp2_with fail
          go_roundw
          case rel => exact ⟨k + 1, q.1, q.2.1, q.2.2, rfl, HQ.out, by omega, by go_num, Lib.hid ⟨H.out.1, ho.out.2.1.trans H.out.2, HR.out⟩⟩
          case measure => simp [intOf]; omega
        · obtain rfl : st = 2 := by omega
          have HC := Lib.hid (special_ok base B o c x HX.out wr ho.out.1)
          have HQ := Lib.hid (stepM_le 2 o c x)
          generalize stepM 2 o c x = q at *
          unfold stV
          clear h0 hst h1
          go_wp2_with fail
          refine HC.out.mono ?_
          rintro e w1 ⟨rfl, h⟩
          have H := Lib.hid h
          clear h
          go_wp2_with fail
          go_roundw
          case rel => exact ⟨k + 1, q.1, q.2.1, q.2.2, rfl, HQ.out, by omega, by go_num, Lib.hid ⟨H.out.1, ho.out.2.1.trans H.out.2, HR.out⟩⟩
          case measure => simp [intOf]; omega
      · have hks : ¬ (k : Int) < (s.size : Int) := by have := HZ.out; omega
        have HR : Hid (runM 1 [] false 0 m = (k, o, c)) := Lib.hid (by rw [ho.out.2.2, List.drop_of_length_le (by omega)]; rfl)
        have hcase : st = 1 ∨ st = 2 := by omega
        rcases hcase with rfl | rfl
        all_goals
          unfold stV
          clear h0 hst
          go_wp2_with fail
          go_ret
          rw [HR.out]
          exact ⟨rfl, ho.out.1, ho.out.2.1⟩

end Go.Proofs.YtmgohahjocdeeaaDoor

/-
  Layer 3 (buf): Set32. By the verifier.
-/
import Derived.Test.YtajkneekehkhbaaBRef
import Derived.Deep.QuietTactic
import Derived.BigQuiet
set_option linter.unusedVariables false
namespace Go.Proofs.Ytajkneekehkhbaa
open Go.RowKit

theorem quiet_left {P : Program} {f : FuncId} {args : Array Value} {w : World} {n : Nat} {v : Value}
    (h : Calls P f args (w.drewN n) fun e w' => e = .returned v ∧ w.drewN n = w') : Calls P f args (w.drewN n) fun e w'' => e = .returned v ∧ ∃ m, w'' = w.drewN m :=
  h.mono fun _ _ ⟨he, hm⟩ => ⟨he, n, hm.symm⟩

/-- A part is replaced. -/
def setL (l : List Nat) (k : Nat) (bs : List Nat) : List Nat := l.take k ++ bs ++ l.drop (k + bs.length)

theorem setL_len {l bs : List Nat} {k : Nat} (h : k + bs.length ≤ l.length) : (setL l k bs).length = l.length := by
  unfold setL
  simp only [List.length_append, List.length_take, List.length_drop]
  omega
theorem setL_bs {l bs : List Nat} {k : Nat} (h : Bs l) (hb : Bs bs) : Bs (setL l k bs) := ((h.take k).append hb).append (h.drop _)

theorem take_splice {cur cs : List Value} {k n : Nat} (h1 : k + cs.length ≤ n) (h2 : n ≤ cur.length) : (splice cur k cs).take n = splice (cur.take n) k cs := by
  unfold splice
  have e : (cur.take k).length = k := by rw [List.length_take]; omega
  rw [List.take_append, e, List.take_append, List.take_take, List.take_take, List.take_of_length_le (l := cs) (by omega), List.drop_take, Nat.min_eq_right (by omega : k ≤ n), Nat.min_eq_left (by omega : k ≤ n), Nat.sub_sub]

theorem splice_map (l bs : List Nat) (k : Nat) : splice (l.map V8) k (bs.map V8) = (setL l k bs).map V8 := by
  unfold splice setL
  simp only [List.map_append, List.map_take, List.map_drop, List.length_map, List.append_assoc]

/-- What a builder's row holds. -/
theorem Bld.row {w : World} {B g : Nat} {l : List Nat} (h : Bld w B (some g) l) : ∃ c cur, Row w B 73 1 (fun _ => .slice (some ⟨g, 0, none⟩) l.length c) ∧ w.heap[g]? = some (.cells cur 5 (0, 0)) ∧ l.length ≤ c ∧ c ≤ maxLen ∧ cur.size = c ∧ cur.toList.take l.length = l.map V8 := by
  obtain ⟨v, hr, ho, hg, hb⟩ := h
  rcases ho.2 with ⟨hv, -⟩ | ⟨k, cap, cur, hv, -, hk, h1, h2, h3, h4⟩
  · rw [hv] at hg; cases hg
  · rw [hv] at hg
    injection hg with hg
    have hg : k = g := hg
    subst hg
    subst hv
    exact ⟨cap, cur, hr, hk, h1, h2, by simpa using h3, by simpa using h4⟩

theorem Bld.copied {w w' : World} {B g c : Nat} {cur : Array Value} {l bs : List Nat} {k : Nat} (hb : Bld w B (some g) l) (hr : Row w B 73 1 (fun _ => .slice (some ⟨g, 0, none⟩) l.length c)) (hc : l.length ≤ c) (hm : c ≤ maxLen) (hs : cur.size = c) (ht : cur.toList.take l.length = l.map V8)
    (hbs : Bs bs) (hk : k + bs.length ≤ l.length) (hout : CopyOut w w' g k cur.toList 5 (bs.map V8)) : Moved w w' B (some g) (some g) (setL l k bs) := by
  obtain ⟨h1, h2, h3⟩ := hout
  have hne : B ≠ g := fun e => hb.ne (by rw [e])
  have hlen := setL_len hk
  refine ⟨⟨.slice (some ⟨g, 0, none⟩) l.length c, h2.row hr hne, ⟨?_, .inr ⟨g, c, _, ?_, Nat.zero_le _, h1, ?_, hm, ?_, ?_⟩⟩, rfl, setL_bs hb.bs hbs⟩, ⟨h2.os, h2.tape, h2.output, h2.size, fun i hi hn => h2.block i hi (fun e => hn (by rw [e]; exact .inr rfl))⟩, .inl rfl⟩
  · simp
  · rw [hlen]
  · rw [hlen]; exact hc
  · rw [List.size_toArray, length_splice _ _ _ (by simp; omega)]
    simpa using hs
  · rw [hlen, Nat.mul_one]
    show (splice cur.toList k (bs.map V8)).take l.length = _
    rw [take_splice (by simpa using hk) (by simp; omega), ht, splice_map]

theorem set32_no (B : Nat) (g : Option Nat) (l : List Nat) (x y : Int) (w : World) (hb : Bld w B g l) (hlen : l.length ≤ 900000) (hx : I64 x) (h : ¬ Ex l.length x 4) :
    Calls Try.prog 31 #[.pointer (some ⟨B, 0, none⟩), .int .i64 x, .int .u32 y] w fun e w' => e = .returned (.bool false) ∧ Below w.heap.size w w' := by
  obtain ⟨A, c, -, -, hcell, -, hy, hc, -⟩ := hb.cell (by unfold maxLen; omega)
  have HP : Hid (∀ W, Calls Try.prog 36 #[.slice A l.length c, .int .i64 x, .int .i64 4] W fun e w' => e = .returned (.tuple #[.slice none 0 0, .bool false]) ∧ W = w') := Lib.hid fun W => part_no A l.length c x 4 hx (by unfold I64; omega) (by unfold maxLen; omega) h W
  clear hb hlen hx h hy hc
  go_enter Try.func31, Try.ntmps31
  go_wp2_with fail
  go_quiet ((first | (go_at_call 46; exact quiet_left (width_32 _)) | (go_at_call 36; exact quiet_left (HP.out _))))
  go_wp2_with fail
  go_ret
  exact ⟨rfl, below_drewN (Below.refl _ _) _⟩

set_option maxHeartbeats 2000000 in
theorem set32_yes (B : Nat) (g : Option Nat) (l : List Nat) (k x : Nat) (hx : x < 4294967296) (w : World) (hb : Bld w B g l) (hlen : l.length ≤ 800000) (h : k + 4 ≤ l.length) :
    Calls Try.prog 31 #[.pointer (some ⟨B, 0, none⟩), .int .i64 (k : Int), .int .u32 (x : Int)] w fun e w' => BoolRes w B g (setL l k (leB 4 x)) true e w' := by
  obtain ⟨A, c, -, -, hcell, -, hy, hc, hA, -⟩ := hb.cell (by unfold maxLen; omega)
  obtain ⟨b0, o0, rfl, -, -⟩ := hy.1 0 (by omega)
  obtain ⟨hg, h0, -⟩ := hA _ rfl
  have h0 : o0 = 0 := h0
  have hg : g = some b0 := hg
  subst h0 hg
  have HP : Hid (∀ W, Calls Try.prog 36 #[.slice (some ⟨b0, 0, none⟩) l.length c, .int .i64 (k : Int), .int .i64 4] W fun e w' => e = .returned (.tuple #[.slice (some ⟨b0, k, none⟩) 4 (c - k), .bool true]) ∧ W = w') := Lib.hid fun W => by
    have := part_yes (some ⟨b0, 0, none⟩) l.length c k 4 hc (by unfold maxLen; omega) h W
    have e : (if c = k then some (⟨b0, 0, none⟩ : Addr) else (some (⟨b0, 0, none⟩ : Addr)).map (·.add k)) = some ⟨b0, k, none⟩ := by
      have := pAt_some b0 0 c k (by omega)
      rw [Nat.zero_add] at this
      exact this
    rw [e] at this
    exact this
  have HB := Lib.hid hb
  have HX := Lib.hid hx
  have HL := Lib.hid (And.intro hlen h)
  have HE : Hid (Bys w none []) := Lib.hid ⟨fun i hi => absurd hi (by simp), fun y hy => (by cases hy), by simp⟩
  obtain ⟨z, hz⟩ : ∃ z : Int, z = (x : Int) := ⟨_, rfl⟩
  have H32 : Hid (∀ (W : World) (B2 : Nat) (g2 : Option Nat), Bld W B2 g2 [] → Calls Try.prog 25 #[.pointer (some ⟨B2, 0, none⟩), .int .u32 z] W fun e w' => AddRes W B2 g2 (leB 4 x) e w') :=
    Lib.hid fun W B2 g2 hb => by rw [hz]; exact u32_ok B2 g2 [] x hx W hb (by simp)
  generalize c - k = d at HP
  rw [← hz]
  clear hb hlen hy hc hx h hA hz
  go_enter Try.func31, Try.ntmps31
  go_wp2_with fail
  go_quiet ((first | (go_at_call 46; exact quiet_left (width_32 _)) | (go_at_call 36; exact quiet_left (HP.out _))))
  obtain ⟨w0, hw0⟩ : ∃ w0, w0 = w.drewN nq := ⟨_, rfl⟩
  have hb0 : Below w.heap.size w w0 := by rw [hw0]; exact below_drewN (Below.refl _ _) _
  rw [← hw0]
  have HB0 := Lib.hid hb0
  clear hw0 hb0 hcell
  go_wp2_with fail
  refine (new_ok none [] 0 w0 (HE.out.below (Nat.le_refl _) HB0.out) (by simp)).mono ?_
  rintro e w1 ⟨B2, g2, rfl, hbld, hb, hB, hg⟩
  have HB1 := Lib.hid (HB0.out.trans (hb.mono HB0.out.size))
  have HN1 := Lib.hid (And.intro hbld (And.intro (Nat.le_trans HB0.out.size hB) (fun k hk => Nat.le_trans HB0.out.size (hg k hk))))
  clear hbld hb hB hg HB0
  go_wp2_with fail
  refine (H32.out w1 B2 g2 HN1.out.1).mono ?_
  rintro e w2 ⟨rfl, g3, hm⟩
  have HB2 := Lib.hid (HB1.out.trans (hm.below HB1.out.size HN1.out.2.1 HN1.out.2.2))
  obtain ⟨A3, c3, -, -, hcell3, -, hy3, hc3, -, -⟩ := hm.bld.cell (by rw [leB_len]; unfold maxLen; omega)
  have HBL := Lib.hid (HB.out.below HB2.out)
  obtain ⟨cc, cur, hrow, hheap, hcc, hcm, hcs, hct⟩ := HBL.out.row
  have HR := Lib.hid (And.intro hrow (And.intro hheap (And.intro hcc (And.intro hcm (And.intro hcs hct)))))
  have HA : Hid (CopyAsk w2 (some ⟨b0, k, none⟩) A3 4 4 b0 k cur.toList 5 ((leB 4 x).map V8)) := by
    refine Lib.hid ⟨by simpa using hheap, by rw [List.length_map, leB_len]; rfl, fun _ => ⟨rfl, hy3.cells (by rw [leB_len]; omega)⟩, ?_, bytes_one _⟩
    rw [List.length_map, leB_len]
    have := HL.out.2
    simp
    omega
  rw [leB_len] at hcell3
  clear hm hy3 hc3 hrow hheap hcc hcm hcs hct
  go_wp2_with ((with_reducible refine wpList_copy_sole rfl (.tmp 28) (.tmp 32) 24 22 rfl 5 Try.underlying24 size8 (some ⟨b0, k, none⟩) A3 4 d 4 c3 rfl rfl b0 k cur.toList 5 ((leB 4 x).map V8) HA.out ?_); intro w4 hout; have HO := Lib.hid hout; clear hout)
  go_ret
  refine ⟨rfl, some b0, Moved.pre HB2.out (HBL.out.copied HR.out.1 HR.out.2.2.1 HR.out.2.2.2.1 HR.out.2.2.2.2.1 HR.out.2.2.2.2.2 (leB_bs _ _) (by rw [leB_len]; exact HL.out.2) HO.out)⟩

end Go.Proofs.Ytajkneekehkhbaa

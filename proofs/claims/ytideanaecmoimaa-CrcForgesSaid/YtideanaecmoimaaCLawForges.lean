/-
  The law CrcForges returns true: Forge returns bytes with the checksum that differ in four bytes at most, or false; its argument is not changed. For every input: no condition. By the verifier.
-/
import Derived.Test.YtideanaecmoimaaCLaw
import Derived.Test.YtideanaecmoimaaCForge2
import Derived.Test.YtideanaecmoimaaRows
import Derived.Outline
import Derived.Deep.RegionHeld3
set_option linter.unusedVariables false
namespace Go.Proofs.Ytideanaecmoimaa.LawForges
open Go.RowKit Go.ChangeShapes Go.WideShapes Go.ChangeAt

set_option maxHeartbeats 2000000 in
theorem walk_no (A : Option Addr) (l : List Nat) (c : Nat) (at_ : Int) (sum : Nat) (hsum : sum < 4294967296) (w : World) (hl : Bys w A l) (hc : l.length ≤ c) (h300 : l.length ≤ 300)
    (ha0 : -9223372036854775808 ≤ at_) (ha1 : at_ < 9223372036854775808) (hat : at_ < 0 ∨ (l.length : Int) < at_ + 4) :
    Calls Try.prog 6 #[.slice A l.length c, .int .i64 at_, .int .u32 (sum : Int)] w fun e w' => e = .returned (.bool true) ∧ Below w.heap.size w w' := by
  have hq : ¬ (300 : Int) < (l.length : Int) := by omega
  have hown : ∀ (W : World) (base : Nat) (v : Value), OwnB W base v l → ∃ A2 c2, v = .slice A2 l.length c2 ∧ Bys W A2 l :=
    fun W base v ho => by
      obtain ⟨A2, c2, hv, hby, -, -⟩ := ho.shape hl.2.1 (by unfold maxLen; omega)
      exact ⟨A2, c2, hv, hby⟩
  have HOWN := Lib.hid hown
  have HF : Hid (∀ (W : World) (A2 : Option Addr) (c2 : Nat), Calls Try.prog 20 #[.slice A2 l.length c2, .int .i64 at_, .int .u32 (sum : Int)] W (fun e w' => e = .returned (.tuple #[.slice none 0 0, .bool false]) ∧ W = w')) :=
    Lib.hid fun W A2 c2 => forge_no A2 l.length c2 at_ sum (by omega) hat W
  have HO := Lib.hid (own_lit w)
  have hA1 : Below w.heap.size w (w.alloc (.cells #[] 5)) := (Below.refl _ _).alloc (Nat.le_refl _) _
  have HBA := Lib.hid (hl.below (Nat.le_refl _) hA1)
  have hsz : w.heap.size ≤ (w.alloc (.cells #[] 5)).heap.size := by simp
  clear hl hown
  rcases Int.lt_or_le at_ 0 with hneg | hpos
  · have hd1 : decide (at_ < 0) = true := decide_eq_true hneg
    clear hat
    go_enter Try.func6, Try.ntmps6
    go_wp2_with (refine wpList_append8 (by rfl) (.tmp 14) (.tmp 15) (by rfl) w.heap.size (.slice (some ⟨w.heap.size, 0, none⟩) 0 0) [] (by rfl) HO.out A l l.length c rfl (by rfl) HBA.out (by simp; omega) hsz ?_; intro v1 w1 ho1 hg1; have hb1 := grown_below hA1 HO.out hg1 hsz; rw [List.nil_append] at ho1; obtain ⟨A2, c2, rfl, hy⟩ := HOWN.out w1 _ v1 ho1; clear ho1 hg1 hy)
    refine (HF.out w1 A2 c2).mono ?_
    rintro e w2 ⟨rfl, rfl⟩
    go_wp2_with fail
    refine (alive_ok _).mono ?_
    rintro e w3 ⟨rfl, hb3⟩
    go_wp2_with fail
    go_ret
    exact ⟨rfl, hb1.trans (hb3.mono hb1.size)⟩
  · have hd1 : decide (at_ < 0) = false := decide_eq_false (by omega)
    have hgt : (l.length : Int) < at_ + 4 := by omega
    have hd2 : (l.length : Int) - 4 < at_ := by omega
    clear hat
    go_enter Try.func6, Try.ntmps6
    go_wp2_with (refine wpList_append8 (by rfl) (.tmp 14) (.tmp 15) (by rfl) w.heap.size (.slice (some ⟨w.heap.size, 0, none⟩) 0 0) [] (by rfl) HO.out A l l.length c rfl (by rfl) HBA.out (by simp; omega) hsz ?_; intro v1 w1 ho1 hg1; have hb1 := grown_below hA1 HO.out hg1 hsz; rw [List.nil_append] at ho1; obtain ⟨A2, c2, rfl, hy⟩ := HOWN.out w1 _ v1 ho1; clear ho1 hg1 hy)
    refine (HF.out w1 A2 c2).mono ?_
    rintro e w2 ⟨rfl, rfl⟩
    go_wp2_with fail
    refine (alive_ok _).mono ?_
    rintro e w3 ⟨rfl, hb3⟩
    go_wp2_with fail
    go_ret
    exact ⟨rfl, hb1.trans (hb3.mono hb1.size)⟩

theorem walk_long (A : Option Addr) (l : List Nat) (c : Nat) (at_ : Int) (sum : Int) (w : World) (h300 : 300 < l.length) :
    Calls Try.prog 6 #[.slice A l.length c, .int .i64 at_, .int .u32 sum] w fun e w' => e = .returned (.bool true) ∧ Below w.heap.size w w' := by
  have hq : (300 : Int) < (l.length : Int) := by omega
  go_enter Try.func6, Try.ntmps6
  go_wp2_with fail
  refine (alive_ok _).mono ?_
  rintro e w1 ⟨rfl, hb1⟩
  go_wp2_with fail
  go_ret
  exact ⟨rfl, hb1⟩

theorem bys_cut {W : World} {b o n c k : Nat} {p q s : List Nat} (h : Bys W (some ⟨b, o, none⟩) (p ++ (q ++ s))) (hp : p.length = k) (hq : q.length = 4) (hn : n = k + 4 + s.length) (hc : n ≤ c) :
    Bys W (some ⟨b, o, none⟩) p ∧ Bys W (if c = k + 4 then some ⟨b, o, none⟩ else some ⟨b, o + (k + 4), none⟩) s := by
  have hl : (p ++ (q ++ s)).length = n := by rw [List.length_append, List.length_append]; omega
  have hm := h.2.2
  have hseg : ∀ j, j < n → b < W.heap.size ∧ W.cell? ⟨b, o + j, none⟩ = some (V8 ((p ++ (q ++ s)).getD j 0)) := fun j hj => by
    obtain ⟨b', o', he, hb', hcq⟩ := h.1 j (by omega)
    injection he with he
    injection he with h1 h2
    subst h1 h2
    exact ⟨hb', hcq⟩
  refine ⟨⟨fun i hi => ⟨b, o, rfl, (hseg i (by omega)).1, ?_⟩, fun x hx => h.2.1 x (List.mem_append_left _ hx), by omega⟩, ⟨fun i hi => ?_, fun x hx => h.2.1 x (List.mem_append_right _ (List.mem_append_right _ hx)), by omega⟩⟩
  · rw [(hseg i (by omega)).2]
    simp [List.getD, List.getElem?_append_left hi]
  · rw [if_neg (by omega)]
    refine ⟨b, o + (k + 4), rfl, (hseg (k + 4 + i) (by omega)).1, ?_⟩
    rw [Nat.add_assoc, (hseg (k + 4 + i) (by omega)).2]
    have e1 : (p ++ (q ++ s))[k + 4 + i]? = s[i]? := by
      rw [List.getElem?_append_right (by omega), List.getElem?_append_right (by omega)]
      congr 1
      omega
    simp only [List.getD, e1]

set_option maxHeartbeats 2000000 in
theorem walk_yes (b o : Nat) (n c k : Nat) (p t s : List Nat) (sum : Nat) (hsum : sum < 4294967296) (w : World) (hl : Bys w (some ⟨b, o, none⟩) (p ++ (t ++ s))) (hp : p.length = k) (ht : t.length = 4) (hn : n = k + 4 + s.length) (hc : n ≤ c) (hn1 : n ≤ 300) :
    Calls Try.prog 6 #[.slice (some ⟨b, o, none⟩) n c, .int .i64 (k : Int), .int .u32 (sum : Int)] w fun e w' => e = .returned (.bool true) ∧ Below w.heap.size w w' := by
  have hbp : Bs p := fun x hx => hl.2.1 x (List.mem_append_left _ hx)
  have hbs : Bs s := fun x hx => hl.2.1 x (List.mem_append_right _ (List.mem_append_right _ hx))
  have hlen : (p ++ (t ++ s)).length = n := by rw [List.length_append, List.length_append]; omega
  have hXlen : (p ++ (le (forged p s sum) ++ s)).length = n := by rw [List.length_append, List.length_append, le_len]; omega
  have hXb : Bs (p ++ (le (forged p s sum) ++ s)) := hbp.append ((le_bs _).append hbs)
  have hXc := forged_crc hbp hbs hsum
  obtain ⟨l, hll⟩ : ∃ l, l = p ++ (t ++ s) := ⟨_, rfl⟩
  obtain ⟨X, hX⟩ : ∃ X, X = p ++ (le (forged p s sum) ++ s) := ⟨_, rfl⟩
  have HOWN : Hid (∀ (W : World) (base : Nat) (v : Value), OwnB W base v l → ∃ b2 o2 c2, v = .slice (some ⟨b2, o2, none⟩) n c2 ∧ Bys W (some ⟨b2, o2, none⟩) l ∧ n ≤ c2) := by
    refine Lib.hid fun W base v ho => ?_
    rw [hll] at ho ⊢
    obtain ⟨A2, c2, hv, hby, hcc, -⟩ := ho.shape hl.2.1 (by unfold maxLen; omega)
    obtain ⟨b2, o2, rfl, -, -⟩ := hby.1 0 (by omega)
    rw [hlen] at hv hcc
    exact ⟨b2, o2, c2, hv, hby, hcc⟩
  have HF : Hid (∀ (W : World) (b2 o2 c2 : Nat), Bys W (some ⟨b2, o2, none⟩) l → n ≤ c2 → Calls Try.prog 20 #[.slice (some ⟨b2, o2, none⟩) n c2, .int .i64 (k : Int), .int .u32 (sum : Int)] W
      (fun e w' => ∃ B, e = .returned (.tuple #[.slice (some ⟨B, 0, none⟩) n n, .bool true]) ∧ BRow w' B X ∧ Below W.heap.size W w')) := by
    refine Lib.hid fun W b2 o2 c2 hb hcc => ?_
    rw [hll] at hb
    rw [hX]
    exact forge_yes b2 o2 n c2 k p t s sum hsum W hb hp ht hn hcc (by omega)
  have HS : Hid (∀ (W : World) (B : Nat), BRow W B X → Calls Try.prog 12 #[.slice (some ⟨B, 0, none⟩) n n] W (fun e w' => e = .returned (.int .u32 (sum : Int)) ∧ W = w')) := by
    refine Lib.hid fun W B hr => ?_
    rw [hX] at hr
    have := rsum_ok (some ⟨B, 0, none⟩) _ n W (hr.bys hXb (by unfold maxLen; omega))
    rwa [hXlen, hXc] at this
  have HE : Hid (∀ (W : World) (b2 o2 c2 : Nat), Bys W (some ⟨b2, o2, none⟩) l → Below w.heap.size w W → Calls Try.prog 16 #[.slice (some ⟨b2, o2, none⟩) n c2, .slice (some ⟨b, o, none⟩) n c] W (fun e w' => e = .returned (.bool true) ∧ Below W.heap.size W w')) := by
    refine Lib.hid fun W b2 o2 c2 hb hW => ?_
    rw [hll] at hb
    have := equal_ok (some ⟨b2, o2, none⟩) (some ⟨b, o, none⟩) _ _ c2 c W hb (hl.below (Nat.le_refl _) hW)
    rwa [hlen, decide_eq_true rfl] at this
  have HP : Hid (∀ (W : World) (B : Nat), BRow W B X → Below w.heap.size w W → Calls Try.prog 16 #[.slice (some ⟨B, 0, none⟩) k n, .slice (some ⟨b, o, none⟩) k c] W (fun e w' => e = .returned (.bool true) ∧ Below W.heap.size W w')) := by
    refine Lib.hid fun W B hr hW => ?_
    rw [hX] at hr
    have h1 := (bys_cut (c := n) (hr.bys hXb (by unfold maxLen; omega)) hp (le_len _) hn (Nat.le_refl _)).1
    have h2 := (bys_cut (hl.below (Nat.le_refl _) hW) hp ht hn hc).1
    have := equal_ok (some ⟨B, 0, none⟩) (some ⟨b, o, none⟩) p p n c W h1 h2
    rwa [hp, decide_eq_true rfl] at this
  have hsl : n - (k + 4) = s.length := by omega
  have HQ : Hid (∀ (W : World) (B : Nat), BRow W B X → Below w.heap.size w W → Calls Try.prog 16 #[.slice (if n = k + 4 then some ⟨B, 0, none⟩ else some ⟨B, 0 + (k + 4), none⟩) (n - (k + 4)) (n - (k + 4)), .slice (if c = k + 4 then some ⟨b, o, none⟩ else some ⟨b, o + (k + 4), none⟩) (n - (k + 4)) (c - (k + 4))] W (fun e w' => e = .returned (.bool true) ∧ Below W.heap.size W w')) := by
    refine Lib.hid fun W B hr hW => ?_
    rw [hX] at hr
    have h1 := (bys_cut (c := n) (hr.bys hXb (by unfold maxLen; omega)) hp (le_len _) hn (Nat.le_refl _)).2
    have h2 := (bys_cut (hl.below (Nat.le_refl _) hW) hp ht hn hc).2
    have := equal_ok _ _ s s (n - (k + 4)) (c - (k + 4)) W h1 h2
    rwa [← hsl, decide_eq_true rfl] at this
  have hcutB : ∀ W, (Instr.slice 24 (.slice (some ⟨b, o, none⟩) n c) (some (.int .i64 ((k : Int) + 4))) none none).run Try.prog W = .ok (.slice (if c = k + 4 then some ⟨b, o, none⟩ else some ⟨b, o + (k + 4), none⟩) (n - (k + 4)) (c - (k + 4))) W := fun W => by
    have := run_cut b o n c (k + 4) (by omega) W
    rw [Int.natCast_add] at this
    exact this
  have HCX : Hid (∀ (B : Nat) (W : World), (Instr.slice 24 (.slice (some ⟨B, 0, none⟩) n n) (some (.int .i64 ((k : Int) + 4))) none none).run Try.prog W = .ok (.slice (if n = k + 4 then some ⟨B, 0, none⟩ else some ⟨B, 0 + (k + 4), none⟩) (n - (k + 4)) (n - (k + 4))) W) := Lib.hid fun B W => by
    have := run_cut B 0 n n (k + 4) (by omega) W
    rw [Int.natCast_add] at this
    exact this
  obtain ⟨AB, hAB⟩ : ∃ AB, AB = if c = k + 4 then some (⟨b, o, none⟩ : Addr) else some ⟨b, o + (k + 4), none⟩ := ⟨_, rfl⟩
  rw [← hAB] at HQ hcutB
  have HO := Lib.hid (own_lit w)
  have hA1 : Below w.heap.size w (w.alloc (.cells #[] 5)) := (Below.refl _ _).alloc (Nat.le_refl _) _
  rw [← hll] at hl hlen
  have HBA := Lib.hid (hl.below (Nat.le_refl _) hA1)
  have HLEN := Lib.hid hlen
  have hsz : w.heap.size ≤ (w.alloc (.cells #[] 5)).heap.size := by simp
  have hq : ¬ (300 : Int) < (n : Int) := by omega
  have hk4 : ((k : Int) + 4) ≤ (n : Int) := by omega
  have hkn : (k : Int) ≤ (n : Int) - 4 := by omega
  have hkc : (k : Int) ≤ (c : Int) := by omega
  have hkn2 : (k : Int) ≤ (n : Int) := by omega
  have hk0 : (0 : Int) ≤ (k : Int) := by omega
  have hd1 : decide ((k : Int) < 0) = false := by rw [decide_eq_false_iff_not]; omega
  have hd2 : decide ((n : Int) - 4 < (k : Int)) = false := by rw [decide_eq_false_iff_not]; omega
  have hwk : IntKind.i64.wrap ((k : Int) + 4) = (k : Int) + 4 := IntWalk.i64_in _ (by omega)
  clear hl hbp hbs hlen hXlen hXb hXc hll hX hsl hAB hp ht hn
  go_enter Try.func6, Try.ntmps6
  go_wp2_with (refine wpList_append8 (by rfl) (.tmp 14) (.tmp 15) (by rfl) w.heap.size (.slice (some ⟨w.heap.size, 0, none⟩) 0 0) [] (by rfl) HO.out (some ⟨b, o, none⟩) l n c HLEN.out (by rfl) HBA.out (by simp; omega) hsz ?_; intro v1 w1 ho1 hg1; have hb1 := grown_below hA1 HO.out hg1 hsz; rw [List.nil_append] at ho1; obtain ⟨b2, o2, c2, rfl, hy, hcc⟩ := HOWN.out w1 _ v1 ho1; have HY := Lib.hid (And.intro hy hcc); clear ho1 hg1 hy hcc)
  refine (HF.out w1 b2 o2 c2 HY.out.1 HY.out.2).mono ?_
  rintro e w2 ⟨B, rfl, hr2, hb2⟩
  have hB2 := hb1.trans (hb2.mono hb1.size)
  have HR2 := Lib.hid hr2
  have HY2 := Lib.hid (HY.out.1.below (Nat.le_refl _) hb2)
  have hcutX := HCX.out B
  obtain ⟨AX, hAX⟩ : ∃ AX, AX = if n = k + 4 then some (⟨B, 0, none⟩ : Addr) else some ⟨B, 0 + (k + 4), none⟩ := ⟨_, rfl⟩
  have hQ := fun W => HQ.out W B
  rw [← hAX] at hcutX hQ
  have HQ2 := Lib.hid hQ
  clear hr2 hb2 hb1 HY HO HBA hA1 hsz hAX hQ HQ HCX HOWN HF
  go_wp2_with fail
  refine (HS.out w2 B HR2.out).mono ?_
  rintro e w3 ⟨rfl, rfl⟩
  go_wp2_with fail
  refine (HE.out w2 b2 o2 c2 HY2.out hB2).mono ?_
  rintro e w3 ⟨rfl, hb3⟩
  have hB3 := hB2.trans (hb3.mono hB2.size)
  have HR3 := Lib.hid (HR2.out.below HR2.out.row.lt hb3)
  clear hb3 hB2 HR2 HY2 HE HS
  go_wp2_with fail
  go_region_held3 (fun W => 0 < W.heap.size + 1) (exact Nat.succ_pos _) (first
    | (go_at_call 9; refine (alive_ok _).mono ?_; rintro e w4 ⟨rfl, hb4⟩; have hb4' : Below w3.heap.size w3 w4 := (Below.refl w3.heap.size w3).drew.trans hb4; have hB4 := hB3.trans (hb4'.mono hB3.size); have HR4 := Lib.hid (HR3.out.below HR3.out.row.lt hb4'); clear hb4 hb4')
    | (go_at_call 16; ((with_reducible refine (HP.out w4 B HR4.out hB4).mono ?_); rintro e w5 ⟨rfl, hb5⟩; have hB5 := hB4.trans (hb5.mono hB4.size); have HR5 := Lib.hid (HR4.out.below HR4.out.row.lt hb5); clear hb5))
    | (go_at_call 16; ((with_reducible refine (HQ2.out w5 HR5.out hB5).mono ?_); rintro e w6 ⟨rfl, hb6⟩; have hB6 := hB5.trans (hb6.mono hB5.size); clear hb6)))
  all_goals go_wp2_with fail
  all_goals go_ret
  all_goals exact ⟨rfl, hB6⟩

theorem walk (A : Option Addr) (l : List Nat) (c : Nat) (at_ : Int) (sum : Nat) (ha0 : -9223372036854775808 ≤ at_) (ha1 : at_ < 9223372036854775808) (hsum : sum < 4294967296) (w : World) (hl : Bys w A l) (hc : l.length ≤ c) :
    Calls Try.prog 6 #[.slice A l.length c, .int .i64 at_, .int .u32 (sum : Int)] w fun e w' => e = .returned (.bool true) ∧ Below w.heap.size w w' := by
  by_cases h1 : 300 < l.length
  · exact walk_long A l c at_ sum w h1
  · by_cases hat : at_ < 0 ∨ (l.length : Int) < at_ + 4
    · exact walk_no A l c at_ sum hsum w hl hc (by omega) ha0 ha1 hat
    · obtain ⟨k, rfl⟩ := Int.eq_ofNat_of_zero_le (show (0 : Int) ≤ at_ by omega)
      obtain ⟨b, o, rfl, -, -⟩ := hl.1 0 (by omega)
      have hsplit : l = l.take k ++ ((l.drop k).take 4 ++ l.drop (k + 4)) := by
        rw [← List.drop_drop, List.take_append_drop, List.take_append_drop]
      exact walk_yes b o l.length c k (l.take k) ((l.drop k).take 4) (l.drop (k + 4)) sum hsum w (by rw [← hsplit]; exact hl) (by rw [List.length_take]; omega) (by rw [List.length_take, List.length_drop]; omega) (by rw [List.length_drop]; omega) hc (by omega)

theorem own : ownKnob Try.prog.godebug = none := by kernel_rfl

set_option maxRecDepth 100000 in
theorem lifted (os : Os) (started : os.Started) (H : Type) (enc : TypeId × Value → H) :
    ReturnsInHanded {} Try.checked os 6 .any (Rows.crcForgesSpec.pre6 enc Try.prog Try.f6 Rows.crcForgesRow.domain false) (Rows.crcForgesSpec.post enc Try.prog Try.f6 false true false false) := by
  refine returnsInHanded_of_change (C := Try.checked) own started (by kernel_rfl) Try.func6
    (ChangeSpec.witness6 (enc := enc) (C := Try.checked) false ⟨#[], #[.slice none 0 0, .int .i64 0, .int .u32 0], []⟩ 8 (by kernel_rfl) (by kernel_rfl) (by kernel_rfl) (by kernel_rfl)) ?_
  intro W base args ds gs before hval0 hW hcnd _
  have hval : ∀ (j : Nat) t v, Try.f6.params[j]? = some t → args[j]? = some v → Value.okWide Try.prog W .any base t v := hval0
  have hW' := hW
  obtain ⟨p, q, hA0, hV, rfl, hfz, hnd⟩ := hW
  have hA : DataW.TrodAll enc Try.prog W 0 (fun _ => true) true Try.f6.params.toList args.toList ds p := hA0
  rw [Try.params6] at hA hval
  obtain ⟨v0, vs0, d0, ds0, p0, q0, hargs, rfl, rfl, h0, r0⟩ := trodAll_cons hA
  obtain ⟨v1, vs1, d1, ds1, p1, q1, rfl, rfl, rfl, h1, r1⟩ := trodAll_cons r0
  obtain ⟨v2, vs2, d2, ds2, p2, q2, rfl, rfl, rfl, h2, r2⟩ := trodAll_cons r1
  obtain ⟨rfl, rfl, rfl⟩ := trodAll_nil r2
  obtain rfl : args = #[v0, v1, v2] := by cases args; simp_all
  obtain ⟨rfl, rfl⟩ := trodVars_none hV
  obtain ⟨A0, l0, c0, rfl, hb0, hc0⟩ := open_bytes Try.underlying24 Try.underlying5 (by kernel_rfl) (hval 0 24 v0 rfl rfl) h0
  obtain ⟨a1, rfl, rfl, rfl, w1⟩ := open_int Try.underlying3 (hval 1 3 v1 rfl rfl) h1
  obtain ⟨a2, rfl, rfl, rfl, w2⟩ := open_int Try.underlying25 (hval 2 25 v2 rfl rfl) h2
  obtain ⟨n2, rfl⟩ := Int.eq_ofNat_of_zero_le (show (0 : Int) ≤ a2 from by simp [Lit.wf, IntKind.min, IntKind.max, IntKind.signed, IntKind.bits] at w2; omega)
  clear hA0 hval0
  simp only [List.append_nil] at hW'
  refine (walk A0 l0 c0 a1 n2 (by simp [Lit.wf, IntKind.min, IntKind.max, IntKind.signed, IntKind.bits] at w1; omega) (by simp [Lit.wf, IntKind.min, IntKind.max, IntKind.signed, IntKind.bits] at w1; omega) (by simp [Lit.wf, IntKind.min, IntKind.max, IntKind.signed, IntKind.bits] at w2; omega) W hb0 hc0).mono fun e W' ⟨he, hg⟩ => ?_
  subst he
  exact law_post (by kernel_rfl) rfl rfl (by kernel_rfl) (by kernel_rfl) Try.underlying4 hW' hg

/-- WHAT IS PROVED. -/
theorem proved : Rows.CrcForgesSaid :=
  OpenClaim.holds_of_wide 6 Try.f6 rfl rfl rfl rfl rfl rfl rfl ⟨rfl, rfl, rfl, rfl, rfl⟩ rfl rfl rfl rfl rfl (by kernel_rfl) Try.func6 (by kernel_rfl)
    (of_decide_eq_true (by kernel_rfl)) (by unfold Func.isWrapper; first | (rw [if_pos (by decide +kernel)]; kernel_rfl) | (rw [if_neg (by decide +kernel)]; exact ⟨rfl, rfl⟩))
    (fun os started H enc _ => lifted os started H enc)

end Go.Proofs.Ytideanaecmoimaa.LawForges

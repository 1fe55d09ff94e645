/-
  Layer 5 (conf): the library's Equal of records. By the verifier.
-/
import Derived.Test.YthdagjlgfffpbaaGreatGCfg
import Derived.Test.YthdagjlgfffpbaaGreatPRec
import Derived.Test.YthdagjlgfffpbaaGreatShelf
set_option linter.unusedVariables false
namespace Go.Proofs.YthdagjlgfffpbaaGreat
open Go.RowKit Go.Lib

theorem textN_inj {s t : ByteArray} (h : textN s = textN t) : s = t := by
  unfold textN at h
  have h1 := List.append_cancel_right h
  have h2 : bytesOf s = bytesOf t := by
    have : Function.Injective (fun n : Nat => n + 1) := fun a b hab => by simpa using hab
    exact (List.map_inj_right (fun a b hab => by simpa using hab)).1 h1
  rw [← strB_bytesOf s, ← strB_bytesOf t, h2]
theorem bitN_inj {a b : Bool} (h : bitN a = bitN b) : a = b := by
  cases a <;> cases b <;> first | rfl | (exfalso; revert h; decide)
theorem text_tail {s t : ByteArray} {x y : List Nat} (hl : x.length = y.length) : textN s ++ x = textN t ++ y ↔ s = t ∧ x = y := by
  constructor
  · intro h
    have := List.append_inj' h hl
    exact ⟨textN_inj this.1, this.2⟩
  · rintro ⟨rfl, rfl⟩
    rfl
theorem str_beq (s t : ByteArray) : (s.toList == t.toList) = decide (s = t) := by
  have e : ∀ z : ByteArray, z.toList = z.data.toList := fun z => ByteArray.toList_eq z
  rw [e, e, Bool.eq_iff_iff, beq_iff_eq, decide_eq_true_eq]
  constructor
  · intro h
    obtain ⟨⟨a⟩⟩ := s
    obtain ⟨⟨b⟩⟩ := t
    simpa using h
  · rintro rfl
    rfl
theorem nat_beq (a b : Nat) : ((a : Int) == (b : Int)) = decide (a = b) := by
  rw [Bool.eq_iff_iff, beq_iff_eq, decide_eq_true_eq]
  omega
theorem bool_beq (a b : Bool) : (a == b) = decide (bitN a = bitN b) := by
  cases a <;> cases b <;> rfl

theorem allEq_key {α : Type} [Inhabited α] (key : α → List Nat) : ∀ (l m : List α), Lib.allEq (fun x y => decide (key x = key y)) l m = decide (l.map key = m.map key)
  | [], [] => rfl
  | [], _ :: _ => rfl
  | _ :: _, [] => rfl
  | a :: l, b :: m => by
    have ih := allEq_key key l m
    simp only [Lib.allEq, List.map_cons, List.cons.injEq]
    rw [ih]
    by_cases h1 : key a = key b <;> by_cases h2 : l.map key = m.map key <;> simp [h1, h2]

theorem recs_at {α : Type} [Inhabited α] {w : World} {A : Option Addr} {cap : Nat} {l : List α} {f : α → List Value} (h : Recs w A cap l f) (k : Nat) (hf : ∀ x, (f x).length = k) (hk : 0 < k) (h0 : 0 < l.length) :
    ∃ b o, A = some ⟨b, o, none⟩ ∧ b < w.heap.size ∧ ∀ j, j < l.length → ∀ i v, (f l[j]!)[i]? = some v → w.cell? ⟨b, o + j * k + i, none⟩ = some v := by
  obtain ⟨b, o, rfl, hb, -⟩ := h.at k hf hk h0
  refine ⟨b, o, rfl, hb, fun j hj i v hv => ?_⟩
  obtain ⟨b', o', he, -, hc⟩ := h.at k hf hk hj
  injection he with he
  injection he with h1 h2
  subst h1 h2
  rw [getElem!_pos l j hj] at hv
  exact hc i v hv

instance : Inhabited PartR := ⟨⟨0, ByteArray.empty, 0, 0⟩⟩
instance : Inhabited WinR := ⟨⟨0, 0, 0⟩⟩
instance : Inhabited RegR := ⟨⟨0, 0, 0, 0, false⟩⟩
instance : Inhabited PortR := ⟨⟨0, 0, ByteArray.empty, false, false, 0⟩⟩

theorem keyP_eq (x y : PartR) : decide (x.key = y.key) = (((x.id : Int) == (y.id : Int)) && (x.name.toList == y.name.toList) && ((x.period : Int) == (y.period : Int)) && ((x.dur : Int) == (y.dur : Int))) := by
  simp only [nat_beq, str_beq]
  rw [Bool.eq_iff_iff]
  simp only [Bool.and_eq_true, decide_eq_true_eq, PartR.key, List.cons.injEq, and_assoc]
  try rw [text_tail (by rfl)]
  try simp only [List.cons.injEq, and_true]

theorem neqP : NeqAt Tryz.prog 36 (fun x : PartR => .agg (partV x).toArray) (fun x y => decide (x.key = y.key)) := by
  refine ⟨fun x y w => ?_, GuardAt.agg _ (by kernel_rfl)⟩
  show (binOp .neq 36 (.agg (partV x).toArray) (.agg (partV y).toArray)).run Tryz.prog w = .ok (.bool (!decide (x.key = y.key))) w
  rw [keyP_eq]
  have u0 := Tryz.underlying32
  have a0 := Tryz.isAgg32
  have z0 := Tryz.sizeOf32
  have u1 := Tryz.underlying9
  have a1 := Tryz.isAgg9
  have z1 := Tryz.sizeOf9
  have u2 := Tryz.underlying25
  have a2 := Tryz.isAgg25
  have z2 := Tryz.sizeOf25
  have hS : Tryz.prog.underlying 36 = some (.struct (Tryz.prog.fieldsOf 36)) := by kernel_rfl
  have hp : Tryz.prog.stoodInHeld 36 = false := by kernel_rfl
  simp only [partV]
  rw [run_neq_struct, show (10000 : Nat) = 9999 + 1 from rfl, run_equalIn_agg w 9999 36 _ _ hS hp]
  simp only [Program.fieldsOf, Tryz.underlying36]
  go_simp
  cases hb0 : ((x.id : Int) == (y.id : Int)) <;> cases hb1 : (x.name.toList == y.name.toList) <;> cases hb2 : ((x.period : Int) == (y.period : Int)) <;> cases hb3 : ((x.dur : Int) == (y.dur : Int)) <;> simp_all

theorem equalP_ok (l m : List PartR) (A B : Option Addr) (ca cb : Nat) (w : World) (hA : Recs w A ca l partV) (hB : Recs w B cb m partV) :
    Calls Tryz.prog 55 #[.slice A l.length ca, .slice B m.length cb] w fun e w' => e = .returned (.bool (decide (l.map PartR.key = m.map PartR.key))) ∧ Gd w w' := by
  by_cases hlen : l.length = m.length
  · rcases Nat.eq_zero_or_pos l.length with h0 | h0
    · have e1 : l = [] := List.eq_nil_of_length_eq_zero h0
      have e2 : m = [] := List.eq_nil_of_length_eq_zero (by omega)
      subst e1 e2
      show Calls Tryz.prog _ #[.slice A 0 ca, .slice B 0 cb] w _
      clear hA hB hlen h0
      go_enter Tryz.func55, Tryz.ntmps55
      go_wp2
      refine wp_loop_rounds 1 ?_
      rw [rounds_succ]
      go_wp2
      go_ret
      exact ⟨rfl, Gd.refl _⟩
    · obtain ⟨b1, o1, rfl, -, hc1⟩ := recs_at hA 4 (fun _ => rfl) (by omega) h0
      obtain ⟨b2, o2, rfl, -, hc2⟩ := recs_at hB 4 (fun _ => rfl) (by omega) (by omega)
      have h1 := hA.max
      have h2 := hB.max
      refine (AnyQ.slices_Equal Tryz.eql55 4 Tryz.isAgg36 Tryz.sizeOf36 partV (fun _ => rfl) _ neqP b1 o1 l.length ca b2 o2 m.length cb l m w (Nat.le_refl _) (Nat.le_refl _) (by omega) (by omega) hc1 hc2).mono ?_
      rintro e w' ⟨rfl, n, rfl⟩
      rw [List.take_length, List.take_length, allEq_key]
      exact ⟨rfl, below_drewN (Below.refl _ _) n, Nat.le_add_right _ _⟩
  · have hne : decide (l.map PartR.key = m.map PartR.key) = false := decide_eq_false fun h => hlen (by have := congrArg List.length h; simpa using this)
    rw [hne]
    have hni : ¬ (l.length : Int) = (m.length : Int) := by omega
    clear hA hB hne hlen
    go_enter Tryz.func55, Tryz.ntmps55
    go_wp2
    go_ret
    exact ⟨rfl, Gd.refl _⟩

theorem keyW_eq (x y : WinR) : decide (x.key = y.key) = (((x.start : Int) == (y.start : Int)) && ((x.len : Int) == (y.len : Int)) && ((x.part : Int) == (y.part : Int))) := by
  simp only [nat_beq]
  rw [Bool.eq_iff_iff]
  simp only [Bool.and_eq_true, decide_eq_true_eq, WinR.key, List.cons.injEq, and_true, and_assoc]
  try rw [text_tail (by rfl)]
  try simp only [List.cons.injEq, and_true]

theorem neqW : NeqAt Tryz.prog 45 (fun x : WinR => .agg (winV x).toArray) (fun x y => decide (x.key = y.key)) := by
  refine ⟨fun x y w => ?_, GuardAt.agg _ (by kernel_rfl)⟩
  show (binOp .neq 45 (.agg (winV x).toArray) (.agg (winV y).toArray)).run Tryz.prog w = .ok (.bool (!decide (x.key = y.key))) w
  rw [keyW_eq]
  have u0 := Tryz.underlying25
  have a0 := Tryz.isAgg25
  have z0 := Tryz.sizeOf25
  have u1 := Tryz.underlying32
  have a1 := Tryz.isAgg32
  have z1 := Tryz.sizeOf32
  have hS : Tryz.prog.underlying 45 = some (.struct (Tryz.prog.fieldsOf 45)) := by kernel_rfl
  have hp : Tryz.prog.stoodInHeld 45 = false := by kernel_rfl
  simp only [winV]
  rw [run_neq_struct, show (10000 : Nat) = 9999 + 1 from rfl, run_equalIn_agg w 9999 45 _ _ hS hp]
  simp only [Program.fieldsOf, Tryz.underlying45]
  go_simp
  cases hb0 : ((x.start : Int) == (y.start : Int)) <;> cases hb1 : ((x.len : Int) == (y.len : Int)) <;> cases hb2 : ((x.part : Int) == (y.part : Int)) <;> simp_all

theorem equalW_ok (l m : List WinR) (A B : Option Addr) (ca cb : Nat) (w : World) (hA : Recs w A ca l winV) (hB : Recs w B cb m winV) :
    Calls Tryz.prog 56 #[.slice A l.length ca, .slice B m.length cb] w fun e w' => e = .returned (.bool (decide (l.map WinR.key = m.map WinR.key))) ∧ Gd w w' := by
  by_cases hlen : l.length = m.length
  · rcases Nat.eq_zero_or_pos l.length with h0 | h0
    · have e1 : l = [] := List.eq_nil_of_length_eq_zero h0
      have e2 : m = [] := List.eq_nil_of_length_eq_zero (by omega)
      subst e1 e2
      show Calls Tryz.prog _ #[.slice A 0 ca, .slice B 0 cb] w _
      clear hA hB hlen h0
      go_enter Tryz.func56, Tryz.ntmps56
      go_wp2
      refine wp_loop_rounds 1 ?_
      rw [rounds_succ]
      go_wp2
      go_ret
      exact ⟨rfl, Gd.refl _⟩
    · obtain ⟨b1, o1, rfl, -, hc1⟩ := recs_at hA 3 (fun _ => rfl) (by omega) h0
      obtain ⟨b2, o2, rfl, -, hc2⟩ := recs_at hB 3 (fun _ => rfl) (by omega) (by omega)
      have h1 := hA.max
      have h2 := hB.max
      refine (AnyQ.slices_Equal Tryz.eql56 3 Tryz.isAgg45 Tryz.sizeOf45 winV (fun _ => rfl) _ neqW b1 o1 l.length ca b2 o2 m.length cb l m w (Nat.le_refl _) (Nat.le_refl _) (by omega) (by omega) hc1 hc2).mono ?_
      rintro e w' ⟨rfl, n, rfl⟩
      rw [List.take_length, List.take_length, allEq_key]
      exact ⟨rfl, below_drewN (Below.refl _ _) n, Nat.le_add_right _ _⟩
  · have hne : decide (l.map WinR.key = m.map WinR.key) = false := decide_eq_false fun h => hlen (by have := congrArg List.length h; simpa using this)
    rw [hne]
    have hni : ¬ (l.length : Int) = (m.length : Int) := by omega
    clear hA hB hne hlen
    go_enter Tryz.func56, Tryz.ntmps56
    go_wp2
    go_ret
    exact ⟨rfl, Gd.refl _⟩

theorem keyR_eq (x y : RegR) : decide (x.key = y.key) = (((x.base : Int) == (y.base : Int)) && ((x.size : Int) == (y.size : Int)) && ((x.part : Int) == (y.part : Int)) && ((x.rights : Int) == (y.rights : Int)) && (x.shared == y.shared)) := by
  simp only [nat_beq, bool_beq]
  rw [Bool.eq_iff_iff]
  simp only [Bool.and_eq_true, decide_eq_true_eq, RegR.key, List.cons.injEq, and_true, and_assoc]
  try rw [text_tail (by rfl)]
  try simp only [List.cons.injEq, and_true]

theorem neqR : NeqAt Tryz.prog 47 (fun x : RegR => .agg (regV x).toArray) (fun x y => decide (x.key = y.key)) := by
  refine ⟨fun x y w => ?_, GuardAt.agg _ (by kernel_rfl)⟩
  show (binOp .neq 47 (.agg (regV x).toArray) (.agg (regV y).toArray)).run Tryz.prog w = .ok (.bool (!decide (x.key = y.key))) w
  rw [keyR_eq]
  have u0 := Tryz.underlying25
  have a0 := Tryz.isAgg25
  have z0 := Tryz.sizeOf25
  have u1 := Tryz.underlying32
  have a1 := Tryz.isAgg32
  have z1 := Tryz.sizeOf32
  have u2 := Tryz.underlying5
  have a2 := Tryz.isAgg5
  have z2 := Tryz.sizeOf5
  have u3 := Tryz.underlying4
  have a3 := Tryz.isAgg4
  have z3 := Tryz.sizeOf4
  have hS : Tryz.prog.underlying 47 = some (.struct (Tryz.prog.fieldsOf 47)) := by kernel_rfl
  have hp : Tryz.prog.stoodInHeld 47 = false := by kernel_rfl
  simp only [regV]
  rw [run_neq_struct, show (10000 : Nat) = 9999 + 1 from rfl, run_equalIn_agg w 9999 47 _ _ hS hp]
  simp only [Program.fieldsOf, Tryz.underlying47]
  go_simp
  cases hb0 : ((x.base : Int) == (y.base : Int)) <;> cases hb1 : ((x.size : Int) == (y.size : Int)) <;> cases hb2 : ((x.part : Int) == (y.part : Int)) <;> cases hb3 : ((x.rights : Int) == (y.rights : Int)) <;> cases hb4 : (x.shared == y.shared) <;> simp_all

theorem equalR_ok (l m : List RegR) (A B : Option Addr) (ca cb : Nat) (w : World) (hA : Recs w A ca l regV) (hB : Recs w B cb m regV) :
    Calls Tryz.prog 57 #[.slice A l.length ca, .slice B m.length cb] w fun e w' => e = .returned (.bool (decide (l.map RegR.key = m.map RegR.key))) ∧ Gd w w' := by
  by_cases hlen : l.length = m.length
  · rcases Nat.eq_zero_or_pos l.length with h0 | h0
    · have e1 : l = [] := List.eq_nil_of_length_eq_zero h0
      have e2 : m = [] := List.eq_nil_of_length_eq_zero (by omega)
      subst e1 e2
      show Calls Tryz.prog _ #[.slice A 0 ca, .slice B 0 cb] w _
      clear hA hB hlen h0
      go_enter Tryz.func57, Tryz.ntmps57
      go_wp2
      refine wp_loop_rounds 1 ?_
      rw [rounds_succ]
      go_wp2
      go_ret
      exact ⟨rfl, Gd.refl _⟩
    · obtain ⟨b1, o1, rfl, -, hc1⟩ := recs_at hA 5 (fun _ => rfl) (by omega) h0
      obtain ⟨b2, o2, rfl, -, hc2⟩ := recs_at hB 5 (fun _ => rfl) (by omega) (by omega)
      have h1 := hA.max
      have h2 := hB.max
      refine (AnyQ.slices_Equal Tryz.eql57 5 Tryz.isAgg47 Tryz.sizeOf47 regV (fun _ => rfl) _ neqR b1 o1 l.length ca b2 o2 m.length cb l m w (Nat.le_refl _) (Nat.le_refl _) (by omega) (by omega) hc1 hc2).mono ?_
      rintro e w' ⟨rfl, n, rfl⟩
      rw [List.take_length, List.take_length, allEq_key]
      exact ⟨rfl, below_drewN (Below.refl _ _) n, Nat.le_add_right _ _⟩
  · have hne : decide (l.map RegR.key = m.map RegR.key) = false := decide_eq_false fun h => hlen (by have := congrArg List.length h; simpa using this)
    rw [hne]
    have hni : ¬ (l.length : Int) = (m.length : Int) := by omega
    clear hA hB hne hlen
    go_enter Tryz.func57, Tryz.ntmps57
    go_wp2
    go_ret
    exact ⟨rfl, Gd.refl _⟩

theorem keyT_eq (x y : PortR) : decide (x.key = y.key) = (((x.id : Int) == (y.id : Int)) && ((x.part : Int) == (y.part : Int)) && (x.name.toList == y.name.toList) && (x.out == y.out) && (x.que == y.que) && ((x.size : Int) == (y.size : Int))) := by
  simp only [nat_beq, str_beq, bool_beq]
  rw [Bool.eq_iff_iff]
  simp only [Bool.and_eq_true, decide_eq_true_eq, PortR.key, List.cons.injEq, and_assoc]
  try rw [text_tail (by rfl)]
  try simp only [List.cons.injEq, and_true]

theorem neqT : NeqAt Tryz.prog 39 (fun x : PortR => .agg (portV x).toArray) (fun x y => decide (x.key = y.key)) := by
  refine ⟨fun x y w => ?_, GuardAt.agg _ (by kernel_rfl)⟩
  show (binOp .neq 39 (.agg (portV x).toArray) (.agg (portV y).toArray)).run Tryz.prog w = .ok (.bool (!decide (x.key = y.key))) w
  rw [keyT_eq]
  have u0 := Tryz.underlying32
  have a0 := Tryz.isAgg32
  have z0 := Tryz.sizeOf32
  have u1 := Tryz.underlying9
  have a1 := Tryz.isAgg9
  have z1 := Tryz.sizeOf9
  have u2 := Tryz.underlying4
  have a2 := Tryz.isAgg4
  have z2 := Tryz.sizeOf4
  have u3 := Tryz.underlying37
  have a3 := Tryz.isAgg37
  have z3 := Tryz.sizeOf37
  have hS : Tryz.prog.underlying 39 = some (.struct (Tryz.prog.fieldsOf 39)) := by kernel_rfl
  have hp : Tryz.prog.stoodInHeld 39 = false := by kernel_rfl
  simp only [portV]
  rw [run_neq_struct, show (10000 : Nat) = 9999 + 1 from rfl, run_equalIn_agg w 9999 39 _ _ hS hp]
  simp only [Program.fieldsOf, Tryz.underlying39]
  go_simp
  cases hb0 : ((x.id : Int) == (y.id : Int)) <;> cases hb1 : ((x.part : Int) == (y.part : Int)) <;> cases hb2 : (x.name.toList == y.name.toList) <;> cases hb3 : (x.out == y.out) <;> cases hb4 : (x.que == y.que) <;> cases hb5 : ((x.size : Int) == (y.size : Int)) <;> simp_all

theorem equalT_ok (l m : List PortR) (A B : Option Addr) (ca cb : Nat) (w : World) (hA : Recs w A ca l portV) (hB : Recs w B cb m portV) :
    Calls Tryz.prog 58 #[.slice A l.length ca, .slice B m.length cb] w fun e w' => e = .returned (.bool (decide (l.map PortR.key = m.map PortR.key))) ∧ Gd w w' := by
  by_cases hlen : l.length = m.length
  · rcases Nat.eq_zero_or_pos l.length with h0 | h0
    · have e1 : l = [] := List.eq_nil_of_length_eq_zero h0
      have e2 : m = [] := List.eq_nil_of_length_eq_zero (by omega)
      subst e1 e2
      show Calls Tryz.prog _ #[.slice A 0 ca, .slice B 0 cb] w _
      clear hA hB hlen h0
      go_enter Tryz.func58, Tryz.ntmps58
      go_wp2
      refine wp_loop_rounds 1 ?_
      rw [rounds_succ]
      go_wp2
      go_ret
      exact ⟨rfl, Gd.refl _⟩
    · obtain ⟨b1, o1, rfl, -, hc1⟩ := recs_at hA 6 (fun _ => rfl) (by omega) h0
      obtain ⟨b2, o2, rfl, -, hc2⟩ := recs_at hB 6 (fun _ => rfl) (by omega) (by omega)
      have h1 := hA.max
      have h2 := hB.max
      refine (AnyQ.slices_Equal Tryz.eql58 6 Tryz.isAgg39 Tryz.sizeOf39 portV (fun _ => rfl) _ neqT b1 o1 l.length ca b2 o2 m.length cb l m w (Nat.le_refl _) (Nat.le_refl _) (by omega) (by omega) hc1 hc2).mono ?_
      rintro e w' ⟨rfl, n, rfl⟩
      rw [List.take_length, List.take_length, allEq_key]
      exact ⟨rfl, below_drewN (Below.refl _ _) n, Nat.le_add_right _ _⟩
  · have hne : decide (l.map PortR.key = m.map PortR.key) = false := decide_eq_false fun h => hlen (by have := congrArg List.length h; simpa using this)
    rw [hne]
    have hni : ¬ (l.length : Int) = (m.length : Int) := by omega
    clear hA hB hne hlen
    go_enter Tryz.func58, Tryz.ntmps58
    go_wp2
    go_ret
    exact ⟨rfl, Gd.refl _⟩

end Go.Proofs.YthdagjlgfffpbaaGreat

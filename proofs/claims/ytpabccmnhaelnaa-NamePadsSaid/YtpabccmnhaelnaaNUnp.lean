/-
  Layer 4: name.Unpad. By the verifier.
-/
import Derived.Test.YtpabccmnhaelnaaNPad
import Derived.Test.YtpabccmnhaelnaaMApp
import Derived.Deep.MidRow
import Derived.Deep.QuietTactic
import Derived.BigQuiet
import Derived.OrdersHeld
import Derived.Deep.RegionHeld
set_option linter.unusedVariables false
namespace Go.Proofs.Ytpabccmnhaelnaa
open Go.RowKit

theorem quiet_left {P : Program} {f : FuncId} {args : Array Value} {w : World} {n : Nat} {v : Value}
    (h : Calls P f args (w.drewN n) fun e w' => e = .returned v ∧ w.drewN n = w') : Calls P f args (w.drewN n) fun e w'' => e = .returned v ∧ ∃ m, w'' = w.drewN m :=
  h.mono fun _ _ ⟨he, hm⟩ => ⟨he, n, hm.symm⟩

/-- A load of a whole array, by its equation. -/
theorem exec_load {P : Program} {o : Oper} {ev : Operand → Value} {W : World} {p : Value} {v : Value} (ty : TypeId) (x : Operand) (ho : o.op = .load ty x) (hx : ev x = p) (h : (Instr.loadAt ty p).run P W = .ok v W) : (execOp ev o).run P W = .ok (.value v) W := by
  unfold execOp
  simp only [ho, hx]
  simp [h, Result.andThen]

section
variable {P : Program} {ops : Array Oper} {Q : Exit → Act → World → Prop} {md : Region.Mode} {S : World → Prop}
/-- Number i alone may come up. -/
theorem H_only (i : Nat) {oi : Oper} {fuel : Nat} {listed : Array Bool} {a : Act} {w : World} (hi : ops[i]? = some oi) (hw : Region.wanted oi (yielded ops a.tmps) = true) (hr : Region.ready md ops listed = [i])
    (h : ∀ K : Act → World → Prop, (∀ a' w', S w' → wpAnyH P md ops Q S fuel (listed.setIfInBounds i true) a' w' → K a' w') → oi.wp P a w K Q) : wpAnyH P md ops Q S (fuel + 1) listed a w := by
  refine wpAnyH_all hr (by simp) (fun j hj => ?_)
  obtain rfl : j = i := by simpa using hj
  unfold wpOp
  simp only [hi]
  rw [if_pos hw]
  exact .inl (h _ fun a' w' hS' hT => ⟨hS', hT⟩)
/-- A call of a Go function, by its contract. -/
theorem wp_func {o : Oper} {a : Act} {w : World} {K : Act → World → Prop} (f : FuncId) (args : Array Value) (hrun : (execOp a.eval o).run P w = .ok (.enter f args) w) {R : Ending → World → Prop} (hc : Calls P f args w R)
    (hK : ∀ e w', R e w' → ∃ v, e = .returned v ∧ K (a.put o.dst v) w') : o.wp P a w K Q := by
  unfold Oper.wp
  rw [hrun, Oper.upon_enter]
  refine hc.mono fun e w' h => ?_
  obtain ⟨v, rfl, hk⟩ := hK e w' h
  exact hk
end

/-- What Unpad hands back. -/
def UnpRes (w : World) (n : List Nat) (ok : Bool) (e : Ending) (w' : World) : Prop := e = .returned (.tuple #[.string (strB n), .bool ok]) ∧ Below w.heap.size w w'

theorem unpadN_no {b : List Nat} {n : Int} (h : unpadY b n = false) : unpadN b n = [] := by unfold unpadN; rw [h]; rfl
theorem unpadN_yes {b : List Nat} {k : Nat} (h : unpadY b (k : Int) = true) : unpadN b (k : Int) = b.take k := by unfold unpadN; rw [h, Int.toNat_natCast]; rfl

/-- The block that a boxed array lies in. -/
def Box30 (W : World) (g : Nat) (b : List Nat) : Prop := Row W g 32 30 (fun i => V8 (b.getD i 0))

theorem Box30.bys {W : World} {g : Nat} {b : List Nat} (h : Box30 W g b) (hb : b.length = 30) (hbs : Bs b) (k : Nat) (hk : k ≤ 30) : Bys W (some ⟨g, 0, none⟩) (b.take k) := by
  refine ⟨fun i hi => ⟨g, 0, rfl, h.lt, ?_⟩, hbs.take k, by rw [List.length_take]; unfold maxLen; omega⟩
  rw [List.length_take] at hi
  rw [Nat.zero_add, h.cell (i := i) (by omega)]
  show _ = some (V8 ((b.take k).getD i 0))
  rw [take_get, if_pos (by omega)]
theorem Box30.load {W : World} {g : Nat} {b : List Nat} (h : Box30 W g b) : (Instr.loadAt 32 (.pointer (some ⟨g, 0, none⟩))).run Try.prog W = .ok (.agg (arr30 b)) W := by
  obtain ⟨-, hz1⟩ := zero_of_info zero30
  have hr : W.rangeAt g 0 ((List.range 30).map fun i => V8 (b.getD i 0)) := by
    intro j u hu
    have hj : j < 30 := by
      rcases Nat.lt_or_ge j 30 with h1 | h1
      · exact h1
      · rw [List.getElem?_eq_none (by simpa using h1)] at hu; cases hu
    rw [Nat.zero_add, h.cell hj, ← hu]
    simp [hj]
  exact run_loadAt_mid W g 0 32 _ _ hr Try.underlying32 rfl (by rw [List.length_map, List.length_range]; exact hz1)
theorem Box30.below {W W' : World} {g : Nat} {b : List Nat} (h : Box30 W g b) (hb : Below W.heap.size W W') : Box30 W' g b := (Turn.of_below (S := fun _ => False) hb).row h id
theorem Box30.new (w : World) (b : List Nat) : Box30 (w.alloc (.cells (arr30 b) 32)) w.heap.size b := Row.new w _ _ _

set_option maxHeartbeats 2000000 in
set_option maxRecDepth 20000 in
theorem unpad_ok (b : List Nat) (hb : b.length = 30) (hbs : Bs b) (n : Int) (w : World) :
    Calls Try.prog 17 #[.agg (arr30 b), .int .i64 n] w fun e w' => UnpRes w (unpadN b n) (unpadY b n) e w' := by
  have HA : Hid (Below w.heap.size w (w.alloc (.cells (arr30 b) 32))) := Lib.hid ((Below.refl _ _).alloc (Nat.le_refl _) _)
  by_cases h0 : n < 0
  · rw [unpadN_no (unpad_neg h0), unpad_neg h0]
    clear hb hbs
    generalize arr30 b = ab at *
    go_enter Try.func17, Try.ntmps17
    go_wp2_with fail
    go_ret2
    exact ⟨rfl, HA.out⟩
  · by_cases h1 : 30 < n
    · rw [unpadN_no (unpad_long h1), unpad_long h1]
      clear hb hbs
      generalize arr30 b = ab at *
      go_enter Try.func17, Try.ntmps17
      go_wp2_with fail
      go_ret2
      exact ⟨rfl, HA.out⟩
    · obtain ⟨k, rfl⟩ : ∃ k : Nat, n = (k : Int) := ⟨n.toNat, by omega⟩
      have hk : k ≤ 30 := by omega
      have hki : (k : Int) ≤ 30 := by omega
      have hbox := Box30.new w b
      have hy := hbox.bys hb hbs k hk
      have hcv := conv_ok 30 hy
      have htl : (b.take k).length = k := by rw [List.length_take]; omega
      rw [htl] at hcv
      have hS : Str (strB (b.take k)) (b.take k) := ⟨rfl, hbs.take k⟩
      have HV := Lib.hid (valid_ok _ _ hS (by rw [htl]; unfold maxLen; omega))
      cases hv : nameB (b.take k) with
      | false =>
        have hr := unpad_bad hk hv
        rw [unpadN_no hr, hr]
        rw [hv] at HV
        clear hr hv hS hy hbox hb hbs htl
        generalize strB (b.take k) = s at *
        generalize arr30 b = ab at *
        go_enter Try.func17, Try.ntmps17
        go_wp2_with fail
        go_quiet ((go_at_call 10; exact quiet_left (HV.out _)))
        go_wp2_with fail
        go_ret2
        exact ⟨rfl, below_drewN HA.out _⟩
      | true =>
        rw [hv] at HV
        have HP := Lib.hid (pad_ok _ _ hS (by rw [htl]; unfold maxLen; omega))
        have hp : padV (b.take k) = b.take k := by unfold padV; rw [hv]; rfl
        rw [hp] at HP
        have hne := neq30 (b.take k) b (hbs.take k) hbs
        have hr := unpad_same hb hk hv
        have HBX := Lib.hid hbox
        have HR : Hid (unpadN b (k : Int) = if same30 (b.take k) b then b.take k else []) := Lib.hid (by
          unfold unpadN
          rw [hr, Int.toNat_natCast])
        have HY := Lib.hid hr
        have HTS : Hid (strB (b.take k) = strB (b.take k)) := Lib.hid rfl
        obtain ⟨s, hse⟩ : ∃ s, s = strB (b.take k) := ⟨_, rfl⟩
        rw [← hse] at HV HP hcv
        have HSE := Lib.hid hse
        have hS0 : Box30 (w.alloc (.cells (arr30 b) 32)).drew w.heap.size b := hbox
        have hload : ∀ W, Box30 W w.heap.size b → (Instr.loadAt 32 (.pointer (some ⟨w.heap.size, 0, none⟩))).run Try.prog W = .ok (.agg (arr30 b)) W := fun W h => h.load
        have HLOAD := Lib.hid hload
        generalize hsm : same30 (b.take k) b = sm at *
        obtain ⟨at', hat⟩ : ∃ at', at' = arr30 (b.take k) := ⟨_, rfl⟩
        rw [← hat] at HP hne
        obtain ⟨ab, hab⟩ : ∃ ab, ab = arr30 b := ⟨_, rfl⟩
        rw [← hab] at hne hcv hS0 HA HBX HLOAD ⊢
        have HBB := Lib.hid (And.intro hb hbs)
        clear hr hv hS hy hbox hb hbs htl hp hse hload hsm hat hab
        go_enter Try.func17, Try.ntmps17
        go_wp2_with fail
        refine wp_region_held_drew (S := fun W => Box30 W w.heap.size b) (by kernel_rfl) hS0 (fun hS => ?_)
        refine wpAnyH_take (i := 0) (oi := { dst := some 16, op := Op.move (Operand.tmp 6), type := 9, pos := "name.go:126", after := #[], guard := none }) (v := .string s) rfl (by kernel_rfl) (by kernel_rfl) (by kernel_rfl) (fun _ _ _ h => h) (.inl ⟨by rfl, fun W hW => ?_⟩) hS ?_
        · go_simp
        simp only [Act.put, List.setIfInBounds_toArray, List.set_cons_zero, List.set_cons_succ]
        refine H_only 1 (oi := { dst := some 17, op := Op.call { callee := Callee.value (Operand.func 10), args := #[Operand.tmp 16], argTypes := #[9] }, type := 4, pos := "name.go:126", after := #[{ on := 0, ground := Ground.data }], guard := none }) rfl (by rfl) (by kernel_rfl) (fun K hK => ?_)
        refine wp_func 10 #[.string s] (by clear hK; go_simp) (HV.out _) (fun e w5 he => ?_)
        obtain ⟨rfl, rfl⟩ := he
        refine ⟨_, rfl, hK _ _ hS ?_⟩
        clear hK K
        simp only [Act.put, List.setIfInBounds_toArray, List.set_cons_zero, List.set_cons_succ]
        refine wpAnyH_take (i := 2) (oi := { dst := some 18, op := Op.unOp UnOp.not 4 (Operand.tmp 17), type := 4, pos := "name.go:126", after := #[{ on := 1, ground := Ground.data }], guard := none }) (v := .bool false) rfl (by kernel_rfl) (by kernel_rfl) (by kernel_rfl) (fun _ _ _ h => h) (.inl ⟨by rfl, fun W hW => ?_⟩) hS ?_
        · go_simp
        simp only [Act.put, List.setIfInBounds_toArray, List.set_cons_zero, List.set_cons_succ]
        refine wpAnyH_take (i := 3) (oi := { dst := some 19, op := Op.move (Operand.tmp 18), type := 4, pos := "name.go:126", after := #[{ on := 2, ground := Ground.data }, { on := 1, ground := Ground.chain }], guard := none }) (v := .bool false) rfl (by kernel_rfl) (by kernel_rfl) (by kernel_rfl) (fun _ _ _ h => h) (.inl ⟨by rfl, fun W hW => ?_⟩) hS ?_
        · go_simp
        simp only [Act.put, List.setIfInBounds_toArray, List.set_cons_zero, List.set_cons_succ]
        refine wpAnyH_take (i := 4) (oi := { dst := some 20, op := Op.move (Operand.tmp 6), type := 9, pos := "name.go:126", after := #[{ on := 3, ground := Ground.guard }], guard := some (3, false) }) (v := .string s) rfl (by kernel_rfl) (by kernel_rfl) (by kernel_rfl) (fun _ _ _ h => h) (.inl ⟨by rfl, fun W hW => ?_⟩) hS ?_
        · go_simp
        simp only [Act.put, List.setIfInBounds_toArray, List.set_cons_zero, List.set_cons_succ]
        refine wpAnyH_take (i := 6) (oi := { dst := some 22, op := Op.load 32 (Operand.tmp 2), type := 32, pos := "name.go:126", after := #[{ on := 3, ground := Ground.guard }], guard := some (3, false) }) (v := .agg ab) rfl (by kernel_rfl) (by kernel_rfl) (by kernel_rfl) (fun _ _ _ h => h) (.inl ⟨by rfl, fun W hW => ?_⟩) hS ?_
        · exact exec_load _ _ rfl rfl (HLOAD.out W hW)
        simp only [Act.put, List.setIfInBounds_toArray, List.set_cons_zero, List.set_cons_succ]
        refine H_only 5 (oi := { dst := some 21, op := Op.call { callee := Callee.value (Operand.func 16), args := #[Operand.tmp 20], argTypes := #[9] }, type := 32, pos := "name.go:126", after := #[{ on := 4, ground := Ground.data }, { on := 3, ground := Ground.chain }, { on := 3, ground := Ground.guard }], guard := some (3, false) }) rfl (by rfl) (by kernel_rfl) (fun K hK => ?_)
        refine wp_func 16 #[.string s] (by clear hK; go_simp) (HP.out _) (fun e w5 he => ?_)
        obtain ⟨rfl, hb5⟩ := he
        have hS5 : Box30 w5 w.heap.size b := Box30.below hS hb5
        have HB5 := Lib.hid (HA.out.drew.trans (hb5.mono HA.out.size))
        refine ⟨_, rfl, hK _ _ hS5 ?_⟩
        clear hK K hS hb5
        simp only [Act.put, List.setIfInBounds_toArray, List.set_cons_zero, List.set_cons_succ]
        refine wpAnyH_take (i := 7) (oi := { dst := some 23, op := Op.binOp BinOp.neq 32 (Operand.tmp 21) (Operand.tmp 22) 32, type := 4, pos := "name.go:126", after := #[{ on := 5, ground := Ground.data }, { on := 6, ground := Ground.data }, { on := 3, ground := Ground.guard }], guard := some (3, false) }) (v := .bool (!sm)) rfl (by kernel_rfl) (by kernel_rfl) (by kernel_rfl) (fun _ _ _ h => h) (.inl ⟨by rfl, fun W hW => ?_⟩) hS5 ?_
        · go_simp
        simp only [Act.put, List.setIfInBounds_toArray, List.set_cons_zero, List.set_cons_succ]
        refine wpAnyH_take (i := 8) (oi := { dst := some 24, op := Op.pick (Operand.tmp 19) (Operand.const (Value.bool true)) (Operand.tmp 23), type := 4, pos := "name.go:126", after := #[{ on := 3, ground := Ground.data }, { on := 7, ground := Ground.data }], guard := none }) (v := .bool (!sm)) rfl (by kernel_rfl) (by kernel_rfl) (by kernel_rfl) (fun _ _ _ h => h) (.inl ⟨by rfl, fun W hW => ?_⟩) hS5 ?_
        · go_simp
        simp only [Act.put, List.setIfInBounds_toArray, List.set_cons_zero, List.set_cons_succ]
        refine wpAnyH_done (by kernel_rfl) ?_ _
        clear hS5
        cases sm with
        | false =>
          go_wp2_with fail
          go_ret2
          rw [HR.out, HY.out]
          exact ⟨rfl, HB5.out⟩
        | true =>
          go_wp2_with fail
          go_ret2
          rw [HR.out, HY.out]
          exact ⟨by rw [HSE.out]; rfl, HB5.out⟩

end Go.Proofs.Ytpabccmnhaelnaa

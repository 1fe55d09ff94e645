/-
  The law NamePads returns true: for all strings, Pad returns the bytes of a name and zero bytes, from which Unpad returns the name, and the argument is not changed. For every input: no condition. By the verifier.
-/
import Derived.Test.YtpabccmnhaelnaaNAlive
import Derived.Test.YtpabccmnhaelnaaNRun
import Derived.Test.YtpabccmnhaelnaaRows
import Derived.ChangeMaps5
set_option linter.unusedVariables false
namespace Go.Proofs.Ytpabccmnhaelnaa.LawPads
open Go.RowKit Go.ChangeShapes Go.WideShapes Go.ChangeAt

theorem walk_long (s : ByteArray) (h1 : (1000 : Int) < (s.size : Int)) (w : World) :
    Calls Try.prog 6 #[.string s] w fun e w' => e = .returned (.bool true) ∧ Below w.heap.size w w' := by
  go_enter Try.func6, Try.ntmps6
  go_wp2_with fail
  refine (alive_ok _).mono ?_
  rintro e w1 ⟨rfl, hb1⟩
  go_wp2_with fail
  go_ret
  exact ⟨rfl, hb1⟩

theorem wpList_load_roww {P : Program} {ops : Array Oper} {rest : List Oper} {o : Oper} {a : Act} {w : World} {Q : Exit → Act → World → Prop} (hw : Region.wanted o (yielded ops a.tmps) = true) (ty : TypeId) (x : Operand) (ho : o.op = .load ty x)
    (g : Nat) (hx : a.eval x = .pointer (some ⟨g, 0, none⟩)) (t : TypeId) (cs : Array Value) (fr : Nat × Nat) (d : TypeDesc) (hg : w.heap[g]? = some (.cells cs t fr))
    (hu : P.underlying ty = some d) (hd : (match d with | .struct _ | .array _ _ => true | _ => false) = true) (hi : (P.info? ty).map (·.size) = some cs.size)
    (h : wpList P ops Q rest (a.put o.dst (.agg cs)) w) : wpList P ops Q (o :: rest) a w :=
  BigFrame.wpList_want hw fun _ hK => wp_load_row ty x ho g hx t cs fr d hg hu hd hi (hK _ _ h)

theorem alloc_heap (W : World) (cs : Array Value) : (W.alloc (.cells cs 32)).heap[W.heap.size]? = some (.cells cs 32 (0, 0)) := heap_alloc_new W _

set_option maxHeartbeats 2000000 in
set_option maxRecDepth 20000 in
theorem walk (s : ByteArray) (hs : s.size ≤ maxLen) (w : World) :
    Calls Try.prog 6 #[.string s] w fun e w' => e = .returned (.bool true) ∧ Below w.heap.size w w' := by
  by_cases h1 : (1000 : Int) < (s.size : Int)
  · exact walk_long s h1 w
  · have hl := (Str.of s).size
    obtain ⟨hz0, hz1⟩ := zero_of_info zero30
    have HV := Lib.hid (refvalid_ok s _ (Str.of s) (by omega))
    have HP := Lib.hid (pad_ok s _ (Str.of s) (by omega))
    obtain ⟨l, hle⟩ : ∃ l, l = bytesOf s := ⟨_, rfl⟩
    have hS : Str s l := by rw [hle]; exact Str.of s
    rw [← hle] at HV HP hl
    clear hle
    have HB : Hid (∀ l', Bs l' → ∀ (n : Int) (w : World), Calls Try.prog 17 #[.agg (arr30 l'), .int .i64 n] w fun e w' => UnpRes w (unpadN (pad30 l') n) (unpadY (pad30 l') n) e w') := Lib.hid fun l' hl' n w => by
      have := unpad_ok (pad30 l') (pad30_len l') (pad30_bs hl') n w
      rwa [arr30_pad] at this
    cases hv : nameB l with
    | false =>
      rw [hv] at HV
      have hp : padV l = [] := by unfold padV; rw [hv]; rfl
      rw [hp] at HP
      have hnb : Bs [] := fun x hx => by cases hx
      have HU := Lib.hid (HB.out [] hnb (s.size : Int))
      have hY := unpad_zeros (s.size : Int)
      unfold UnpRes at HU
      rw [unpadN_no hY, hY] at HU
      have HST : Hid (strB [] = ⟨#[]⟩) := Lib.hid rfl
      rw [HST.out] at HU
      have heq := eql30 [] [] hnb hnb
      have hsm : same30 [] [] = true := by decide
      rw [hsm] at heq
      have HI : Hid ((Try.prog.info? 32).map (·.size) = some (arr30 []).size) := Lib.hid (by rw [arr30_size]; exact hz1)
      have hsize : (arr30 []).size = 30 := arr30_size []
      have hst : ∀ W : World, (storeCells ⟨W.heap.size, 0, none⟩ (arr30 []).toList 0).run Try.prog (W.alloc (.cells (arr30 []) 32)) = .ok () (W.alloc (.cells (arr30 []) 32)) := fun W => by
        rw [run_store_whole (W.alloc (.cells (arr30 []) 32)) W.heap.size 32 _ (arr30 []) (alloc_heap W _) rfl (arr30_one _), World.setRow_alloc_new]
      obtain ⟨ab, hab⟩ : ∃ ab, ab = arr30 [] := ⟨_, rfl⟩
      rw [← hab] at HP HU heq HI hsize hst hz0
      clear hab hz1 hS hv hl hs hp hY hsm hnb HB HST
      go_enter Try.func6, Try.ntmps6
      go_wp2_with fail
      refine (HP.out _).mono ?_
      rintro e w1 ⟨rfl, hb1⟩
      have HA : Hid (Below w.heap.size w (w1.alloc (.cells ab 32))) := Lib.hid (hb1.alloc hb1.size _)
      have HH := Lib.hid (alloc_heap w1 ab)
      have HL1 : Hid (w1.heap.size < (w1.alloc (.cells ab 32)).heap.size) := Lib.hid (by simp)
      clear hb1
      go_wp2_with ((with_reducible refine wpList_load_row rfl _ _ rfl w1.heap.size rfl _ ab _ _ HH.out Try.underlying32 rfl HI.out ?_))
      refine (HU.out _).mono ?_
      rintro e w2 ⟨rfl, hb2⟩
      have HB2 := Lib.hid (HA.out.trans (hb2.mono HA.out.size))
      have HH2 := Lib.hid ((hb2.block w1.heap.size HL1.out).trans HH.out)
      have HL2 : Hid (w1.heap.size < w2.heap.size) := Lib.hid (Nat.lt_of_lt_of_le HL1.out hb2.size)
      clear hb2 HH HL1 HA
      go_wp2_with fail
      refine (HV.out _).mono ?_
      rintro e w' ⟨rfl, rfl⟩
      go_wp2_with fail
      refine (alive_ok _).mono ?_
      rintro e w3 ⟨rfl, hb3⟩
      have HB3 := Lib.hid (HB2.out.trans (hb3.mono HB2.out.size))
      have HH3 := Lib.hid ((hb3.block w1.heap.size HL2.out).trans HH2.out)
      clear hb3 HH2 HB2
      go_wp2_with ((with_reducible refine wpList_load_roww ?_ _ _ rfl w1.heap.size rfl _ ab _ _ HH3.out Try.underlying32 rfl HI.out ?_); rfl)
      go_ret
      exact ⟨rfl, HB3.out⟩
    | true =>
      rw [hv] at HV
      have hp : padV l = l := by unfold padV; rw [hv]; rfl
      rw [hp] at HP
      have h30 := ((nameB_iff l).1 hv).2.1
      have HU := Lib.hid (HB.out l hS.2 (s.size : Int))
      obtain ⟨hY, hT⟩ := unpad_name hv
      have hzl : (s.size : Int) = (l.length : Int) := by omega
      unfold UnpRes at HU
      rw [hzl, unpadN_yes hY, hY, hT, ← hS.1, ← hzl] at HU
      have heq := eql30 l l hS.2 hS.2
      have hsm : same30 l l = true := by simp [same30]
      rw [hsm] at heq
      have HI : Hid ((Try.prog.info? 32).map (·.size) = some (arr30 l).size) := Lib.hid (by rw [arr30_size]; exact hz1)
      have hsize : (arr30 l).size = 30 := arr30_size l
      have hst : ∀ W : World, (storeCells ⟨W.heap.size, 0, none⟩ (arr30 l).toList 0).run Try.prog (W.alloc (.cells (arr30 []) 32)) = .ok () (W.alloc (.cells (arr30 l) 32)) := fun W => by
        rw [run_store_whole (W.alloc (.cells (arr30 []) 32)) W.heap.size 32 _ (arr30 l) (alloc_heap W _) (by rw [arr30_size, arr30_size]) (arr30_one _), World.setRow_alloc_new]
      have hcp : ∀ (W : World) ty, (Builtin.copy_ #[36, 9] ty #[.slice (some ⟨W.heap.size, 0, none⟩) 30 30, .string s]).run Try.prog (W.alloc (.cells (arr30 []) 32)) = .ok (goInt s.size) (W.alloc (.cells (arr30 l) 32)) := fun W ty => by
        have h := Lib.run_copy_row_string (P := Try.prog) (W.alloc (.cells (arr30 []) 32)) 36 9 ty 5 W.heap.size 0 30 30 s (arr30 []) 32 Try.underlying36 size8 (alloc_heap W _) (by omega) (by rw [arr30_size]; omega)
        rw [h, hS.1, pad_cells hS.2 h30, World.setRow_alloc_new]
      obtain ⟨az, haz⟩ : ∃ az, az = arr30 [] := ⟨_, rfl⟩
      rw [← haz] at hst hcp hz0
      obtain ⟨ab, hab⟩ : ∃ ab, ab = arr30 l := ⟨_, rfl⟩
      rw [← hab] at HP HU heq HI hsize hst hcp
      clear hab haz hz1 hS hv hl hs hp hY hsm HB hT hzl h30
      go_enter Try.func6, Try.ntmps6
      go_wp2_with fail
      refine (HP.out _).mono ?_
      rintro e w1 ⟨rfl, hb1⟩
      have HA : Hid (Below w.heap.size w (w1.alloc (.cells ab 32))) := Lib.hid (hb1.alloc hb1.size _)
      have HH := Lib.hid (alloc_heap w1 ab)
      have HL1 : Hid (w1.heap.size < (w1.alloc (.cells ab 32)).heap.size) := Lib.hid (by simp)
      clear hb1
      go_wp2_with ((with_reducible refine wpList_load_row rfl _ _ rfl w1.heap.size rfl _ ab _ _ HH.out Try.underlying32 rfl HI.out ?_))
      refine (HU.out _).mono ?_
      rintro e w2 ⟨rfl, hb2⟩
      have HB2 := Lib.hid (HA.out.trans (hb2.mono HA.out.size))
      have HH2 := Lib.hid ((hb2.block w1.heap.size HL1.out).trans HH.out)
      have HL2 : Hid (w1.heap.size < w2.heap.size) := Lib.hid (Nat.lt_of_lt_of_le HL1.out hb2.size)
      clear hb2 HH HL1 HA
      go_wp2_with fail
      refine (HV.out _).mono ?_
      rintro e w' ⟨rfl, rfl⟩
      go_wp2_with fail
      have hA3 : Below w2.heap.size w2 (w2.alloc (.cells ab 32)) := (Below.refl _ _).alloc (Nat.le_refl _) _
      have HB3 := Lib.hid (HB2.out.trans (hA3.mono HB2.out.size))
      have HH3 := Lib.hid ((hA3.block w1.heap.size HL2.out).trans HH2.out)
      have HG3 := Lib.hid (alloc_heap w2 ab)
      have HL3 : Hid (w1.heap.size < (w2.alloc (.cells ab 32)).heap.size ∧ w2.heap.size < (w2.alloc (.cells ab 32)).heap.size) := Lib.hid ⟨Nat.lt_of_lt_of_le HL2.out hA3.size, by simp⟩
      clear hA3 HH2 HB2 HL2
      refine (alive_ok _).mono ?_
      rintro e w4 ⟨rfl, hb4⟩
      have HB4 := Lib.hid (HB3.out.trans (hb4.mono HB3.out.size))
      have HH4 := Lib.hid ((hb4.block w1.heap.size HL3.out.1).trans HH3.out)
      have HG4 := Lib.hid ((hb4.block w2.heap.size HL3.out.2).trans HG3.out)
      clear hb4 HH3 HG3 HB3
      go_wp2_with (first
        | ((with_reducible refine wpList_load_roww ?_ _ _ rfl w1.heap.size rfl _ ab _ _ HH4.out Try.underlying32 rfl HI.out ?_); rfl)
        | ((with_reducible refine wpList_load_roww ?_ _ _ rfl w2.heap.size rfl _ ab _ _ HG4.out Try.underlying32 rfl HI.out ?_); rfl))
      go_ret
      exact ⟨rfl, HB4.out⟩

theorem own : ownKnob Try.prog.godebug = none := by kernel_rfl

set_option maxRecDepth 100000 in
theorem lifted (os : Os) (started : os.Started) (H : Type) (enc : TypeId × Value → H) :
    ReturnsInHanded {} Try.checked os 6 .any (Rows.namePadsSpec.pre6 enc Try.prog Try.f6 Rows.namePadsRow.domain false) (Rows.namePadsSpec.post enc Try.prog Try.f6 false true false false) := by
  refine returnsInHanded_of_change (C := Try.checked) own started (by kernel_rfl) Try.func6
    (ChangeSpec.witness6 (enc := enc) (C := Try.checked) false ⟨#[], #[.string ⟨#[]⟩], []⟩ 8 (by kernel_rfl) (by kernel_rfl) (by kernel_rfl) (by kernel_rfl)) ?_
  intro W base args ds gs before hval0 hW hcnd _
  have hval : ∀ (j : Nat) t v, Try.f6.params[j]? = some t → args[j]? = some v → Value.okWide Try.prog W .any base t v := hval0
  have hW' := hW
  obtain ⟨p, q, hA0, hV, rfl, hfz, hnd⟩ := hW
  have hA : DataW.TrodAll enc Try.prog W 0 (fun _ => true) true Try.f6.params.toList args.toList ds p := hA0
  rw [Try.params6] at hA hval
  obtain ⟨v0, vs0, d0, ds0, p0, q0, hargs, rfl, rfl, h0, r0⟩ := trodAll_cons hA
  obtain ⟨rfl, rfl, rfl⟩ := trodAll_nil r0
  obtain rfl : args = #[v0] := by cases args; simp_all
  obtain ⟨rfl, rfl⟩ := trodVars_none hV
  obtain ⟨s0, rfl, rfl, rfl, ws0⟩ := ChangeMaps.open_string Try.underlying9 (hval 0 9 v0 rfl rfl) h0
  clear hA0 hval0
  simp only [List.append_nil] at hW'
  refine (walk s0 ws0 W).mono fun e W' ⟨he, hg⟩ => ?_
  subst he
  exact law_post (by kernel_rfl) rfl rfl (by kernel_rfl) (by kernel_rfl) Try.underlying4 hW' hg

/-- WHAT IS PROVED. -/
theorem proved : Rows.NamePadsSaid :=
  OpenClaim.holds_of_wide 6 Try.f6 rfl rfl rfl rfl rfl rfl rfl ⟨rfl, rfl, rfl, rfl, rfl⟩ rfl rfl rfl rfl rfl (by kernel_rfl) Try.func6 (by kernel_rfl)
    (of_decide_eq_true (by kernel_rfl)) (by unfold Func.isWrapper; first | (rw [if_pos (by decide +kernel)]; kernel_rfl) | (rw [if_neg (by decide +kernel)]; exact ⟨rfl, rfl⟩))
    (fun os started H enc _ => lifted os started H enc)

end Go.Proofs.Ytpabccmnhaelnaa.LawPads

/-
  Layer 5 (conf): a configuration of the call's own; the program's slices.Clone of destinations. By the verifier.
-/
import Derived.Test.YthdagjlgfffpbaaGreatMRowN
import Derived.Test.YthdagjlgfffpbaaGreatGDest
import Derived.Test.YthdagjlgfffpbaaGreatGSame
import Derived.Test.YthdagjlgfffpbaaGreatPOrd
set_option linter.unusedVariables false
namespace Go.Proofs.YthdagjlgfffpbaaGreat
open Go.RowKit

theorem elemP : ElemT 23 36 (.agg #[.int .u16 0, .string ⟨#[]⟩, .int .u64 0, .int .u64 0]) 4 40 := ⟨Tryz.underlying23, by kernel_rfl, rfl, by omega, by omega⟩
theorem elemW : ElemT 26 45 (.agg #[.int .u64 0, .int .u64 0, .int .u16 0]) 3 24 := ⟨Tryz.underlying26, by kernel_rfl, rfl, by omega, by omega⟩
theorem elemR : ElemT 27 47 (.agg #[.int .u64 0, .int .u64 0, .int .u16 0, .int .u8 0, .bool false]) 5 24 := ⟨Tryz.underlying27, by kernel_rfl, rfl, by omega, by omega⟩
theorem elemT : ElemT 24 39 (.agg #[.int .u16 0, .int .u16 0, .string ⟨#[]⟩, .bool false, .bool false, .int .u32 0]) 6 32 := ⟨Tryz.underlying24, by kernel_rfl, rfl, by omega, by omega⟩
theorem elemC : ElemT 28 34 (.agg #[.int .u16 0, .int .u16 0, .slice none 0 0]) 3 32 := ⟨Tryz.underlying28, by kernel_rfl, rfl, by omega, by omega⟩

/-- slices.Clone of destinations: a new slice, or nil. -/
theorem sclone_ok (l : List Nat) (A : Option Addr) (c : Nat) (w : World) (hA : Cells w A (l.map U16)) (hn : A = none → c = 0) (hl : l.length ≤ 1000) :
    Calls Tryz.prog 65 #[.slice A l.length c] w fun e w' => ∃ v, e = .returned v ∧ OwnC w' w.heap.size 32 1 v l.length (l.map U16) ∧ Below w.heap.size w w' := by
  cases A with
  | none =>
    have h0 : l.length = 0 := by
      rcases Nat.eq_zero_or_pos l.length with h | h
      · exact h
      · obtain ⟨b, o, h1, -⟩ := hA.some (by rw [List.length_map]; exact h)
        cases h1
    have hl0 : l = [] := List.eq_nil_of_length_eq_zero h0
    obtain rfl := hn rfl
    subst hl0
    refine (AnyE.slices_Clone_nil Tryz.cln65 0 0 w).mono ?_
    rintro e w' ⟨rfl, rfl⟩
    exact ⟨_, rfl, OwnC.nil w' w'.heap.size 32 1, Below.refl _ _⟩
  | some a =>
    obtain ⟨W1, hW1⟩ : ∃ W1, W1 = w.alloc (.cells #[] 32) := ⟨_, rfl⟩
    have hb : Below w.heap.size w W1 := by rw [hW1]; exact (Below.refl _ _).alloc (Nat.le_refl _) _
    have ho : OwnC W1 w.heap.size 32 1 (.slice (some ⟨w.heap.size, 0, none⟩) 0 0) 0 [] := by rw [hW1]; exact OwnC.lit w _ 1 0 #[] (by unfold maxLen; omega) rfl
    have hm : Cells W1 (some a) (l.map U16) := hA.below (Nat.le_refl _) hb
    have HM := Lib.hid (And.intro hm (And.intro ho hb))
    have HL := Lib.hid hl
    have hbox := hW1.symm
    have q := fun (w : World) (a : Option Addr) (n c n' c' : Nat) => Lib.run_eql_slice_nil (P := Tryz.prog) w 31 32 a n c n' c' Tryz.underlying31
    clear hA hm ho hb hn hW1 hl
    go_enter Tryz.func65, Tryz.ntmps65
    go_wp2_with (refine wpList_append_g elem16 rfl (.tmp 5) (.tmp 6) rfl w.heap.size _ 0 [] rfl HM.out.2.1 (some a) l.length c (l.map U16) rfl HM.out.1 (by simp) (u16_one l) (fun h => by cases h) (by have := HL.out; omega) HM.out.2.2.size ?_; intro v' w' ho hg)
    go_ret
    have hgb : Below w.heap.size w w' := grown_belowc HM.out.2.2 HM.out.2.1 hg HM.out.2.2.size
    rw [Nat.zero_add, List.nil_append] at ho
    refine ⟨v', ?_, ?_, ?_⟩
    · simp
    · exact ho
    · exact hgb

/-- Where the blocks of a configuration lie. -/
def CfgQ.slots (q : CfgQ) : List (Option Nat) := [blk q.A1, blk q.A2, blk q.A3, blk q.A4, blk q.A5] ++ q.ch.map fun x => blk x.A

/-- A configuration of the call's own. -/
structure OwnCfg (w : World) (base : Nat) (c : ConfR) (q : CfgQ) : Prop where
  ps : OwnC w base 36 4 (.slice q.A1 c.ps.length q.c1) c.ps.length (c.ps.flatMap partV)
  ws : OwnC w base 45 3 (.slice q.A2 c.ws.length q.c2) c.ws.length (c.ws.flatMap winV)
  rs : OwnC w base 47 5 (.slice q.A3 c.rs.length q.c3) c.rs.length (c.rs.flatMap regV)
  ts : OwnC w base 39 6 (.slice q.A4 c.ts.length q.c4) c.ts.length (c.ts.flatMap portV)
  cs : OwnC w base 34 3 (.slice q.A5 c.cs.length q.c5) c.cs.length (q.ch.flatMap chanV)
  ch : q.ch.map (·.r) = c.cs
  ds : ∀ x ∈ q.ch, OwnC w base 32 1 (.slice x.A x.r.dests.length x.cap) x.r.dests.length (x.r.dests.map U16)
  sep : Sep q.slots

/-- The numbers of a configuration are in their ranges. -/
structure OkCfg (c : ConfR) : Prop where
  frame : c.frame < 18446744073709551616
  okp : ∀ p ∈ c.ps, p.ok
  okw : ∀ p ∈ c.ws, p.ok
  okr : ∀ p ∈ c.rs, p.ok
  okt : ∀ p ∈ c.ts, p.ok
  okc : ∀ p ∈ c.cs, p.ok

theorem CfgIn.nums {w : World} {c : ConfR} {q : CfgQ} (h : CfgIn w c q) : OkCfg c := ⟨h.frame, h.okp, h.okw, h.okr, h.okt, h.okc⟩

/-- How long its lists are. -/
structure Small (c : ConfR) (n : Nat) : Prop where
  ps : c.ps.length ≤ n
  ws : c.ws.length ≤ n
  rs : c.rs.length ≤ n
  ts : c.ts.length ≤ n
  cs : c.cs.length ≤ n
  ds : ∀ x ∈ c.cs, x.dests.length ≤ n

theorem own_recs {α : Type} {w : World} {base : Nat} {e : TypeId} {k : Nat} {A : Option Addr} {c n : Nat} {l : List α} {f : α → List Value} (h : OwnC w base e k (.slice A l.length c) l.length (l.flatMap f)) (hl : l.length ≤ n) (hn : n ≤ 1000000) : Recs w A c l f := by
  obtain ⟨A', c', hv, hc, hA, hle, -⟩ := h.cells
  injection hv with h1 h2 h3
  subst h1 h3
  exact ⟨hc, hA, hle, by omega⟩

theorem OwnCfg.cfg {w : World} {base : Nat} {c : ConfR} {q : CfgQ} (h : OwnCfg w base c q) (hk : OkCfg c) {n : Nat} (hs : Small c n) (hn : n ≤ 1000000) : CfgIn w c q := by
  have hl : q.ch.length = c.cs.length := by rw [← h.ch, List.length_map]
  refine ⟨own_recs h.ps hs.ps hn, own_recs h.ws hs.ws hn, own_recs h.rs hs.rs hn, own_recs h.ts hs.ts hn, ?_, h.ch, fun x hx => ?_, hk.frame, hk.okp, hk.okw, hk.okr, hk.okt, hk.okc⟩
  · have := h.cs
    rw [← hl] at this
    exact own_recs this (by rw [hl]; exact hs.cs) hn
  · obtain ⟨A', c', hv, hc, hA, hle, -⟩ := (h.ds x hx).cells
    injection hv with h1 h2 h3
    subst h1 h3
    exact ⟨hc, hA, hle, by have := hs.ds x.r (by rw [← h.ch]; exact List.mem_map_of_mem hx); omega⟩

theorem own_lt {w : World} {base : Nat} {e : TypeId} {k n : Nat} {A : Option Addr} {m c : Nat} {cs : List Value} (h : OwnC w base e k (.slice A m c) n cs) {b : Nat} (hb : blk A = some b) : base ≤ b ∧ b < w.heap.size :=
  World.ownsRow.lt h b (by rw [own_blk]; exact hb)

theorem OwnCfg.lt {w : World} {base : Nat} {c : ConfR} {q : CfgQ} (h : OwnCfg w base c q) {b : Nat} (hb : some b ∈ q.slots) : base ≤ b ∧ b < w.heap.size := by
  unfold CfgQ.slots at hb
  rcases List.mem_append.1 hb with hb | hb
  · simp only [List.mem_cons, List.not_mem_nil, or_false] at hb
    rcases hb with hb | hb | hb | hb | hb
    · exact own_lt h.ps hb.symm
    · exact own_lt h.ws hb.symm
    · exact own_lt h.rs hb.symm
    · exact own_lt h.ts hb.symm
    · exact own_lt h.cs hb.symm
  · obtain ⟨x, hx, hxb⟩ := List.mem_map.1 hb
    exact own_lt (h.ds x hx) hxb

theorem own_stay {S : Nat → Prop} {w w' : World} {base : Nat} {e : TypeId} {k n : Nat} {A : Option Addr} {m c : Nat} {cs : List Value} (h : OwnC w base e k (.slice A m c) n cs) (hs : Turn S w w') (hn : ∀ b, blk A = some b → ¬ S b) : OwnC w' base e k (.slice A m c) n cs :=
  h.turn hs fun b hb => hn b (by rw [← own_blk A m c]; exact hb)

/-- What turns none of its blocks leaves it. -/
theorem OwnCfg.stay {S : Nat → Prop} {w w' : World} {base : Nat} {c : ConfR} {q : CfgQ} (h : OwnCfg w base c q) (hs : Turn S w w') (hn : ∀ b, some b ∈ q.slots → ¬ S b) : OwnCfg w' base c q := by
  have m : ∀ {A : Option Addr} {b : Nat}, blk A ∈ q.slots → blk A = some b → ¬ S b := fun hm hb => hn _ (by rw [← hb]; exact hm)
  refine ⟨own_stay h.ps hs fun b => m (by simp [CfgQ.slots]), own_stay h.ws hs fun b => m (by simp [CfgQ.slots]), own_stay h.rs hs fun b => m (by simp [CfgQ.slots]), own_stay h.ts hs fun b => m (by simp [CfgQ.slots]), own_stay h.cs hs fun b => m (by simp [CfgQ.slots]), h.ch, fun x hx => own_stay (h.ds x hx) hs fun b => m ?_, h.sep⟩
  unfold CfgQ.slots
  exact List.mem_append_right _ (List.mem_map.2 ⟨x, hx, rfl⟩)

end Go.Proofs.YthdagjlgfffpbaaGreat

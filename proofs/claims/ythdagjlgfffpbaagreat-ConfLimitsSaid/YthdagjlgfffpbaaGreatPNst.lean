/-
  Layer 5 (conf): sorting the lists of a configuration of the call's own. By the verifier.
-/
import Derived.Test.YthdagjlgfffpbaaGreatPCln
import Derived.Test.YthdagjlgfffpbaaGreatPOrd
set_option linter.unusedVariables false
namespace Go.Proofs.YthdagjlgfffpbaaGreat
open Go.RowKit Go.Sort

/-- In the order of keys. -/
def Asc {α : Type} (key : α → List Nat) (l : List α) : Prop := l.Pairwise (fun x y => lessN (key y) (key x) = false)

/-- A channel with its destinations in order. -/
def srtR (x : ChanR) : ChanR := { x with dests := sortU x.dests }
def srtC (x : ChanC) : ChanC := { x with r := srtR x.r }

/-- A normal form of a configuration. -/
structure NormOf (c n : ConfR) : Prop where
  frame : n.frame = c.frame
  ps : n.ps.Perm c.ps
  ws : n.ws.Perm c.ws
  rs : n.rs.Perm c.rs
  ts : n.ts.Perm c.ts
  cs : n.cs.Perm (c.cs.map srtR)
  sp : Asc PartR.key n.ps
  sw : Asc WinR.key n.ws
  sr : Asc RegR.key n.rs
  st : Asc PortR.key n.ts
  sc : Asc ChanR.key n.cs

/-- What the program's sort of destinations does. -/
def SortU16 : Prop := ∀ (l : List Nat) (w : World) (base : Nat) (v : Value), OwnC w base 32 1 v l.length (l.map U16) → l.length ≤ 1000 →
  Calls Tryz.prog 37 #[v] w fun e w' => e = .returned (.tuple #[]) ∧ OwnC w' base 32 1 v l.length ((sortU l).map U16) ∧ Turn (fun b => v.ownBlock = some b) w w'

theorem sortU_len (l : List Nat) : (sortU l).length = l.length := (sortU_perm l).length_eq

theorem MSt.turned {w W W' : World} {B : Nat} {K : List (Nat × Obj)} {c : ConfR} {q : CfgQ} (h : MSt w B K W c q) {i : Nat} (ht : Turn (fun b => q.slots[i]? = some (some b)) W W') :
    W'.heap[B]? = some (.cells (cfgA c q) 30) ∧ B < W'.heap.size ∧ (∀ k ∈ K, W'.heap[k.1]? = some k.2 ∧ k.1 < W'.heap.size ∧ k.1 ≠ B) ∧ Below w.heap.size w W' := by
  refine ⟨?_, Nat.lt_of_lt_of_le h.lt ht.size, fun k hk => ⟨?_, Nat.lt_of_lt_of_le (h.keep k hk).2.1 ht.size, (h.keep k hk).2.2⟩, h.below.trans (ht.below (fun b hb => (h.own.lt (List.mem_of_getElem? hb)).1) h.below.size)⟩
  · rw [ht.block B h.lt (fun hb => (h.out B (List.mem_of_getElem? hb)).1 rfl)]
    exact h.all
  · rw [ht.block k.1 (h.keep k hk).2.1 (fun hb => (h.out k.1 (List.mem_of_getElem? hb)).2 k hk rfl)]
    exact (h.keep k hk).1
theorem sep_apart {q : CfgQ} {i j : Nat} {A : Option Addr} (hs : Sep q.slots) (hij : j ≠ i) (hj : q.slots[j]? = some (blk A)) : ∀ b, blk A = some b → ¬ q.slots[i]? = some (some b) := by
  intro b hb h1
  rw [hb] at hj
  exact hs.ne hij hj h1 rfl
theorem chan_slot {q : CfgQ} {x : ChanC} {n : Nat} (hn : n < q.ch.length) (hx : q.ch[n] = x) : q.slots[5 + n]? = some (blk x.A) := by
  unfold CfgQ.slots
  rw [List.getElem?_append_right (by simp), List.getElem?_map]
  simp [hn, hx]

theorem MSt.srt1 {w W W' : World} {B : Nat} {K : List (Nat × Obj)} {c : ConfR} {q : CfgQ} (h : MSt w B K W c q) (hs : SortRes W w.heap.size 36 4 (.slice q.A1 c.ps.length q.c1) partV cfP c.ps W') :
    ∃ l', l'.Perm c.ps ∧ Asc PartR.key l' ∧ MSt w B K W' { c with ps := l' } q := by
  obtain ⟨l', hp, hsd, ho, ht0, -⟩ := hs
  have hsl : q.slots[0]? = some (blk q.A1) := rfl
  have ht : Turn (fun b => q.slots[0]? = some (some b)) W W' := ht0.mono fun b _ hb => by rw [own_blk] at hb; rw [hsl, hb]
  obtain ⟨h1, h2, h3, h4⟩ := h.turned ht
  have hl := hp.length_eq
  have hsc := hsd.imp (S := fun x y => lessN y.key x.key = false) (fun {x y} hxy => by rw [← ltP]; exact hxy)
  refine ⟨l', hp, hsc, ⟨?_, ?_, ?_, ?_, ?_, h.own.ch, fun x hx => ?_, h.own.sep⟩, by rw [show cfgA { c with ps := l' } q = cfgA c q by simp [cfgA, hl]]; exact h1, h2, h.ge, h3, h.out, h4⟩
  · rw [hl]
    exact ho
  · exact own_stay h.own.ws ht (sep_apart h.own.sep (i := 0) (j := 1) (by omega) rfl)
  · exact own_stay h.own.rs ht (sep_apart h.own.sep (i := 0) (j := 2) (by omega) rfl)
  · exact own_stay h.own.ts ht (sep_apart h.own.sep (i := 0) (j := 3) (by omega) rfl)
  · exact own_stay h.own.cs ht (sep_apart h.own.sep (i := 0) (j := 4) (by omega) rfl)
  · obtain ⟨n, hn', hx'⟩ := List.mem_iff_getElem.1 hx
    exact own_stay (h.own.ds x hx) ht (sep_apart h.own.sep (i := 0) (j := 5 + n) (by omega) (chan_slot hn' hx'))

theorem MSt.srt2 {w W W' : World} {B : Nat} {K : List (Nat × Obj)} {c : ConfR} {q : CfgQ} (h : MSt w B K W c q) (hs : SortRes W w.heap.size 45 3 (.slice q.A2 c.ws.length q.c2) winV cfW c.ws W') :
    ∃ l', l'.Perm c.ws ∧ Asc WinR.key l' ∧ MSt w B K W' { c with ws := l' } q := by
  obtain ⟨l', hp, hsd, ho, ht0, -⟩ := hs
  have hsl : q.slots[1]? = some (blk q.A2) := rfl
  have ht : Turn (fun b => q.slots[1]? = some (some b)) W W' := ht0.mono fun b _ hb => by rw [own_blk] at hb; rw [hsl, hb]
  obtain ⟨h1, h2, h3, h4⟩ := h.turned ht
  have hl := hp.length_eq
  have hsc := hsd.imp (S := fun x y => lessN y.key x.key = false) (fun {x y} hxy => by rw [← ltW]; exact hxy)
  refine ⟨l', hp, hsc, ⟨?_, ?_, ?_, ?_, ?_, h.own.ch, fun x hx => ?_, h.own.sep⟩, by rw [show cfgA { c with ws := l' } q = cfgA c q by simp [cfgA, hl]]; exact h1, h2, h.ge, h3, h.out, h4⟩
  · exact own_stay h.own.ps ht (sep_apart h.own.sep (i := 1) (j := 0) (by omega) rfl)
  · rw [hl]
    exact ho
  · exact own_stay h.own.rs ht (sep_apart h.own.sep (i := 1) (j := 2) (by omega) rfl)
  · exact own_stay h.own.ts ht (sep_apart h.own.sep (i := 1) (j := 3) (by omega) rfl)
  · exact own_stay h.own.cs ht (sep_apart h.own.sep (i := 1) (j := 4) (by omega) rfl)
  · obtain ⟨n, hn', hx'⟩ := List.mem_iff_getElem.1 hx
    exact own_stay (h.own.ds x hx) ht (sep_apart h.own.sep (i := 1) (j := 5 + n) (by omega) (chan_slot hn' hx'))

theorem MSt.srt3 {w W W' : World} {B : Nat} {K : List (Nat × Obj)} {c : ConfR} {q : CfgQ} (h : MSt w B K W c q) (hs : SortRes W w.heap.size 47 5 (.slice q.A3 c.rs.length q.c3) regV cfR c.rs W') :
    ∃ l', l'.Perm c.rs ∧ Asc RegR.key l' ∧ MSt w B K W' { c with rs := l' } q := by
  obtain ⟨l', hp, hsd, ho, ht0, -⟩ := hs
  have hsl : q.slots[2]? = some (blk q.A3) := rfl
  have ht : Turn (fun b => q.slots[2]? = some (some b)) W W' := ht0.mono fun b _ hb => by rw [own_blk] at hb; rw [hsl, hb]
  obtain ⟨h1, h2, h3, h4⟩ := h.turned ht
  have hl := hp.length_eq
  have hsc := hsd.imp (S := fun x y => lessN y.key x.key = false) (fun {x y} hxy => by rw [← ltR]; exact hxy)
  refine ⟨l', hp, hsc, ⟨?_, ?_, ?_, ?_, ?_, h.own.ch, fun x hx => ?_, h.own.sep⟩, by rw [show cfgA { c with rs := l' } q = cfgA c q by simp [cfgA, hl]]; exact h1, h2, h.ge, h3, h.out, h4⟩
  · exact own_stay h.own.ps ht (sep_apart h.own.sep (i := 2) (j := 0) (by omega) rfl)
  · exact own_stay h.own.ws ht (sep_apart h.own.sep (i := 2) (j := 1) (by omega) rfl)
  · rw [hl]
    exact ho
  · exact own_stay h.own.ts ht (sep_apart h.own.sep (i := 2) (j := 3) (by omega) rfl)
  · exact own_stay h.own.cs ht (sep_apart h.own.sep (i := 2) (j := 4) (by omega) rfl)
  · obtain ⟨n, hn', hx'⟩ := List.mem_iff_getElem.1 hx
    exact own_stay (h.own.ds x hx) ht (sep_apart h.own.sep (i := 2) (j := 5 + n) (by omega) (chan_slot hn' hx'))

theorem MSt.srt4 {w W W' : World} {B : Nat} {K : List (Nat × Obj)} {c : ConfR} {q : CfgQ} (h : MSt w B K W c q) (hs : SortRes W w.heap.size 39 6 (.slice q.A4 c.ts.length q.c4) portV cfT c.ts W') :
    ∃ l', l'.Perm c.ts ∧ Asc PortR.key l' ∧ MSt w B K W' { c with ts := l' } q := by
  obtain ⟨l', hp, hsd, ho, ht0, -⟩ := hs
  have hsl : q.slots[3]? = some (blk q.A4) := rfl
  have ht : Turn (fun b => q.slots[3]? = some (some b)) W W' := ht0.mono fun b _ hb => by rw [own_blk] at hb; rw [hsl, hb]
  obtain ⟨h1, h2, h3, h4⟩ := h.turned ht
  have hl := hp.length_eq
  have hsc := hsd.imp (S := fun x y => lessN y.key x.key = false) (fun {x y} hxy => by rw [← ltT]; exact hxy)
  refine ⟨l', hp, hsc, ⟨?_, ?_, ?_, ?_, ?_, h.own.ch, fun x hx => ?_, h.own.sep⟩, by rw [show cfgA { c with ts := l' } q = cfgA c q by simp [cfgA, hl]]; exact h1, h2, h.ge, h3, h.out, h4⟩
  · exact own_stay h.own.ps ht (sep_apart h.own.sep (i := 3) (j := 0) (by omega) rfl)
  · exact own_stay h.own.ws ht (sep_apart h.own.sep (i := 3) (j := 1) (by omega) rfl)
  · exact own_stay h.own.rs ht (sep_apart h.own.sep (i := 3) (j := 2) (by omega) rfl)
  · rw [hl]
    exact ho
  · exact own_stay h.own.cs ht (sep_apart h.own.sep (i := 3) (j := 4) (by omega) rfl)
  · obtain ⟨n, hn', hx'⟩ := List.mem_iff_getElem.1 hx
    exact own_stay (h.own.ds x hx) ht (sep_apart h.own.sep (i := 3) (j := 5 + n) (by omega) (chan_slot hn' hx'))

theorem MSt.srt5 {w W W' : World} {B : Nat} {K : List (Nat × Obj)} {c : ConfR} {q : CfgQ} {ch' : List ChanC} (h : MSt w B K W c q) (hs : ChanRes W w.heap.size (.slice q.A5 q.ch.length q.c5) q.ch W' ch') :
    (ch'.map (·.r)).Perm c.cs ∧ Asc ChanR.key (ch'.map (·.r)) ∧ MSt w B K W' { c with cs := ch'.map (·.r) } { q with ch := ch' } := by
  obtain ⟨hp, hsd, ho, ht0, -⟩ := hs
  have hsl : q.slots[4]? = some (blk q.A5) := rfl
  have ht : Turn (fun b => q.slots[4]? = some (some b)) W W' := ht0.mono fun b _ hb => by rw [own_blk] at hb; rw [hsl, hb]
  obtain ⟨h1, h2, h3, h4⟩ := h.turned ht
  have hl := hp.length_eq
  have hlc : q.ch.length = c.cs.length := by rw [← h.own.ch, List.length_map]
  have hpc : (ch'.map (·.r)).Perm c.cs := by rw [← h.own.ch]; exact hp.map _
  have hss : ({ q with ch := ch' } : CfgQ).slots.Perm q.slots := List.Perm.append_left _ (hp.map _)
  refine ⟨hpc, hsd, ⟨?_, ?_, ?_, ?_, ?_, rfl, fun x hx => ?_, h.own.sep.perm hss⟩, by rw [show cfgA { c with cs := ch'.map (·.r) } { q with ch := ch' } = cfgA c q by simp [cfgA, hl, hlc]]; exact h1, h2, h.ge, h3, fun b hb => h.out b (hss.mem_iff.1 hb), h4⟩
  · exact own_stay h.own.ps ht (sep_apart h.own.sep (i := 4) (j := 0) (by omega) rfl)
  · exact own_stay h.own.ws ht (sep_apart h.own.sep (i := 4) (j := 1) (by omega) rfl)
  · exact own_stay h.own.rs ht (sep_apart h.own.sep (i := 4) (j := 2) (by omega) rfl)
  · exact own_stay h.own.ts ht (sep_apart h.own.sep (i := 4) (j := 3) (by omega) rfl)
  · show OwnC W' w.heap.size _ 3 (.slice q.A5 (ch'.map (·.r)).length q.c5) (ch'.map (·.r)).length (ch'.flatMap chanV)
    rw [List.length_map, hl]
    exact ho
  · obtain ⟨n, hn', hx'⟩ := List.mem_iff_getElem.1 (hp.mem_iff.1 hx)
    exact own_stay (h.own.ds x (hp.mem_iff.1 hx)) ht (sep_apart h.own.sep (i := 4) (j := 5 + n) (by omega) (chan_slot hn' hx'))

/-- The first j channels with their destinations in order. -/
def srtTo (ch : List ChanC) (j : Nat) : List ChanC := (ch.take j).map srtC ++ ch.drop j
theorem srtTo_zero (ch : List ChanC) : srtTo ch 0 = ch := by simp [srtTo]
theorem srtTo_all (ch : List ChanC) : srtTo ch ch.length = ch.map srtC := by simp [srtTo]
theorem srtTo_len (ch : List ChanC) (j : Nat) : (srtTo ch j).length = ch.length := by
  simp [srtTo]
  omega
theorem srtTo_get (ch : List ChanC) (j i : Nat) : (srtTo ch j)[i]? = if i < j then ch[i]?.map srtC else ch[i]? := by
  unfold srtTo
  have hl : ((ch.take j).map srtC).length = min j ch.length := by simp
  rcases Nat.lt_or_ge i (min j ch.length) with h | h
  · rw [List.getElem?_append_left (by rw [hl]; exact h), List.getElem?_map, List.getElem?_take_of_lt (by omega), if_pos (by omega)]
  · rw [List.getElem?_append_right (by rw [hl]; exact h), List.getElem?_drop, hl]
    by_cases hij : i < j
    · rw [if_pos hij, List.getElem?_eq_none (by omega), List.getElem?_eq_none (by omega)]
      rfl
    · rw [if_neg hij]
      by_cases hjl : j ≤ ch.length
      · rw [show j + (i - min j ch.length) = i by omega]
      · rw [List.getElem?_eq_none (by omega), List.getElem?_eq_none (by omega)]
theorem srtTo_at {ch : List ChanC} {j : Nat} (hj : j < ch.length) : (srtTo ch j)[j]? = some ch[j] := by
  rw [srtTo_get, if_neg (by omega), List.getElem?_eq_getElem hj]
theorem srtTo_succ {ch : List ChanC} {j : Nat} (hj : j < ch.length) : srtTo ch (j + 1) = (srtTo ch j).set j (srtC ch[j]) := by
  apply List.ext_getElem?
  intro i
  rw [List.getElem?_set, srtTo_get, srtTo_get, srtTo_len]
  by_cases hij : j = i
  · subst hij
    rw [if_pos rfl, if_pos (by omega), if_pos hj, List.getElem?_eq_getElem hj]
    rfl
  · rw [if_neg hij]
    by_cases h : i < j
    · rw [if_pos h, if_pos (by omega)]
    · rw [if_neg h, if_neg (by omega)]
theorem chanV_srt (x : ChanC) : chanV (srtC x) = chanV x := by
  unfold chanV srtC srtR
  simp only [sortU_len]
theorem flat_srt (ch : List ChanC) (j : Nat) : (srtTo ch j).flatMap chanV = ch.flatMap chanV := by
  unfold srtTo
  rw [List.flatMap_append, List.flatMap_map]
  rw [show ((ch.take j).flatMap fun x => chanV (srtC x)) = (ch.take j).flatMap chanV by simp only [chanV_srt]]
  rw [← List.flatMap_append, List.take_append_drop]
theorem slots_srt (q : CfgQ) (ch : List ChanC) (j : Nat) : ({ q with ch := srtTo ch j } : CfgQ).slots = ({ q with ch := ch } : CfgQ).slots := by
  unfold CfgQ.slots srtTo
  simp only [List.map_append, List.map_map]
  congr 1
  have : ((ch.take j).map ((fun x => blk x.A) ∘ srtC)) = (ch.take j).map fun x => blk x.A := rfl
  rw [this, ← List.map_append, List.take_append_drop]

/-- The destinations of channel j have been sorted. -/
theorem MSt.dst {w W W' : World} {B : Nat} {K : List (Nat × Obj)} {c : ConfR} {q : CfgQ} {ch : List ChanC} {j : Nat} (hj : j < ch.length)
    (h : MSt w B K W { c with cs := (srtTo ch j).map (·.r) } { q with ch := srtTo ch j }) (ho : OwnC W' w.heap.size 32 1 (.slice ch[j].A ch[j].r.dests.length ch[j].cap) ch[j].r.dests.length ((sortU ch[j].r.dests).map U16))
    (ht0 : Turn (fun b => Value.ownBlock (.slice ch[j].A ch[j].r.dests.length ch[j].cap) = some b) W W') : MSt w B K W' { c with cs := (srtTo ch (j + 1)).map (·.r) } { q with ch := srtTo ch (j + 1) } := by
  have hjl : j < (srtTo ch j).length := by rw [srtTo_len]; exact hj
  have hje : (srtTo ch j)[j] = ch[j] := by
    have := srtTo_at hj
    rw [List.getElem?_eq_getElem hjl] at this
    injection this
  have hsl : ({ q with ch := srtTo ch j } : CfgQ).slots[5 + j]? = some (blk ch[j].A) := chan_slot (q := { q with ch := srtTo ch j }) hjl hje
  have ht : Turn (fun b => ({ q with ch := srtTo ch j } : CfgQ).slots[5 + j]? = some (some b)) W W' := ht0.mono fun b _ hb => by rw [own_blk] at hb; rw [hsl, hb]
  obtain ⟨h1, h2, h3, h4⟩ := h.turned ht
  have hss : ({ q with ch := srtTo ch (j + 1) } : CfgQ).slots = ({ q with ch := srtTo ch j } : CfgQ).slots := by rw [slots_srt, slots_srt]
  have hA : cfgA { c with cs := (srtTo ch (j + 1)).map (·.r) } { q with ch := srtTo ch (j + 1) } = cfgA { c with cs := (srtTo ch j).map (·.r) } { q with ch := srtTo ch j } := by simp [cfgA, srtTo_len]
  refine ⟨⟨?_, ?_, ?_, ?_, ?_, rfl, fun x hx => ?_, by rw [hss]; exact h.own.sep⟩, by rw [hA]; exact h1, h2, h.ge, h3, fun b hb => h.out b (by rw [← hss]; exact hb), h4⟩
  · exact own_stay h.own.ps ht (sep_apart h.own.sep (i := 5 + j) (j := 0) (by omega) rfl)
  · exact own_stay h.own.ws ht (sep_apart h.own.sep (i := 5 + j) (j := 1) (by omega) rfl)
  · exact own_stay h.own.rs ht (sep_apart h.own.sep (i := 5 + j) (j := 2) (by omega) rfl)
  · exact own_stay h.own.ts ht (sep_apart h.own.sep (i := 5 + j) (j := 3) (by omega) rfl)
  · have := own_stay h.own.cs ht (sep_apart h.own.sep (i := 5 + j) (j := 4) (by omega) rfl)
    show OwnC W' w.heap.size _ 3 (.slice q.A5 ((srtTo ch (j + 1)).map (·.r)).length q.c5) ((srtTo ch (j + 1)).map (·.r)).length ((srtTo ch (j + 1)).flatMap chanV)
    have h' : OwnC W' w.heap.size 34 3 (.slice q.A5 ((srtTo ch j).map (·.r)).length q.c5) ((srtTo ch j).map (·.r)).length ((srtTo ch j).flatMap chanV) := this
    rw [flat_srt, List.length_map, srtTo_len] at h' ⊢
    exact h'
  · rw [srtTo_succ hj] at hx
    obtain ⟨n, hn, hxn⟩ := List.mem_iff_getElem.1 hx
    rw [List.getElem_set] at hxn
    rw [List.length_set] at hn
    split at hxn
    · subst hxn
      show OwnC W' w.heap.size _ 1 (.slice ch[j].A (sortU ch[j].r.dests).length ch[j].cap) (sortU ch[j].r.dests).length ((sortU ch[j].r.dests).map U16)
      rw [sortU_len]
      exact ho
    · rename_i hne
      subst hxn
      exact own_stay (h.own.ds _ (List.getElem_mem hn)) ht (sep_apart h.own.sep (i := 5 + j) (j := 5 + n) (by omega) (chan_slot (q := { q with ch := srtTo ch j }) hn rfl))

end Go.Proofs.YthdagjlgfffpbaaGreat

/-
  Layer 5 (conf): the program's Normal, walked. By the verifier.
-/
import Derived.Test.YthdagjlgfffpbaaGreatPNst
set_option linter.unusedVariables false
namespace Go.Proofs.YthdagjlgfffpbaaGreat
open Go.RowKit Go.Sort

/-- Normal has its clone. -/
theorem nst0 {w W1 wr : World} {c : ConfR} {q : CfgQ} {cs : Array Value} (hb : Bx w W1 cs) (ho : OwnCfg wr W1.heap.size c q) (hw : Below W1.heap.size W1 wr) :
    MSt w wr.heap.size [(w.heap.size + 1, .cells zeroC 30)] (wr.alloc (.cells (cfgA c q) 30)) c q := by
  have hA : Below wr.heap.size wr (wr.alloc (.cells (cfgA c q) 30)) := (Below.refl _ _).alloc (Nat.le_refl _) _
  have h1 := ho.stay (S := fun _ => False) (Turn.of_below hA) (fun _ _ h => h)
  have hz := hw.size
  have hlt := hb.lt
  refine ⟨⟨h1.ps.base hb.below.size, h1.ws.base hb.below.size, h1.rs.base hb.below.size, h1.ts.base hb.below.size, h1.cs.base hb.below.size, h1.ch, fun x hx => (h1.ds x hx).base hb.below.size, h1.sep⟩, heap_alloc_new wr _, by simp, by omega, fun k hk => ?_, fun b hb' => ?_, (hb.below.trans (hw.mono hb.below.size)).trans (hA.mono (by omega))⟩
  · rw [List.mem_singleton] at hk
    subst hk
    refine ⟨?_, by simp; omega, by simp; omega⟩
    rw [hA.block _ (by omega), hw.block _ hlt]
    exact hb.r
  · have := ho.lt hb'
    refine ⟨by omega, fun k hk => ?_⟩
    rw [List.mem_singleton] at hk
    subst hk
    show b ≠ w.heap.size + 1
    omega

theorem norm_end {w wr : World} {B R : Nat} {c : ConfR} {q : CfgQ} (h : MSt w B [(R, .cells zeroC 30)] wr c q) (hR : w.heap.size ≤ R) : OwnCfg (wr.setRow R (cfgA c q)) w.heap.size c q ∧ Below w.heap.size w (wr.setRow R (cfgA c q)) := by
  have ht : Turn (fun b => b = R) wr (wr.setRow R (cfgA c q)) := ⟨rfl, rfl, rfl, by simp, fun k _ hk => setRow_other wr _ k _ hk⟩
  exact ⟨h.own.stay ht fun b hb he => (h.out b hb).2 _ (List.mem_cons_self ..) he, h.below.trans (ht.below (fun b hb => by rw [hb]; exact hR) h.below.size)⟩

theorem MSt.chan_at {w W : World} {B : Nat} {K : List (Nat × Obj)} {c : ConfR} {q : CfgQ} {ch : List ChanC} {j : Nat} (hj : j < ch.length) (h : MSt w B K W { c with cs := (srtTo ch j).map (·.r) } { q with ch := srtTo ch j }) :
    ∃ b o, q.A5 = some ⟨b, o, none⟩ ∧ ∀ i v, (chanV ch[j])[i]? = some v → W.cell? ⟨b, o + j * 3 + i, none⟩ = some v := by
  have h1 : OwnC W w.heap.size 34 3 (.slice q.A5 ((srtTo ch j).map (·.r)).length q.c5) ((srtTo ch j).map (·.r)).length ((srtTo ch j).flatMap chanV) := h.own.cs
  obtain ⟨A', c', hv, hc, -⟩ := h1.cells
  injection hv with e1 e2 e3
  subst e1
  have hlen : ((srtTo ch j).flatMap chanV).length = ch.length * 3 := by rw [flat_len chanV 3 chanV_len, srtTo_len]
  obtain ⟨b, o, hA, -, hcell⟩ := hc.some (by rw [hlen]; omega)
  refine ⟨b, o, hA, fun i v hv => ?_⟩
  have hi : i < 3 := (List.getElem?_eq_some_iff.1 hv).1
  have hjl : j < (srtTo ch j).length := by rw [srtTo_len]; exact hj
  have hje : (srtTo ch j)[j] = ch[j] := by
    have := srtTo_at hj
    rw [List.getElem?_eq_getElem hjl] at this
    injection this
  rw [Nat.add_assoc]
  refine hcell (j * 3 + i) v ?_
  rw [flat_at chanV 3 chanV_len (srtTo ch j) j hjl i hi, hje]
  exact hv

/-- A normal form is handed back. -/
def NormRes (w : World) (c : ConfR) (e : Ending) (w' : World) : Prop := ∃ n, NormOf c n ∧ CfgRes w n e w'

set_option maxHeartbeats 8000000 in
theorem normal_ok (c : ConfR) (q : CfgQ) (w : World) (hc : CfgIn w c q) (hs : Small c 1000) (hS : c.cs = [] ∨ SortU16) : Calls Tryz.prog 17 #[cfgV c q] w fun e w' => NormRes w c e w' := by
  obtain ⟨W1, hW1⟩ : ∃ W1, W1 = (w.alloc (.cells (cfgA c q) 30)).alloc (.cells zeroC 30) := ⟨_, rfl⟩
  have hbx : Bx w W1 (cfgA c q) := by rw [hW1]; exact bx_start w _
  have HCL := Lib.hid (clone_ok c q W1 (hc.below (Nat.le_refl _) hbx.below) hs)
  have HBX := Lib.hid hbx
  have HSM := Lib.hid hs
  have HSO := Lib.hid hS
  have hbox : (w.alloc (.cells #[.int .u64 (c.frame : Int), .slice q.A1 c.ps.length q.c1, .slice q.A2 c.ws.length q.c2, .slice q.A3 c.rs.length q.c3, .slice q.A4 c.ts.length q.c4, .slice q.A5 c.cs.length q.c5] 30)).alloc (.cells #[.int .u64 0, .slice none 0 0, .slice none 0 0, .slice none 0 0, .slice none 0 0, .slice none 0 0] 30) = W1 := hW1.symm
  have hx : W1.heap[w.heap.size]? = some (.cells #[.int .u64 (c.frame : Int), .slice q.A1 c.ps.length q.c1, .slice q.A2 c.ws.length q.c2, .slice q.A3 c.rs.length q.c3, .slice q.A4 c.ts.length q.c4, .slice q.A5 c.cs.length q.c5] 30) := hbx.x
  have HX := Lib.hid hx
  unfold cfgV
  unfold cfgV at HCL
  clear hc hs hbx hW1 hx hS
  go_enter Tryz.func17, Tryz.ntmps17
  go_wp2_with ((with_reducible refine load_cfg rfl (.tmp 1) rfl w.heap.size rfl #[.int .u64 (c.frame : Int), .slice q.A1 c.ps.length q.c1, .slice q.A2 c.ws.length q.c2, .slice q.A3 c.rs.length q.c3, .slice q.A4 c.ts.length q.c4, .slice q.A5 c.cs.length q.c5] rfl HX.out ?_))
  refine HCL.out.mono ?_
  rintro e wr ⟨s, rfl, ho, hb⟩
  have hm := nst0 HBX.out ho hb
  obtain ⟨N, hN⟩ : ∃ N, N = wr.heap.size := ⟨_, rfl⟩
  obtain ⟨V0, hV0⟩ : ∃ V0, wr.alloc (.cells (cfgA c s) 30) = V0 := ⟨_, rfl⟩
  rw [hV0, ← hN] at hm
  have hNs : wr.heap.size = N := hN.symm
  have hboxN : wr.alloc (.cells #[.int .u64 (c.frame : Int), .slice s.A1 c.ps.length s.c1, .slice s.A2 c.ws.length s.c2, .slice s.A3 c.rs.length s.c3, .slice s.A4 c.ts.length s.c4, .slice s.A5 c.cs.length s.c5] 30) = V0 := hV0
  have n5 : V0.cell? ⟨N, 5, none⟩ = some (.slice s.A5 c.cs.length s.c5) := hm.cell 5
  have hch : s.ch.map (·.r) = c.cs := ho.ch
  have HCH := Lib.hid hch
  have hlen : s.ch.length = c.cs.length := by rw [← hch, List.length_map]
  have HLN := Lib.hid hlen
  have HM0 : Hid (MSt w N [(w.heap.size + 1, .cells zeroC 30)] V0 { c with cs := (srtTo s.ch 0).map (·.r) } { s with ch := srtTo s.ch 0 }) := Lib.hid (by rw [srtTo_zero, hch]; exact hm)
  clear ho hb hN hV0 hm hch hlen
  unfold cfgV
  go_wp2_with fail
  have hnl : c.cs.length ≤ 1000 := HSM.out.cs
  go_loopw [11] (fun i wr => ∃ j : Nat, j ≤ c.cs.length ∧ i = .int .i64 (j : Int) ∧ Hid (MSt w N [(w.heap.size + 1, .cells zeroC 30)] wr { c with cs := (srtTo s.ch j).map (·.r) } { s with ch := srtTo s.ch j })) (fun i _ => c.cs.length - (intOf i).toNat)
  case atStart => exact ⟨0, by omega, rfl, HM0⟩
  case round =>
    obtain ⟨j, hj, rfl, hst⟩ := hrel
    by_cases hlt : j < c.cs.length
    · have hji : (j : Int) < (c.cs.length : Int) := by omega
      have hwj : wrap64 ((j : Int) + 1) = (j : Int) + 1 := by unfold wrap64; omega
      have hjs : j < s.ch.length := by rw [HLN.out]; exact hlt
      have HSRT : Hid SortU16 := Lib.hid (by
        rcases HSO.out with h | h
        · rw [h] at hlt
          simp at hlt
        · exact h)
      obtain ⟨b, o, hA5, hcell⟩ := hst.out.chan_at hjs
      have hc0 : wr.cell? ⟨b, o + j * 3, none⟩ = some (.int .u16 (s.ch[j].r.id : Int)) := hcell 0 _ rfl
      have hc1 : wr.cell? ⟨b, o + j * 3 + 1, none⟩ = some (.int .u16 (s.ch[j].r.src : Int)) := hcell 1 _ rfl
      have hc2 : wr.cell? ⟨b, o + j * 3 + 2, none⟩ = some (.slice s.ch[j].A s.ch[j].r.dests.length s.ch[j].cap) := hcell 2 _ rfl
      obtain ⟨V1, hV1⟩ : ∃ V1, wr.alloc (.cells #[.int .u16 (s.ch[j].r.id : Int), .int .u16 (s.ch[j].r.src : Int), .slice s.ch[j].A s.ch[j].r.dests.length s.ch[j].cap] 34) = V1 := ⟨_, rfl⟩
      have hb1 : Below wr.heap.size wr V1 := by rw [← hV1]; exact (Below.refl _ _).alloc (Nat.le_refl _) _
      have hx2 : V1.cell? ⟨wr.heap.size, 2, none⟩ = some (.slice s.ch[j].A s.ch[j].r.dests.length s.ch[j].cap) := by rw [← hV1]; exact cell_of_row _ _ 2 _ _ _ (heap_alloc_new wr _)
      have hm1 := hst.out.more hb1
      have HM1 := Lib.hid hm1
      have hdm : s.ch[j] ∈ srtTo s.ch j := List.mem_of_getElem? (srtTo_at hjs)
      have hdl : s.ch[j].r.dests.length ≤ 1000 := HSM.out.ds _ (by rw [← HCH.out]; exact List.mem_map_of_mem (List.getElem_mem hjs))
      have HSC := Lib.hid (HSRT.out s.ch[j].r.dests V1 w.heap.size (.slice s.ch[j].A s.ch[j].r.dests.length s.ch[j].cap) (hm1.own.ds _ hdm) hdl)
      have HDS := Lib.hid (fun (W' : World) ho ht => MSt.dst (W' := W') hjs hm1 ho ht)
      clear hcell hst hb1 hm1 hdm hdl HSRT HM0
      have HA5 := Lib.hid hA5
      rw [hA5]
      generalize s.ch[j] = x at *
      go_wp2_with fail
      refine HSC.out.mono ?_
      rintro e W' ⟨rfl, ho, ht⟩
      have HE := Lib.hid (HDS.out W' ho ht)
      clear ho ht HSC HDS
      go_wp2_with fail
      go_roundw
      case rel => exact ⟨j + 1, by omega, by go_num, by have h := HE.out; rw [HA5.out] at h; exact Lib.hid h⟩
      case measure => simp [intOf]; omega
    · have hji : ¬ (j : Int) < (c.cs.length : Int) := by omega
      have hjj : j = s.ch.length := by rw [HLN.out]; omega
      subst hjj
      have hst0 := hst.out
      rw [srtTo_all] at hst0
      obtain ⟨k0, hk0⟩ : ∃ k0, k0 = (s.ch.map srtC).map (·.r) := ⟨_, rfl⟩
      have hk1 : k0 = c.cs.map srtR := by rw [hk0, ← HCH.out, List.map_map, List.map_map]; rfl
      have hkl : k0.length = c.cs.length := by rw [hk1, List.length_map]
      rw [← hk0] at hst0
      obtain ⟨H, hH⟩ : ∃ H, H = s.ch.map srtC := ⟨_, rfl⟩
      rw [← hH] at hst0
      have hHl : H.length = c.cs.length := by rw [hH, List.length_map]; exact HLN.out
      have hds : ∀ x ∈ H, x.r.dests.length ≤ 1000 := by
        intro x hx
        rw [hH] at hx
        obtain ⟨y, hy, rfl⟩ := List.mem_map.1 hx
        show (sortU y.r.dests).length ≤ 1000
        rw [sortU_len]
        exact HSM.out.ds _ (by rw [← HCH.out]; exact List.mem_map_of_mem hy)
      have HK := Lib.hid (And.intro hk1 (And.intro hkl (And.intro hHl hds)))
      have HS0 := Lib.hid hst0
      have e1 : wr.cell? ⟨N, 1, none⟩ = some (.slice s.A1 c.ps.length s.c1) := hst0.cell 1
      have HC1 := Lib.hid (ord1_ok c.ps wr w.heap.size (.slice s.A1 c.ps.length s.c1) hst0.own.ps (by have := HSM.out.ps; omega))
      clear hst hst0 hk0 hk1 hkl hH hHl hds HM0 HCL HX
      go_wp2_with fail
      refine HC1.out.mono ?_
      rintro e U1 ⟨rfl, hs1⟩
      obtain ⟨p1, hp1, ha1, hm1⟩ := HS0.out.srt1 hs1
      have HP1 := Lib.hid (And.intro hp1 ha1)
      have e2 : U1.cell? ⟨N, 2, none⟩ = some (.slice s.A2 c.ws.length s.c2) := hm1.cell 2
      have HC2 := Lib.hid (ord2_ok c.ws U1 w.heap.size (.slice s.A2 c.ws.length s.c2) hm1.own.ws (by have := HSM.out.ws; omega))
      have HS1 := Lib.hid hm1
      clear hs1 hp1 ha1 hm1 HC1 HS0 e1
      go_wp2_with fail
      refine HC2.out.mono ?_
      rintro e U2 ⟨rfl, hs2⟩
      obtain ⟨p2, hp2, ha2, hm2⟩ := HS1.out.srt2 hs2
      have HP2 := Lib.hid (And.intro hp2 ha2)
      have e3 : U2.cell? ⟨N, 3, none⟩ = some (.slice s.A3 c.rs.length s.c3) := hm2.cell 3
      have HC3 := Lib.hid (ord3_ok c.rs U2 w.heap.size (.slice s.A3 c.rs.length s.c3) hm2.own.rs (by have := HSM.out.rs; omega))
      have HS2 := Lib.hid hm2
      clear hs2 hp2 ha2 hm2 HC2 HS1 e2
      go_wp2_with fail
      refine HC3.out.mono ?_
      rintro e U3 ⟨rfl, hs3⟩
      obtain ⟨p3, hp3, ha3, hm3⟩ := HS2.out.srt3 hs3
      have HP3 := Lib.hid (And.intro hp3 ha3)
      have e4 : U3.cell? ⟨N, 4, none⟩ = some (.slice s.A4 c.ts.length s.c4) := hm3.cell 4
      have HC4 := Lib.hid (ord4_ok c.ts U3 w.heap.size (.slice s.A4 c.ts.length s.c4) hm3.own.ts (by have := HSM.out.ts; omega))
      have HS3 := Lib.hid hm3
      clear hs3 hp3 ha3 hm3 HC3 HS2 e3
      go_wp2_with fail
      refine HC4.out.mono ?_
      rintro e U4 ⟨rfl, hs4⟩
      obtain ⟨p4, hp4, ha4, hm4⟩ := HS3.out.srt4 hs4
      have HP4 := Lib.hid (And.intro hp4 ha4)
      have e5 : U4.cell? ⟨N, 5, none⟩ = some (.slice s.A5 k0.length s.c5) := hm4.cell 5
      have hcs5 : OwnC U4 w.heap.size 34 3 (.slice s.A5 H.length s.c5) H.length (H.flatMap chanV) := by
        have h5 := hm4.own.cs
        rw [show H.length = k0.length by rw [HK.out.2.1]; exact HK.out.2.2.1]
        exact h5
      have HC5 := Lib.hid (ord5_ok H U4 w.heap.size (.slice s.A5 H.length s.c5) hcs5 (fun x hx => by
        obtain ⟨A', c', hv, hcx, -⟩ := (hm4.own.ds x hx).cells
        injection hv with e1 e2 e3
        subst e1
        refine ⟨hcx, HK.out.2.2.2 x hx, fun a ha hba => ?_⟩
        rw [own_blk] at hba
        obtain ⟨n, hn', hx'⟩ := List.mem_iff_getElem.1 hx
        exact hm4.own.sep.ne (i := 4) (j := 5 + n) (by omega) (a := a.block) (b := a.block) (by show some (blk s.A5) = _; rw [hba]) (by rw [chan_slot (q := { s with ch := H }) hn' hx', ha]; rfl) rfl) (by have := HK.out.2.2.1; omega))
      rw [show H.length = k0.length by rw [HK.out.2.1]; exact HK.out.2.2.1] at HC5
      have HS4 := Lib.hid hm4
      clear hs4 hp4 ha4 hm4 HC4 HS3 e4 hcs5
      go_wp2_with fail
      refine HC5.out.mono ?_
      rintro e U5 ⟨rfl, ch', hs5⟩
      have hs5' : ChanRes U4 w.heap.size (.slice s.A5 H.length s.c5) H U5 ch' := by
        rw [show H.length = k0.length by rw [HK.out.2.1]; exact HK.out.2.2.1]
        exact hs5
      obtain ⟨hp5, ha5, hm5⟩ := HS4.out.srt5 hs5'
      have HN : Hid (NormOf c { frame := c.frame, ps := p1, ws := p2, rs := p3, ts := p4, cs := ch'.map (·.r) }) := Lib.hid ⟨rfl, HP1.out.1, HP2.out.1, HP3.out.1, HP4.out.1, by rw [← HK.out.1]; exact hp5, HP1.out.2, HP2.out.2, HP3.out.2, HP4.out.2, ha5⟩
      have hm5' : MSt w N [(w.heap.size + 1, .cells zeroC 30)] U5 { frame := c.frame, ps := p1, ws := p2, rs := p3, ts := p4, cs := ch'.map (·.r) } { s with ch := ch' } := hm5
      obtain ⟨n, hn⟩ : ∃ n : ConfR, n = { frame := c.frame, ps := p1, ws := p2, rs := p3, ts := p4, cs := ch'.map (·.r) } := ⟨_, rfl⟩
      obtain ⟨t, ht⟩ : ∃ t : CfgQ, t = { s with ch := ch' } := ⟨_, rfl⟩
      rw [← hn] at hm5' HN
      rw [← ht] at hm5'
      have HE := Lib.hid (norm_end hm5' (by omega))
      have HALL := Lib.hid hm5'.all
      have HR := Lib.hid (hm5'.keep _ (List.mem_cons_self ..)).1
      obtain ⟨RV, hRV⟩ : ∃ RV, RV = cfgA n t := ⟨_, rfl⟩
      have hz : RV.size = 6 := by rw [hRV]; rfl
      have HZ := Lib.hid hz
      have HI : Hid ((Tryz.prog.info? 30).map (·.size) = some RV.size) := Lib.hid (by rw [hRV]; kernel_rfl)
      have HO : Hid (zeroC.size = RV.size ∧ RV.all (·.oneCell') = true) := Lib.hid (by rw [hRV]; refine ⟨rfl, ?_⟩; simp only [cfgA, List.all_toArray, List.all_cons, List.all_nil]; rfl)
      rw [← hRV] at HE HALL
      have HRV := Lib.hid hRV
      clear hs5 hs5' hp5 ha5 hm5 hm5' hn ht hRV hz HS4 HC5 e5 HP1 HP2 HP3 HP4
      go_wp2_with (first
        | (with_reducible refine load_cfg rfl (.tmp 3) rfl N rfl RV HZ.out HALL.out ?_)
        | (with_reducible refine wpList_store_row rfl _ _ _ rfl (w.heap.size + 1) RV rfl rfl _ _ HR.out HI.out HO.out.1 HO.out.2 ?_))
      refine bodyPost_ret (v := .agg RV) ?_ rfl ⟨n, HN.out, t, by rw [HRV.out]; rfl, HE.out.1, HE.out.2⟩
      exact results_cell_row rfl _ _ (w.heap.size + 1) _ RV _ _ rfl (setRow_heap U5 _ _ _ _ _ HR.out) Tryz.underlying30 rfl HI.out

end Go.Proofs.YthdagjlgfffpbaaGreat

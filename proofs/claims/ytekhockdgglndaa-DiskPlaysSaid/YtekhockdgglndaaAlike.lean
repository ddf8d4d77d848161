/-
  CONTRACT OF the law's 'alike': two disks that are one show the same.
-/
import Derived.Test.YtekhockdgglndaaTM
import Derived.Test.YtekhockdgglndaaDList
import Derived.BigQuiet
namespace Go.Proofs.Ytekhockdgglndaa
set_option linter.unusedVariables false
set_option linter.unusedSimpArgs false
open Go.RowKit

theorem used_dead {w : World} {X : Nat → Prop} {g : Nat} {L : Lay} {S : St} (h : DAt w X g L S) (hd : S.dead = true) : Calls Try.prog 42 #[ptrTo g] w fun e w' => e = .returned (.int .i64 0) ∧ w = w' := by
  have c9 : w.cell? ⟨g, 9, none⟩ = some (.bool true) := by rw [← hd]; exact h.c9
  unfold ptrTo
  clear h
  go_enter Try.func42, Try.ntmps42
  go_wp2
  go_ret
  exact ⟨rfl, rfl⟩
theorem name_len24 {l : Nm} (h : nameB l = true) : l.length ≤ 24 := by
  unfold nameB at h
  rw [Bool.and_eq_true] at h
  exact (of_decide_eq_true h.1).2
/-- What the k-th name is, and leads to, on both disks. -/
theorem Fine.at_ {S : St} {R : RS} {n : Nat} (F : Fine S R n) (hd : S.dead = false) {k : Nat} {p : Nm × Nat} (hp : S.names[k]? = some p) : ∃ (q : RE) (r : RFl), R.now[k]? = some q ∧ q.1 = ⟨p.1.toArray⟩ ∧ R.files[q.2]? = some r ∧ r ∈ R.files ∧ S.read p.1 = (r.data, 0) ∧ r.data.length = r.n ∧ q.1.size ≤ 24 := by
  obtain ⟨ι, s⟩ := F.sim
  have hm := List.mem_of_getElem? hp
  have h1 : (nl R.now)[k]? = some (p.1, ι p.2) := by
    rw [s.now]
    unfold mapI
    rw [List.getElem?_map, hp]
    rfl
  unfold nl at h1
  rw [List.getElem?_map, Option.map_eq_some_iff] at h1
  obtain ⟨q, hq, e⟩ := h1
  simp only [Prod.mk.injEq] at e
  have hk := F.inv.risN.at (k := p.1) (b := p.2) hm
  obtain ⟨f, r, hf, hb, hr, m, hdd⟩ := s.place F.inv hk
  have hq1 : q.1 = ⟨p.1.toArray⟩ := by
    obtain ⟨⟨a⟩, b⟩ := q
    simp only at e
    rw [← e.1]
  refine ⟨q, r, hq, hq1, by rw [e.2]; exact hr, List.mem_of_getElem? hr, ?_, m.len, ?_⟩
  · unfold St.read
    rw [if_neg (by rw [hd]; exact Bool.false_ne_true), hk]
    have hfind : S.fs.find? (fun f => f.blk == p.2) = some f := by
      cases hq2 : S.fs.find? (fun f => f.blk == p.2) with
      | none =>
        have := List.find?_eq_none.1 hq2 f hf
        simp [hb] at this
      | some g =>
        have hg := List.mem_of_find?_eq_some hq2
        have hgb : g.blk = p.2 := by simpa using List.find?_some hq2
        rw [s.fr.inj g hg f hf (by rw [hgb, hb])]
    simp only [hfind, hdd]
  · have := name_len24 (F.keys.now F.inv p hm)
    rw [hq1]
    show p.1.toArray.size ≤ 24
    simpa using this

set_option maxRecDepth 100000 in
set_option maxHeartbeats 3200000 in
theorem alike_yes {w : World} {X : Nat → Prop} {g x : Nat} {L : Lay} {V : RL} {S : St} {R : RS} {N : Nat} (h : DAt w X g L S) (hr : RAt w X x V R) (F : Fine S R N) (hN : N ≤ 150) :
    Calls Try.prog 10 #[.pointer (some ⟨g, 0, none⟩), .pointer (some ⟨x, 0, none⟩)] w fun e w' => e = .returned (.bool true) ∧ Below w.heap.size w w' := by
  have RF := F.fits hN
  have hcs : S.calls ≤ 150 := Nat.le_trans F.calls hN
  have hsim := F.sim
  obtain ⟨ι, s⟩ := hsim
  have hnl : S.names.length ≤ 64 := F.inv.len
  have hdl := inv_dl F.inv (by omega)
  have hlen : R.now.length = S.names.length := by have := congrArg List.length s.now; rw [nl_len] at this; simpa [mapI] using this
  have c5 : w.drew.cell? ⟨x, 5, none⟩ = some (.bool S.dead) := by rw [← s.dead]; exact hr.cell 5
  have c5' : w.cell? ⟨x, 5, none⟩ = some (.bool S.dead) := by rw [← s.dead]; exact hr.cell 5
  have c6 : w.cell? ⟨x, 6, none⟩ = some (.int .i64 (S.calls : Int)) := by rw [← s.calls]; exact hr.cell 6
  have HDE := Lib.hid (fun q => dead_any (h.drewN q))
  have HCA := Lib.hid (fun q => calls_any (h.drewN q))
  have hcc : ((S.calls : Int) != (S.calls : Int)) = false := bne_self_eq_false _
  have hxl := hr.lt
  have H := Lib.hid h
  have HR := Lib.hid hr
  have FF := Lib.hid F
  have HLEN := Lib.hid hlen
  have HDL := Lib.hid hdl
  have HRF := Lib.hid RF
  obtain ⟨cl, hcl⟩ : ∃ cl, cl = S.calls := ⟨_, rfl⟩
  rw [← hcl] at hcc c6 HCA hcs
  cases hd : S.dead with
  | true =>
    rw [hd] at c5 c5' HDE
    have HD := Lib.hid hd
    have HLI := Lib.hid (fun q => list_any (H.out.drewN q) (by omega))
    have hls : S.list = [] := by unfold St.list; rw [if_pos hd]
    rw [hls] at HLI
    unfold ptrTo at HDE HCA HLI
    clear h hr F s hlen hdl RF hls hd c5 hcl
    go_enter Try.func10, Try.ntmps10
    go_wp2_with fail
    go_quiet (first
      | (go_at_call 39; exact Calls.quiet_of_same ((HDE.out _).mono fun e w' ⟨h1, h2⟩ => ⟨h1, h2.symm⟩))
      | (go_at_call 40; exact Calls.quiet_of_same ((HCA.out _).mono fun e w' ⟨h1, h2⟩ => ⟨h1, h2.symm⟩)))
    go_wp2_with fail
    refine (HLI.out nq).mono ?_
    rintro e w2 ⟨v2, rfl, ho2, hb2⟩
    obtain ⟨A2, cc2, rfl⟩ := ho2.form
    have hb2' : Below w.heap.size w w2 := ⟨hb2.os, hb2.tape, hb2.output, hb2.size, hb2.block⟩
    have k5 : w2.cell? ⟨x, 5, none⟩ = some (.bool true) := (hb2'.cell (p := ⟨x, 5, none⟩) hxl).trans c5'
    have D2 : Hid (DAt w2 X g L S) := Lib.hid (H.out.foreign (grown_of_below hb2' none) (fun j e => by cases e))
    have HB2 := Lib.hid hb2'
    have HRE := Lib.hid (read_any D2.out ⟨#[97]⟩ (by decide) FF.out.inv.closed HDL.out)
    have hrd : S.read (⟨#[97]⟩ : ByteArray).data.toList = ([], 9) := by unfold St.read; rw [if_pos HD.out]
    rw [hrd] at HRE
    unfold ptrTo at HRE
    clear hrd ho2 hb2 hb2'
    go_wp2_with fail
    refine HRE.out.mono ?_
    rintro e w3 ⟨v3, rfl, ho3, hb3⟩
    have D3 : Hid (DAt w3 X g L S) := Lib.hid (D2.out.foreign (grown_of_below hb3 none) (fun j e => by cases e))
    have HB3 := Lib.hid (HB2.out.trans (hb3.mono HB2.out.size))
    have HUS := Lib.hid (used_dead D3.out HD.out)
    unfold ptrTo at HUS
    go_wp2_with (first
      | (go_at_call 42; refine HUS.out.mono ?_; rintro e w4 ⟨rfl, rfl⟩)
      | fail)
    go_ret
    exact ⟨rfl, HB3.out⟩
  | false =>
    rw [hd] at c5 c5' HDE
    have HD := Lib.hid hd
    have HLI := Lib.hid (fun q => list_any (H.out.drewN q) (by omega))
    have hls : S.list = S.names := by unfold St.list; rw [if_neg (by rw [hd]; exact Bool.false_ne_true)]
    rw [hls] at HLI
    have hus := s.used F.inv
    have HUSE := Lib.hid hus
    unfold ptrTo at HDE HCA HLI
    obtain ⟨n, hn⟩ : ∃ n, n = S.names.length := ⟨_, rfl⟩
    rw [← hn] at hnl HLEN
    have HN := Lib.hid hn
    obtain ⟨u, hu⟩ : ∃ u, u = dusedOf S.names S.fs := ⟨_, rfl⟩
    rw [← hu] at HUSE
    have HU := Lib.hid hu
    have huu : ((u : Int) != (u : Int)) = false := bne_self_eq_false _
    have hnn : ((n : Int) != (n : Int)) = false := bne_self_eq_false _
    clear h hr F s hlen hdl RF hls hd c5 hcl hus hn hu
    go_enter Try.func10, Try.ntmps10
    go_wp2_with fail
    go_quiet (first
      | (go_at_call 39; exact Calls.quiet_of_same ((HDE.out _).mono fun e w' ⟨h1, h2⟩ => ⟨h1, h2.symm⟩))
      | (go_at_call 40; exact Calls.quiet_of_same ((HCA.out _).mono fun e w' ⟨h1, h2⟩ => ⟨h1, h2.symm⟩)))
    go_wp2_with (first
      | (go_at_call 41; refine (HLI.out nq).mono ?_; rintro e w2 ⟨v2, rfl, ho2, hb2⟩; rw [← HN.out] at ho2; obtain ⟨A2, cc2, rfl⟩ := ho2.form; have hb2' : Below w.heap.size w w2 := ⟨hb2.os, hb2.tape, hb2.output, hb2.size, hb2.block⟩; have k5 : w2.cell? ⟨x, 5, none⟩ = some (.bool false) := (hb2'.cell (p := ⟨x, 5, none⟩) hxl).trans c5'; have D2 : Hid (DAt w2 X g L S) := Lib.hid (H.out.foreign (grown_of_below hb2' none) (fun j e => by cases e)); have R2 : Hid (RAt w2 X x V R) := Lib.hid (HR.out.below hb2'); have HB2 := Lib.hid hb2'; have HO2 := Lib.hid ho2; have HRLI := Lib.hid (rlist_any X x V R w2 R2.out (by have := HRF.out.now; omega) HRF.out.at_); rw [HLEN.out] at HRLI; clear ho2 hb2 hb2')
      | (go_at_call 43; refine HRLI.out.mono ?_; rintro e w3 ⟨v3, rfl, ho3, hb3⟩; obtain ⟨A3, cc3, rfl⟩ := ho3.form; have D3 : Hid (DAt w3 X g L S) := Lib.hid (D2.out.foreign (grown_of_below hb3 none) (fun j e => by cases e)); have R3 : Hid (RAt w3 X x V R) := Lib.hid (R2.out.below hb3); have HB3 := Lib.hid (HB2.out.trans (hb3.mono HB2.out.size)); have HO3 := Lib.hid ho3; have HO23 := Lib.hid (HO2.out.below (hb3.mono (Nat.le_refl _))); have HUS := Lib.hid (used_any D3.out HD.out FF.out.inv.closed (by have := HN.out; omega) HDL.out); rw [← HU.out] at HUS; unfold ptrTo at HUS; clear ho3 hb3)
      | (go_at_call 42; refine HUS.out.mono ?_; rintro e w4 ⟨rfl, hb4⟩; have D4 : Hid (DAt w4 X g L S) := Lib.hid (D3.out.foreign (grown_of_below hb4 none) (fun j e => by cases e)); have R4 : Hid (RAt w4 X x V R) := Lib.hid (R3.out.below hb4); have HB4 := Lib.hid (HB3.out.trans (hb4.mono HB3.out.size)); have HO4 := Lib.hid (HO3.out.below hb4); have HO24 := Lib.hid (HO23.out.below hb4); have HRUS := Lib.hid (rused_any X x V R w4 R4.out (by have := HRF.out.now; omega) HRF.out.at_ (fun f hf => (HRF.out.n f hf).1)); rw [HUSE.out] at HRUS; clear hb4)
      | (go_at_call 44; refine HRUS.out.mono ?_; rintro e w5 ⟨rfl, hq5⟩; have D5 : Hid (DAt w5 X g L S) := Lib.hid (D4.out.quiet hq5); have R5 : Hid (RAt w5 X x V R) := Lib.hid (R4.out.quiet hq5); have HB5 := Lib.hid (HB4.out.trans (hq5.below _)); have HO5 := Lib.hid (HO4.out.quiet hq5); have HO25 := Lib.hid (HO24.out.quiet hq5); clear hq5)
      | fail)
    go_loopw [9, 10, 11] (fun i bb ee wr => ∃ k : Nat, k ≤ n ∧ i = .int .i64 k ∧ (∃ z, bb = z) ∧ (∃ z, ee = z) ∧ Hid (Below w5.heap.size w5 wr)) (fun i _ _ _ => n - (intOf i).toNat)
    case atStart => exact ⟨0, Nat.zero_le _, rfl, ⟨_, rfl⟩, ⟨_, rfl⟩, Lib.hid (Below.refl _ _)⟩
    case round =>
      obtain ⟨k, hk, rfl, ⟨zb, rfl⟩, ⟨ze, rfl⟩, hbe⟩ := hrel
      by_cases hlt : k < n
      · obtain ⟨p, hp⟩ : ∃ p, S.names[k]? = some p := ⟨_, List.getElem?_eq_getElem (by rw [← HN.out]; exact hlt)⟩
        obtain ⟨q, r, hq, hq1, hrf, hrm, hrd, hrn, hq24⟩ := FF.out.at_ HD.out hp
        have hsz5 := hbe.out.size
        obtain ⟨bn, offn, un, eA, hbn, hu, hcn⟩ := ((HO25.out.sh).below hbe.out).at hlt
        have hstr : (strs S.names)[k]? = some (.string q.1) := by unfold strs; rw [List.getElem?_map, hp, hq1]; rfl
        rw [hstr] at hu
        cases hu
        obtain ⟨bl, offl, eB, hbl, hcl⟩ := (SX.of_own HO5.out (X := fun z => z < w5.heap.size) fun z h1 h2 => h2).2 (by omega)
        have hlk : R.list[k]? = some (q.1, r) := by unfold RS.list; rw [List.getElem?_map, hq]; show some (q.1, fileAt R.files q.2) = _; rw [fileAt_of hrf]
        obtain ⟨l0, l1⟩ := lfcells_at hlk
        have m0 : wr.cell? ⟨bl, offl + k * 2, none⟩ = some (.string q.1) := (hbe.out.cell (p := ⟨bl, _, none⟩) hbl).trans (hcl _ _ l0)
        have m1 : w5.cell? ⟨bl, offl + k * 2 + 1, none⟩ = some (.slice r.A r.n r.c) := hcl _ _ l1
        subst eA
        subst eB
        have HRD := Lib.hid (read_any ((D5.out.foreign (grown_of_below hbe.out none) (fun j e => by cases e))) q.1 (by unfold maxLen; omega) FF.out.inv.closed HDL.out)
        rw [show q.1.data.toList = p.1 by rw [hq1], hrd] at HRD
        have hro := R5.out.fo r hrm
        have HRO := Lib.hid hro
        have hrc := (HRF.out.n r hrm).1
        unfold ptrTo at HRD
        obtain ⟨nm, hnm⟩ : ∃ nm, nm = q.1 := ⟨_, rfl⟩
        rw [← hnm] at hcn m0 HRD
        obtain ⟨fd, hfd⟩ : ∃ fd, fd = r.data := ⟨_, rfl⟩
        have HFD := Lib.hid hfd
        rw [← hfd] at HRD hrn
        have hkn : (k : Int) < (n : Int) := by omega
        have HLT : Hid (k + 1 ≤ n) := Lib.hid hlt
        have hss : (nm.toList != nm.toList) = false := bne_self_eq_false _
        clear hp hq hq1 hrf hrd hq24 hstr hlk l0 l1 hcl hro hnm hfd hrm
        go_wp2_with fail
        refine HRD.out.mono ?_
        rintro e w6 ⟨v6, rfl, ho6, hb6⟩
        replace ho6 : Own w6 wr.heap.size 5 1 v6 r.n (by8 fd) := by rw [← hrn]; exact ho6
        obtain ⟨A6, c6, rfl⟩ := ho6.form
        have kn : w6.cell? ⟨bn, offn + k, none⟩ = some (.string nm) := (hb6.cell (p := ⟨bn, _, none⟩) (by show bn < wr.heap.size; omega)).trans hcn
        have kl : w6.cell? ⟨bl, offl + k * 2, none⟩ = some (.string nm) := (hb6.cell (p := ⟨bl, _, none⟩) (by show bl < wr.heap.size; omega)).trans m0
        have km : w6.cell? ⟨bl, offl + k * 2 + 1, none⟩ = some (.slice r.A r.n r.c) := (hb6.cell (p := ⟨bl, _, none⟩) (by show bl < wr.heap.size; omega)).trans ((hbe.out.cell (p := ⟨bl, _, none⟩) hbl).trans m1)
        have HSA : Hid (∀ q, Calls Try.prog 13 #[.slice A6 r.n c6, .slice r.A r.n r.c] (w6.drewN q) fun e w' => e = .returned (.bool true) ∧ ∃ m, w' = (w6.drewN q).drewN m) := Lib.hid fun q => by
          have hx : Sh (w6.drewN q) w6.heap.size A6 r.n (by8 fd) := ho6.sh
          have hy : Sh (w6.drewN q) w5.heap.size r.A r.n (by8 fd) := by
            rw [HFD.out]
            refine ⟨by rw [by8_len, ← HFD.out]; exact hrn, fun hn0 => ?_⟩
            obtain ⟨b', off', e', hX', hc'⟩ := HRO.out.sh.2 hn0
            have hb' := R5.out.old b' hX'.1
            exact ⟨b', off', e', hb', fun j u hu => ((hb6.cell (p := ⟨b', _, none⟩) (by show b' < wr.heap.size; omega)).trans (hbe.out.cell (p := ⟨b', _, none⟩) hb')).trans (hc' j u hu)⟩
          exact same_yes A6 r.A r.n r.n c6 r.c _ _ _ _ _ hx hy (by unfold maxLen; omega) rfl
        have HB6 := Lib.hid (hbe.out.trans (hb6.mono hsz5))
        clear hcn m0 m1 ho6 hb6 HRD hbn hbl
        go_wp2_with fail
        go_quiet ((go_at_call 13; refine Calls.quiet_of (HSA.out _)))
        go_wp2_with fail
        go_roundw
        case rel => exact ⟨k + 1, HLT.out, by go_num, ⟨_, rfl⟩, ⟨_, rfl⟩, Lib.hid (HB6.out.trans (Quiet.below ⟨_, rfl⟩ _))⟩
        case measure =>
          have h5 := HLT.out
          simp [intOf]
          omega
      · obtain rfl : k = n := by omega
        go_wp2
        go_ret
        exact ⟨rfl, HB5.out.trans (hbe.out.mono HB5.out.size)⟩
end Go.Proofs.Ytekhockdgglndaa

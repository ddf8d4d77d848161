/-
  blazonlaw14.LatticeAlls is true for every input: the join of any elements is the document's; of one that is none there is none.
  Of more than 12 pairs, names of more than 100 bytes, or more than 60 elements, it says that the document's examples hold.
-/
import Derived.Test.YtcppmmiblmcagaaLtN
import Derived.BigQuiet
import Derived.Deep.QuietTactic
import Derived.Deep.RegionHeld3
import Derived.Deep.DeepCutAuto
namespace Go.Proofs.Ytcppmmiblmcagaa
set_option linter.unusedVariables false
set_option linter.unusedSimpArgs false
open Go.RowKit Go.Maps

theorem zero_ref14 (w : World) : RefAt w Od.zero (.slice none 0 0) (.slice none 0 0) :=
  ⟨Od.Wf.zero, ⟨none, 0, rfl, (Own.nil w w.heap.size 9 1 (Nat.le_refl _)).sh⟩, ⟨none, 0, rfl, fun h => absurd h (Nat.lt_irrefl 0)⟩⟩
theorem intz_len (l : List Int) : (intz l).length = l.length := by simp [intz]
theorem intz_one (l : List Int) : ∀ u ∈ intz l, u.oneCell' = true := by
  intro u hu
  obtain ⟨x, _, rfl⟩ := List.mem_map.1 hu
  rfl
theorem all_in {n : Nat} {zs : List Int} (h : zs.all (inI n) = true) : ∃ sN : List Nat, zs = sN.map (fun (i : Nat) => (i : Int)) ∧ intz zs = ints sN ∧ sN.length = zs.length ∧ ∀ a ∈ sN, a < n := by
  have hz : ∀ z ∈ zs, ((z.toNat : Nat) : Int) = z ∧ z.toNat < n := fun z hz => by
    have := List.all_eq_true.1 h z hz
    unfold inI at this
    simp at this
    omega
  have e : zs = (zs.map Int.toNat).map (fun (i : Nat) => (i : Int)) := by
    rw [List.map_map]
    have : ∀ z ∈ zs, ((fun (i : Nat) => (i : Int)) ∘ Int.toNat) z = z := fun z hz' => (hz z hz').1
    exact ((List.map_congr_left (g := id) this).trans (List.map_id zs)).symm
  refine ⟨zs.map Int.toNat, e, ?_, by simp, fun a ha => ?_⟩
  · conv => lhs; rw [e]
    unfold intz ints
    rw [List.map_map]
    rfl
  · obtain ⟨z, hz1, rfl⟩ := List.mem_map.1 ha
    exact (hz z hz1).2

set_option maxRecDepth 100000 in
set_option maxHeartbeats 1600000 in
theorem latticeAlls_walk (A : Option Addr) (n c : Nat) (L : List OPa) (SA : Option Addr) (sn scap : Nat) (zs : List Int) (bad : Bool) (w : World) (hn : n ≤ maxLen) (hL : ShP w w.heap.size A n L) (hs : ∀ t ∈ L, t.1.1.size ≤ maxLen ∧ t.1.2.size ≤ maxLen) (hnc : n ≤ c) (hr : IsRow .i64 w SA sn scap zs) :
    Calls Try.prog 4 #[.slice A n c, .slice SA sn scap, .bool bad] w fun e w' => e = .returned (.bool true) ∧ Below w.heap.size w w' := by
  have HG := Lib.hid (ogreat_any A n c 12 L w hL hn (by decide) hs)
  obtain ⟨hsl, hsm, hsz, hsh, hswf⟩ := hr.sh
  unfold maxLen at hsm
  obtain ⟨z, hzd⟩ : ∃ z, zs.take sn = z := ⟨_, rfl⟩
  have hsh : Sh w w.heap.size SA sn (intz z) := by rw [← hzd]; exact hsh
  have hzl : z.length = sn := by rw [← hzd, List.length_take]; omega
  clear hswf hr hsz hzd
  cases hg : oGreat (L.map (·.1)) 12 with
  | true =>
    rw [hg] at HG
    clear hg hL hs
    go_enter Try.func4, Try.ntmps4
    go_wp2_with (first
      | (go_at_call 8; refine HG.out.mono ?_; rintro e w1 ⟨rfl, b1⟩; have B1 := Lib.hid b1; clear b1)
      | (go_at_call 9; refine (awake14_any _).mono ?_; rintro e w9 ⟨rfl, b9⟩)
      | go_in)
    go_ret
    exact ⟨rfl, B1.out.trans (b9.mono B1.out.size)⟩
  | false =>
    rw [hg] at HG
    by_cases h60 : 60 < sn
    · have d60 : decide ((60 : Int) < (sn : Int)) = true := decide_eq_true (by omega)
      have d60' : decide (60 < sn) = true := by simpa using h60
      clear hg hL hs
      go_enter Try.func4, Try.ntmps4
      go_wp2_with (first
        | (go_at_call 8; refine HG.out.mono ?_; rintro e w1 ⟨rfl, b1⟩; have B1 := Lib.hid b1; clear b1)
        | (go_at_call 9; refine (awake14_any _).mono ?_; rintro e w9 ⟨rfl, b9⟩)
        | go_in)
      go_ret
      exact ⟨rfl, B1.out.trans (b9.mono B1.out.size)⟩
    have d60 : decide ((60 : Int) < (sn : Int)) = false := decide_eq_false (by omega)
    have d60' : decide (60 < sn) = false := by simpa using h60
    have HN := Lib.hid (fun (w1 : World) (b : Below w.heap.size w w1) => onew_any A n c L w1 (hL.up b) hn hs)
    have hg2 := oGreat_no hg
    have hn12 : n ≤ 12 := by have := hg2.1; rw [List.length_map, hL.len] at this; exact this
    have HR := Lib.hid (fun (w1 : World) (b : Below w.heap.size w w1) => rnew_any A n c L w1 (hL.up b) (by omega) hnc (fun t ht => by have := hg2.2 t.1 (List.mem_map_of_mem ht); omega))
    clear hg hg2 hs hL
    cases ho : (newO (L.map (·.1))).1 with
    | none =>
      have hz : ¬ (newO (L.map (·.1))).2.2 = 0 := fun e => by
        obtain ⟨o, ho'⟩ := newO_nat.1 e
        rw [ho] at ho'
        cases ho'
      have hne : (((newO (L.map (·.1))).2.2 : Int) != 0) = true := by simp; exact hz
      have HN1 := Lib.hid (fun (w1 : World) (b : Below w.heap.size w w1) => (HN.out w1 b).mono fun e w' h => newTo_none h ho)
      have HR1 := Lib.hid (fun (w1 : World) (b : Below w.heap.size w w1) => (HR.out w1 b).mono fun e w' h => RnewTo.none h ho)
      have HQ := Lib.hid (fun (w1 : World) => (rlnew_any (zero_ref14 w1)).mono fun e w' h => rlatTo_err h (LNew.none rfl) (by decide))
      obtain ⟨R, hR⟩ : ∃ R, (newO (L.map (·.1))).2.1 = R := ⟨_, rfl⟩
      obtain ⟨E, hE⟩ : ∃ E, (newO (L.map (·.1))).2.2 = E := ⟨_, rfl⟩
      rw [hR, hE] at HN1 HR1
      rw [hE] at hne
      clear hz hR hE ho HN HR
      go_enter Try.func4, Try.ntmps4
      go_wp2_with (first
        | (go_at_call 8; refine HG.out.mono ?_; rintro e w1 ⟨rfl, b1⟩; have B1 := Lib.hid b1; clear b1)
        | (go_at_call 10; refine (HN1.out _ B1.out).mono ?_; rintro e w2 ⟨b2, rfl⟩; have B2 := Lib.hid (B1.out.trans (b2.mono B1.out.size)); clear b2)
        | (go_at_call 11; refine (HR1.out _ B2.out).mono ?_; rintro e w3 ⟨b3, rfl⟩; have B3 := Lib.hid ((B2.out.trans (b3.mono B2.out.size)).alloc (B2.out.trans (b3.mono B2.out.size)).size (.cells #[.slice none 0 0, .slice none 0 0] 32)); clear b3)
        | (go_at_call 12; (with_reducible refine (lnew_nil _).mono ?_); rintro e w4 ⟨rfl, rfl⟩)
        | (go_at_call 13; (with_reducible refine (HQ.out _).mono ?_); rintro e w6 ⟨b6, rfl⟩; have B6 := Lib.hid ((B3.out.trans (b6.mono B3.out.size)).alloc (B3.out.trans (b6.mono B3.out.size)).size (.cells #[.slice none 0 0, .slice none 0 0, .slice none 0 0, .slice none 0 0] 40)); clear b6)
        | (go_at_call 9; refine (awake14_any _).mono ?_; rintro e w9 ⟨rfl, b9⟩)
        | go_in)
      go_ret
      exact ⟨rfl, B6.out.trans (b9.mono B6.out.size)⟩
    | some o =>
      have osd := newO_osd ho
      have osa := newO_osa ho
      have HN1 := Lib.hid (fun (w1 : World) (b : Below w.heap.size w w1) => (HN.out w1 b).mono fun e w' h => newTo_some h ho)
      have HR1 := Lib.hid (fun (w1 : World) (b : Below w.heap.size w w1) => (HR.out w1 b).mono fun e w' h => RnewTo.some h ho)
      obtain ⟨i, j, x, hln⟩ := lnew_ex (n := o.ns.length) (F := rmost o) osd.pord
      by_cases hx : x = 0
      · subst hx
        obtain ⟨h0, hLt⟩ : 0 < o.ns.length ∧ Lat o.ns.length (rmost o) (jn (rmost o) o.ns.length) (mn (rmost o) o.ns.length) := (hln.zero_iff osd.pord).1 rfl
        have hln0 := hln.zero
        have hl64 := osd.wf.len
        have HL := Lib.hid (fun (w1 : World) (X : Nat → Prop) (og : Nat) (h : OrdAt w1 X og o) => (lnew_any h osd osa).mono fun e w' h => lnTo_is2 h hln0)
        have HQ := Lib.hid (fun (w1 : World) (v m : Value) (h : RefAt w1 o v m) => (rlnew_any h).mono fun e w' h => rlatTo_is h hln0)
        have HRW := Lib.hid (fun (w1 : World) (B : Nat) (js ms : Value) (h : TabsOwn w1 B o js ms) => h.rows h0)
        have H0 := Lib.hid h0
        have HLT := Lib.hid hLt
        clear osa HN HR hln hln0 ho hLt h0
        have HOSD := Lib.hid osd
        clear osd
        go_enter Try.func4, Try.ntmps4
        go_wp2_with (first
          | (go_at_call 8; refine HG.out.mono ?_; rintro e w1 ⟨rfl, b1⟩; have B1 := Lib.hid b1; clear b1)
          | (go_at_call 10; refine (HN1.out _ B1.out).mono ?_; rintro e w2 ⟨b2, og, rfl, hO⟩; have B2 := Lib.hid (B1.out.trans (b2.mono B1.out.size)); have HO := Lib.hid hO; clear b2 hO)
          | (go_at_call 11; refine (HR1.out _ B2.out).mono ?_; rintro e w3 ⟨b3, v, m, rfl, hr⟩; obtain ⟨A1, c1, rfl, _⟩ := hr.nm; obtain ⟨A2, c2, rfl, _⟩ := hr.mt; have B3 := Lib.hid (B2.out.trans (b3.mono B2.out.size)); have ba := ((Below.refl w3.heap.size w3).alloc (Nat.le_refl _) (.cells #[.slice A1 o.ns.length c1, .slice A2 o.ns.length c2] 32)); have B4 := Lib.hid (B3.out.trans (ba.mono B3.out.size)); have HLo := Lib.hid (HL.out _ _ _ ((HO.out.stay b3).stay ba)); have HRf := Lib.hid (hr.stay ba); have HR3 := Lib.hid hr; have hbl := (Blk.new w3 32 [.slice A1 o.ns.length c1, .slice A2 o.ns.length c2]); have d0 := hbl.cell 0; have d1 := hbl.cell 1; have HBL := Lib.hid hbl; clear b3 hr ba hbl)
          | (go_at_call 12; (with_reducible refine HLo.out.mono ?_); rintro e w5 ⟨b5, gA, rfl, hgA, hgA5, hm⟩; have HGA := Lib.hid (And.intro hgA hgA5); have B5 := Lib.hid (B4.out.trans (b5.mono B4.out.size)); have BR := Lib.hid b5; have hbl := HBL.out.stay (b5.block _ HBL.out.lt); have d0 := hbl.cell 0; have d1 := hbl.cell 1; have HQo := Lib.hid (HQ.out _ _ _ (HRf.out.stay b5)); have HA := Lib.hid hm; clear b5 hbl hm hgA hgA5)
          | (go_at_call 13; (with_reducible refine HQo.out.mono ?_); rintro e w6 ⟨b6, js, ms, rfl, hT⟩; obtain ⟨jb, jc, mb, mc, rb, rc, sb, sc, rfl, rfl, g1, g2, hj, hm⟩ := HRW.out _ _ _ _ hT; have HG12 := Lib.hid (And.intro g1 g2); have HTJ := Lib.hid hj; have HTM := Lib.hid hm; have HT := Lib.hid hT; have B6 := Lib.hid (B5.out.trans (b6.mono B5.out.size)); have B56 := Lib.hid b6; have hbl := (HBL.out.stay (BR.out.block _ HBL.out.lt)); have hbl := hbl.stay (b6.block _ hbl.lt); have ba2 := (Below.refl w6.heap.size w6).alloc (Nat.le_refl _) (.cells #[.slice A1 o.ns.length c1, .slice A2 o.ns.length c2, .slice (some ⟨jb, 0, none⟩) o.ns.length jc, .slice (some ⟨mb, 0, none⟩) o.ns.length mc] 40); have hbl2 := hbl.stay (ba2.block _ hbl.lt); have d0 := hbl2.cell 0; have d1 := hbl2.cell 1; have HBA := Lib.hid ba2; have HYB := Lib.hid (Blk.new w6 40 [.slice A1 o.ns.length c1, .slice A2 o.ns.length c2, .slice (some ⟨jb, 0, none⟩) o.ns.length jc, .slice (some ⟨mb, 0, none⟩) o.ns.length mc]); have HA := Lib.hid (HA.out.stay b6); clear b6 hbl hbl2 ba2 hj hm g1 g2 hT)
          | go_in)
        obtain ⟨hgA, hgA5⟩ := HGA.out
        obtain ⟨G7, eG7⟩ : ∃ G7, w6.heap.size = G7 := ⟨_, rfl⟩
        have h56 := B56.out.size
        obtain ⟨W0, eW0⟩ : ∃ W0, w6.alloc (.cells #[.slice A1 o.ns.length c1, .slice A2 o.ns.length c2, .slice (some ⟨jb, 0, none⟩) o.ns.length jc, .slice (some ⟨mb, 0, none⟩) o.ns.length mc] 40) = W0 := ⟨_, rfl⟩
        rw [eW0] at HBA HYB d0 d1
        have HA0 := HA.out.stay HBA.out
        have HT0 := Lib.hid (HT.out.below HBA.out)
        have h5 := BR.out.size
        have hB4 : Below w3.heap.size w3 w5 := ((Below.refl w3.heap.size w3).alloc (Nat.le_refl _) _).trans (BR.out.mono (by simp))
        have hB36 : Below w3.heap.size w3 W0 := (hB4.trans (B56.out.mono hB4.size)).trans (HBA.out.mono (hB4.trans (B56.out.mono hB4.size)).size)
        have HB3W := Lib.hid hB36
        clear hB4 hB36
        have hY := HYB.out
        rw [eG7] at hY h56
        rw [eW0, eG7]
        have h04 : w3.heap.size + 1 ≤ gA := by simpa using hgA
        have h03 : w3.heap.size ≤ gA := by omega
        have hwgA : w.heap.size ≤ gA := Nat.le_trans B3.out.size h03
        have HB0 := Lib.hid (B6.out.trans (HBA.out.mono B6.out.size))
        obtain ⟨XA, HNS⟩ : ∃ XA, Hid (NewsS w3 W0 XA gA og G7 w5.heap.size 0 o (.slice A1 o.ns.length c1) (.slice A2 o.ns.length c2) (.slice (some ⟨jb, 0, none⟩) o.ns.length jc) (.slice (some ⟨mb, 0, none⟩) o.ns.length mc)) := ⟨_, Lib.hid ⟨HA0, HB3W.out, HT0.out, hY, HR3.out, h03, hgA5, by omega⟩⟩
        have HSH := Lib.hid (fun (W : World) (b : Below w.heap.size w W) => hsh.below b)
        clear eW0 HA0 HA HT hY HTJ HTM HG12 HGA HYB HRW HLo HQo HL HQ HRf HO HN1 HR1 eG7 HG hsh
        have HZL := Lib.hid hzl
        go_loopw [21, 22] (fun v i wr => ∃ q : Nat, v = .bool ((z.take q).all (inI o.ns.length)) ∧ i = .int .i64 (q : Int) ∧ q ≤ sn ∧ Hid (Quiet W0 wr)) (fun _ i _ => sn - (intOf i).toNat)
        case atStart => exact ⟨0, rfl, rfl, Nat.zero_le _, Lib.hid (Quiet.refl _)⟩
        case round =>
          obtain ⟨q, rfl, rfl, hq, HQT⟩ := hrel
          obtain ⟨wz, hwz⟩ : ∃ wz, wz = wr := ⟨_, rfl⟩
          subst hwz
          by_cases hlt : q < sn
          · have hbq := HB0.out.trans (HQT.out.below _ |>.mono HB0.out.size)
            obtain ⟨sb', so, u, rfl, hsb, hu, c0⟩ := (HSH.out wz hbq).at hlt
            have hql : q < z.length := by rw [HZL.out]; exact hlt
            obtain ⟨y, hy⟩ : ∃ y, z[q] = y := ⟨_, rfl⟩
            have hu2 : u = .int .i64 y := by
              unfold intz at hu
              rw [List.getElem?_map, List.getElem?_eq_getElem hql, hy] at hu
              cases hu; rfl
            subst hu2
            have HTK := Lib.hid (show (z.take (q + 1)).all (inI o.ns.length) = ((z.take q).all (inI o.ns.length) && inI o.ns.length y) by rw [List.take_add_one, List.getElem?_eq_getElem hql, hy, List.all_append]; simp)
            obtain ⟨bl, hbl⟩ : ∃ bl, (z.take q).all (inI o.ns.length) = bl := ⟨_, rfl⟩
            rw [hbl] at HTK
            rw [hbl]
            have e0 : wz.cell? ⟨w3.heap.size, 0, none⟩ = some (.slice A1 o.ns.length c1) := by
              obtain ⟨nq, rfl⟩ := HQT.out
              exact d0
            clear hbl hy hu hql hbq
            cases bl with
            | false =>
              go_wp2
              go_quiet (fail)
              go_wp2
              go_roundw
              case rel => exact ⟨q + 1, by rw [HTK.out]; rfl, by go_num, hlt, Lib.hid (HQT.out.trans (Quiet.one _ _))⟩
              case measure => simp [intOf]; omega
            | true =>
              by_cases h1 : 0 ≤ y
              · have k1 : decide (0 ≤ y) = true := decide_eq_true h1
                by_cases h2 : y < (o.ns.length : Int)
                · have k2 : decide (y < (o.ns.length : Int)) = true := decide_eq_true h2
                  have HI := Lib.hid (show inI o.ns.length y = true by unfold inI; rw [k1, k2]; rfl)
                  go_wp2
                  go_quiet (fail)
                  go_wp2
                  go_roundw
                  case rel => exact ⟨q + 1, by rw [HTK.out, HI.out]; rfl, by go_num, hlt, Lib.hid (HQT.out.trans (Quiet.one _ _))⟩
                  case measure => simp [intOf]; omega
                · have k2 : decide (y < (o.ns.length : Int)) = false := decide_eq_false h2
                  have HI := Lib.hid (show inI o.ns.length y = false by unfold inI; rw [k1, k2]; rfl)
                  go_wp2
                  go_quiet (fail)
                  go_wp2
                  go_roundw
                  case rel => exact ⟨q + 1, by rw [HTK.out, HI.out]; rfl, by go_num, hlt, Lib.hid (HQT.out.trans (Quiet.one _ _))⟩
                  case measure => simp [intOf]; omega
              · have k1 : decide (0 ≤ y) = false := decide_eq_false h1
                have HI := Lib.hid (show inI o.ns.length y = false by unfold inI; rw [k1]; rfl)
                go_wp2
                go_quiet (fail)
                go_wp2
                go_roundw
                case rel => exact ⟨q + 1, by rw [HTK.out, HI.out]; rfl, by go_num, hlt, Lib.hid (HQT.out.trans (Quiet.one _ _))⟩
                case measure => simp [intOf]; omega
          · have e : q = sn := by omega
            have HT1 := Lib.hid (show z.take q = z from List.take_of_length_le (by rw [HZL.out]; omega))
            rw [HT1.out]
            subst e
            have HNW := Lib.hid (show NewsS w3 wz XA gA og G7 w5.heap.size 0 o (.slice A1 o.ns.length c1) (.slice A2 o.ns.length c2) (.slice (some ⟨jb, 0, none⟩) o.ns.length jc) (.slice (some ⟨mb, 0, none⟩) o.ns.length mc) from HNS.out.below (HQT.out.below _))
            have HBC := Lib.hid (HB0.out.trans ((HQT.out.below _).mono HB0.out.size))
            have HJA := Lib.hid (fun (W : World) (k : Nat) (h : LtAt W XA gA og o true k) (b : Below w.heap.size w W) => ljoinAll_any h H0.out HLT.out w.heap.size SA q scap z (fun w' ho => HSH.out w' (b.trans (ho.below hwgA))) (by omega))
            unfold LtTo at HJA
            cases hall : z.all (inI o.ns.length) with
            | false =>
              have hbad : ∃ a ∈ z, inI o.ns.length a = false := by
                rw [List.all_eq_false] at hall
                obtain ⟨a, ha, hb⟩ := hall
                exact ⟨a, ha, by simpa using hb⟩
              rw [ljf_bad hbad] at HJA
              have HJ1 := Lib.hid (HJA.out wz 0 HNW.out.la HBC.out)
              clear hbad hall
              go_wp2_with (first
                | (go_at_call 23; (with_reducible refine HJ1.out.mono ?_); rintro e w7 ⟨rfl, hm, ho⟩; have HB7 := Lib.hid (HBC.out.trans (ho.below hwgA)); clear hm ho)
                | (go_at_call 9; refine (awake14_any _).mono ?_; rintro e w9 ⟨rfl, b9⟩)
                | go_in)
              go_ret
              exact ⟨rfl, HB7.out.trans (b9.mono HB7.out.size)⟩
            | true =>
              obtain ⟨sN, ez, ei, el, hlt'⟩ := all_in hall
              obtain ⟨bt, hbt, ebt, _, _⟩ := HLT.out.bot H0.out
              have er : ljf (rmost o) o.ns.length z (botI (rmost o) o.ns.length) = (jfold (rmost o) o.ns.length sN bt : Nat) := by rw [ez, ebt]; exact ljf_good HLT.out hbt hlt'
              have HJB := Lib.hid (fun (W : World) (k : Nat) (h : LtAt W XA gA og o true k) (U : Nat) (S : Option Addr) (m cc : Nat) (hs : ∀ w', Only gA W w' → Sh w' U S m (intz (-1 :: z))) (hm : m ≤ 1000000) => (by
                have := ljoinAll_any h H0.out HLT.out U S m cc (-1 :: z) hs hm
                unfold LtTo at this
                rwa [ljf_bad ⟨-1, by simp, by unfold inI; simp⟩] at this : Calls Try.prog 23 #[.pointer (some ⟨gA, 0, none⟩), .slice S m cc] W fun e w' => e = .returned (.int .i64 (-1)) ∧ LtAt w' XA gA og o true k ∧ Only gA W w'))
              have HRJ := Lib.hid (fun (W : World) (v m js ms : Value) (h : LatAt W o v m js ms) (b : Below w.heap.size w W) => (by
                have hsN : sN.length = q := by rw [el, HZL.out]
                have := rjoinAll_any h HLT.out H0.out SA scap sN (by rw [hsN, ← ei]; exact (HSH.out W b).more b.size) hlt' (by omega)
                rwa [hsN, ebt] at this : Calls Try.prog 24 #[.agg #[v, m, js, ms], .slice SA q scap] W fun e w' => e = .returned (.int .i64 (jfold (rmost o) o.ns.length sN ((bt : Int)).toNat : Nat)) ∧ Below W.heap.size W w'))
              simp only [Int.toNat_natCast] at HRJ
              obtain ⟨r, hr⟩ : ∃ r, jfold (rmost o) o.ns.length sN bt = r := ⟨_, rfl⟩
              rw [er, hr] at HJA
              rw [hr] at HRJ
              clear er hr ez ei el hlt' hbt ebt hall
              cases bad with
              | false =>
                go_upto_region 18 with fail
                have HN1 := Lib.hid HNW.out.drew
                have HB1 := Lib.hid (below_drewL HBC.out)
                obtain ⟨q0, q1, q2, q3⟩ := HN1.out.cells
                have HJ1 := Lib.hid (HJA.out _ _ HN1.out.la HB1.out)
                go_region_held3 (fun W => W.cell? ⟨G7, 0, none⟩ = some (.slice A1 o.ns.length c1) ∧ W.cell? ⟨G7, 1, none⟩ = some (.slice A2 o.ns.length c2) ∧ W.cell? ⟨G7, 2, none⟩ = some (.slice (some ⟨jb, 0, none⟩) o.ns.length jc) ∧ W.cell? ⟨G7, 3, none⟩ = some (.slice (some ⟨mb, 0, none⟩) o.ns.length mc)) (((try dsimp only); (repeat' apply And.intro) <;> first | (with_reducible assumption) | go_keep)) (first
                  | (go_at_call 23; (with_reducible refine HJ1.out.mono ?_); rintro e w7 ⟨rfl, hm, ho⟩; have HB1 := Lib.hid (HB1.out.trans (ho.below hwgA)); have HN1 := Lib.hid (HN1.out.only hm ho); clear hm ho; obtain ⟨q0, q1, q2, q3⟩ := HN1.out.cells)
                  | (go_at_call 24; (with_reducible refine (HRJ.out _ _ _ _ _ HN1.out.lat HB1.out).mono ?_); rintro e w7 ⟨rfl, hb⟩; have HB1 := Lib.hid (HB1.out.trans (hb.mono HB1.out.size)); have HN1 := Lib.hid (HN1.out.below hb); clear hb; obtain ⟨q0, q1, q2, q3⟩ := HN1.out.cells)
                  | (go_at_call 9; (with_reducible refine (awake14_any _).mono ?_); rintro e w9 ⟨rfl, b9⟩; have HB1 := Lib.hid (HB1.out.trans (b9.mono HB1.out.size)); have HN1 := Lib.hid (HN1.out.below b9); clear b9; obtain ⟨q0, q1, q2, q3⟩ := HN1.out.cells)
                  | fail)
                go_wp2
                go_ret
                exact ⟨rfl, HB1.out⟩
              | true =>
                have hown : Own (wz.alloc (.cells #[.int .i64 (-1)] 3)) wz.heap.size 3 1 (.slice (some ⟨wz.heap.size, 0, none⟩) 1 1) 1 [.int .i64 (-1)] := Own.mk_ (cur := [.int .i64 (-1)]) (Nat.le_refl _) (heap_alloc_new wz _) (Nat.le_refl _) (by decide) rfl rfl
                have hba : Below wz.heap.size wz (wz.alloc (.cells #[.int .i64 (-1)] 3)) := (Below.refl _ _).alloc (Nat.le_refl _) _
                have HBA2 := Lib.hid (HBC.out.trans (hba.mono HBC.out.size))
                have hshz := HSH.out _ HBA2.out
                have hgwz : gA < wz.heap.size := HNW.out.la.c.lt
                have h1z := intz_one z
                go_upto_region 18 with (first
                  | (at_builtin; refine wpList_more rfl (.tmp 100) (.tmp 101) 44 rfl rowI wz _ wz.heap.size _ 1 [.int .i64 (-1)] (intz z) rfl hown w.heap.size SA q scap rfl hshz h1z hba (by omega) (by omega) ?_; intro v2 w2 ho2 hb2; obtain ⟨A9, c9, rfl⟩ := ho2.form; have HL9 := Lib.hid (HNW.out.below hb2); have HB9 := Lib.hid (HBC.out.trans (hb2.mono HBC.out.size)); have HC9 := Lib.hid (HJB.out w2 0 HL9.out.la w2.heap.size A9 (1 + q) c9 (fun w' ho => by have := (ho2.only ho hgwz).sh; rw [ho.size] at this; exact this) (by omega)))
                  | (go_at_call 23; (with_reducible refine HC9.out.mono ?_); rintro e w7 ⟨rfl, hm, ho⟩; have HBC := Lib.hid (HB9.out.trans (ho.below hwgA)); have HNW := Lib.hid (HL9.out.only hm ho); clear hm ho)
                  | fail)
                have HN1 := Lib.hid HNW.out.drew
                have HB1 := Lib.hid (below_drewL HBC.out)
                obtain ⟨q0, q1, q2, q3⟩ := HN1.out.cells
                have HJ1 := Lib.hid (HJA.out _ _ HN1.out.la HB1.out)
                go_region_held3 (fun W => W.cell? ⟨G7, 0, none⟩ = some (.slice A1 o.ns.length c1) ∧ W.cell? ⟨G7, 1, none⟩ = some (.slice A2 o.ns.length c2) ∧ W.cell? ⟨G7, 2, none⟩ = some (.slice (some ⟨jb, 0, none⟩) o.ns.length jc) ∧ W.cell? ⟨G7, 3, none⟩ = some (.slice (some ⟨mb, 0, none⟩) o.ns.length mc)) (((try dsimp only); (repeat' apply And.intro) <;> first | (with_reducible assumption) | go_keep)) (first
                  | (go_at_call 23; (with_reducible refine HJ1.out.mono ?_); rintro e w7 ⟨rfl, hm, ho⟩; have HB1 := Lib.hid (HB1.out.trans (ho.below hwgA)); have HN1 := Lib.hid (HN1.out.only hm ho); clear hm ho; obtain ⟨q0, q1, q2, q3⟩ := HN1.out.cells)
                  | (go_at_call 24; (with_reducible refine (HRJ.out _ _ _ _ _ HN1.out.lat HB1.out).mono ?_); rintro e w7 ⟨rfl, hb⟩; have HB1 := Lib.hid (HB1.out.trans (hb.mono HB1.out.size)); have HN1 := Lib.hid (HN1.out.below hb); clear hb; obtain ⟨q0, q1, q2, q3⟩ := HN1.out.cells)
                  | (go_at_call 9; (with_reducible refine (awake14_any _).mono ?_); rintro e w9 ⟨rfl, b9⟩; have HB1 := Lib.hid (HB1.out.trans (b9.mono HB1.out.size)); have HN1 := Lib.hid (HN1.out.below b9); clear b9; obtain ⟨q0, q1, q2, q3⟩ := HN1.out.cells)
                  | fail)
                go_wp2
                go_ret
                exact ⟨rfl, HB1.out⟩
      · have HL := Lib.hid (fun (w1 : World) (X : Nat → Prop) (og : Nat) (h : OrdAt w1 X og o) => (lnew_any h osd osa).mono fun e w' h => lnTo_err h hln hx)
        have HQ := Lib.hid (fun (w1 : World) (v m : Value) (h : RefAt w1 o v m) => (rlnew_any h).mono fun e w' h => rlatTo_err h hln hx)
        have hne : ((x : Int) != 0) = true := by simp; exact hx
        clear osd osa HN HR hln hx ho
        go_enter Try.func4, Try.ntmps4
        go_wp2_with (first
          | (go_at_call 8; refine HG.out.mono ?_; rintro e w1 ⟨rfl, b1⟩; have B1 := Lib.hid b1; clear b1)
          | (go_at_call 10; refine (HN1.out _ B1.out).mono ?_; rintro e w2 ⟨b2, og, rfl, hO⟩; have B2 := Lib.hid (B1.out.trans (b2.mono B1.out.size)); have HO := Lib.hid hO; clear b2 hO)
          | (go_at_call 11; refine (HR1.out _ B2.out).mono ?_; rintro e w3 ⟨b3, v, m, rfl, hr⟩; obtain ⟨A1, c1, rfl, _⟩ := hr.nm; obtain ⟨A2, c2, rfl, _⟩ := hr.mt; have B3 := Lib.hid (B2.out.trans (b3.mono B2.out.size)); have ba := ((Below.refl w3.heap.size w3).alloc (Nat.le_refl _) (.cells #[.slice A1 o.ns.length c1, .slice A2 o.ns.length c2] 32)); have B4 := Lib.hid (B3.out.trans (ba.mono B3.out.size)); have HLo := Lib.hid (HL.out _ _ _ ((HO.out.stay b3).stay ba)); have HRf := Lib.hid (hr.stay ba); have hbl := (Blk.new w3 32 [.slice A1 o.ns.length c1, .slice A2 o.ns.length c2]); have d0 := hbl.cell 0; have d1 := hbl.cell 1; have HBL := Lib.hid hbl; clear b3 hr ba hbl)
          | (go_at_call 12; (with_reducible refine HLo.out.mono ?_); rintro e w5 ⟨b5, rfl⟩; have B5 := Lib.hid (B4.out.trans (b5.mono B4.out.size)); have hbl := HBL.out.stay (b5.block _ HBL.out.lt); have d0 := hbl.cell 0; have d1 := hbl.cell 1; have HQo := Lib.hid (HQ.out _ _ _ (HRf.out.stay b5)); clear b5 hbl)
          | (go_at_call 13; (with_reducible refine HQo.out.mono ?_); rintro e w6 ⟨b6, rfl⟩; have B6 := Lib.hid ((B5.out.trans (b6.mono B5.out.size)).alloc (B5.out.trans (b6.mono B5.out.size)).size (.cells #[.slice none 0 0, .slice none 0 0, .slice none 0 0, .slice none 0 0] 40)); clear b6)
          | (go_at_call 9; refine (awake14_any _).mono ?_; rintro e w9 ⟨rfl, b9⟩)
          | go_in)
        go_ret
        exact ⟨rfl, B6.out.trans (b9.mono B6.out.size)⟩
end Go.Proofs.Ytcppmmiblmcagaa

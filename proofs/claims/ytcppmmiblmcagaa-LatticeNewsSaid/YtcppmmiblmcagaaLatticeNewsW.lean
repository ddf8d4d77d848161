/-
  blazonlaw14.LatticeNews is true for every input: any pairs' order makes the lattice that the document says, or is refused with the two at which it fails; joins and meets of any two are its, and what was asked is counted.
  Of more than 12 pairs, or names of more than 100 bytes, it says that the document's examples hold.
-/
import Derived.Test.YtcppmmiblmcagaaLtN
import Derived.BigQuiet
import Derived.Deep.QuietTactic
import Derived.Deep.RegionHeld3
import Derived.Deep.DeepCutAuto
namespace Go.Proofs.Ytcppmmiblmcagaa
set_option linter.unusedVariables false
set_option linter.unusedSimpArgs false
open Go.RowKit Go.Maps

set_option maxRecDepth 100000 in
set_option maxHeartbeats 1600000 in
theorem latticeNews_walk (A : Option Addr) (n c : Nat) (L : List OPa) (a b : Int) (ha : (Lit.int .i64 a).wf = true) (hb : (Lit.int .i64 b).wf = true) (w : World) (hn : n ≤ maxLen) (hL : ShP w w.heap.size A n L) (hs : ∀ t ∈ L, t.1.1.size ≤ maxLen ∧ t.1.2.size ≤ maxLen) (hnc : n ≤ c) :
    Calls Try.prog 3 #[.slice A n c, .int .i64 a, .int .i64 b] w fun e w' => e = .returned (.bool true) ∧ Below w.heap.size w w' := by
  have HG := Lib.hid (ogreat_any A n c 12 L w hL hn (by decide) hs)
  cases hg : oGreat (L.map (·.1)) 12 with
  | true =>
    rw [hg] at HG
    clear hg hL hs
    go_enter Try.func3, Try.ntmps3
    go_wp2_with (first
      | (go_at_call 8; refine HG.out.mono ?_; rintro e w1 ⟨rfl, b1⟩; have B1 := Lib.hid b1; clear b1)
      | (go_at_call 9; refine (awake14_any _).mono ?_; rintro e w9 ⟨rfl, b9⟩)
      | go_in)
    go_ret
    exact ⟨rfl, B1.out.trans (b9.mono B1.out.size)⟩
  | false =>
    rw [hg] at HG
    have HN := Lib.hid (fun (w1 : World) (b : Below w.heap.size w w1) => onew_any A n c L w1 (hL.up b) hn hs)
    have hg2 := oGreat_no hg
    have hn12 : n ≤ 12 := by have := hg2.1; rw [List.length_map, hL.len] at this; exact this
    have HR := Lib.hid (fun (w1 : World) (b : Below w.heap.size w w1) => rnew_any A n c L w1 (hL.up b) (by omega) hnc (fun t ht => by have := hg2.2 t.1 (List.mem_map_of_mem ht); omega))
    clear hg hg2 hs hL
    cases ho : (newO (L.map (·.1))).1 with
    | none =>
      have hz : ¬ (newO (L.map (·.1))).2.2 = 0 := fun e => by
        obtain ⟨o, ho'⟩ := newO_nat.1 e
        rw [ho] at ho'
        cases ho'
      have hne : (((newO (L.map (·.1))).2.2 : Int) != 0) = true := by simp; exact hz
      have HN1 := Lib.hid (fun (w1 : World) (b : Below w.heap.size w w1) => (HN.out w1 b).mono fun e w' h => newTo_none h ho)
      have HR1 := Lib.hid (fun (w1 : World) (b : Below w.heap.size w w1) => (HR.out w1 b).mono fun e w' h => RnewTo.none h ho)
      obtain ⟨R, hR⟩ : ∃ R, (newO (L.map (·.1))).2.1 = R := ⟨_, rfl⟩
      obtain ⟨E, hE⟩ : ∃ E, (newO (L.map (·.1))).2.2 = E := ⟨_, rfl⟩
      rw [hR, hE] at HN1 HR1
      rw [hE] at hne
      clear hz hR hE ho HN HR
      go_enter Try.func3, Try.ntmps3
      go_wp2_with (first
        | (go_at_call 8; refine HG.out.mono ?_; rintro e w1 ⟨rfl, b1⟩; have B1 := Lib.hid b1; clear b1)
        | (go_at_call 10; refine (HN1.out _ B1.out).mono ?_; rintro e w2 ⟨b2, rfl⟩; have B2 := Lib.hid (B1.out.trans (b2.mono B1.out.size)); clear b2)
        | (go_at_call 11; refine (HR1.out _ B2.out).mono ?_; rintro e w3 ⟨b3, rfl⟩; have B3 := Lib.hid (B2.out.trans (b3.mono B2.out.size)); clear b3)
        | (go_at_call 9; refine (awake14_any _).mono ?_; rintro e w9 ⟨rfl, b9⟩)
        | go_in)
      go_ret
      have B3' := B3.out.alloc B3.out.size (.cells #[.slice none 0 0, .slice none 0 0] 32)
      exact ⟨rfl, B3'.trans (b9.mono B3'.size)⟩
    | some o =>
      have osd := newO_osd ho
      have osa := newO_osa ho
      have HN1 := Lib.hid (fun (w1 : World) (b : Below w.heap.size w w1) => (HN.out w1 b).mono fun e w' h => newTo_some h ho)
      have HR1 := Lib.hid (fun (w1 : World) (b : Below w.heap.size w w1) => (HR.out w1 b).mono fun e w' h => RnewTo.some h ho)
      obtain ⟨i, j, x, hln⟩ := lnew_ex (n := o.ns.length) (F := rmost o) osd.pord
      by_cases hx : x = 0
      · subst hx
        obtain ⟨h0, hLt⟩ : 0 < o.ns.length ∧ Lat o.ns.length (rmost o) (jn (rmost o) o.ns.length) (mn (rmost o) o.ns.length) := (hln.zero_iff osd.pord).1 rfl
        have hln0 := hln.zero
        have hl64 := osd.wf.len
        have HL := Lib.hid (fun (w1 : World) (X : Nat → Prop) (og : Nat) (h : OrdAt w1 X og o) => (lnew_any h osd osa).mono fun e w' h => lnTo_is2 h hln0)
        have HQ := Lib.hid (fun (w1 : World) (v m : Value) (h : RefAt w1 o v m) => (rlnew_any h).mono fun e w' h => rlatTo_is h hln0)
        have HJ := Lib.hid (fun w1 X g og k h hk => @ljoin_pub w1 X g og k o h hk)
        have HM := Lib.hid (fun w1 X g og k h hk => @lmeet_pub w1 X g og k o h hk)
        unfold LtTo at HJ HM
        have HRW := Lib.hid (fun (w1 : World) (B : Nat) (js ms : Value) (h : TabsOwn w1 B o js ms) => h.rows h0)
        have H0 := Lib.hid h0
        have HLT := Lib.hid hLt
        clear osa HN HR hln hln0 ho hLt h0
        have HOSD := Lib.hid osd
        clear osd
        go_enter Try.func3, Try.ntmps3
        go_wp2_with (first
          | (go_at_call 8; refine HG.out.mono ?_; rintro e w1 ⟨rfl, b1⟩; have B1 := Lib.hid b1; clear b1)
          | (go_at_call 10; refine (HN1.out _ B1.out).mono ?_; rintro e w2 ⟨b2, og, rfl, hO⟩; have B2 := Lib.hid (B1.out.trans (b2.mono B1.out.size)); have HO := Lib.hid hO; clear b2 hO)
          | (go_at_call 11; refine (HR1.out _ B2.out).mono ?_; rintro e w3 ⟨b3, v, m, rfl, hr⟩; obtain ⟨A1, c1, rfl, _⟩ := hr.nm; obtain ⟨A2, c2, rfl, _⟩ := hr.mt; have B3 := Lib.hid (B2.out.trans (b3.mono B2.out.size)); have ba := ((Below.refl w3.heap.size w3).alloc (Nat.le_refl _) (.cells #[.slice A1 o.ns.length c1, .slice A2 o.ns.length c2] 32)); have B4 := Lib.hid (B3.out.trans (ba.mono B3.out.size)); have HLo := Lib.hid (HL.out _ _ _ ((HO.out.stay b3).stay ba)); have HRf := Lib.hid (hr.stay ba); have HR3 := Lib.hid hr; have hbl := (Blk.new w3 32 [.slice A1 o.ns.length c1, .slice A2 o.ns.length c2]); have d0 := hbl.cell 0; have d1 := hbl.cell 1; have HBL := Lib.hid hbl; clear b3 hr ba hbl)
          | (go_at_call 12; (with_reducible refine HLo.out.mono ?_); rintro e w5 ⟨b5, gA, rfl, hgA, hgA5, hm⟩; have HGA := Lib.hid (And.intro hgA hgA5); have B5 := Lib.hid (B4.out.trans (b5.mono B4.out.size)); have BR := Lib.hid b5; have hbl := HBL.out.stay (b5.block _ HBL.out.lt); have d0 := hbl.cell 0; have d1 := hbl.cell 1; have HQo := Lib.hid (HQ.out _ _ _ (HRf.out.stay b5)); have HA := Lib.hid hm; clear b5 hbl hm hgA hgA5)
          | (go_at_call 13; (with_reducible refine HQo.out.mono ?_); rintro e w6 ⟨b6, js, ms, rfl, hT⟩; obtain ⟨jb, jc, mb, mc, rb, rc, sb, sc, rfl, rfl, g1, g2, hj, hm⟩ := HRW.out _ _ _ _ hT; have HG12 := Lib.hid (And.intro g1 g2); have HTJ := Lib.hid hj; have HTM := Lib.hid hm; have HT := Lib.hid hT; have B6 := Lib.hid (B5.out.trans (b6.mono B5.out.size)); have B56 := Lib.hid b6; have hbl := (HBL.out.stay (BR.out.block _ HBL.out.lt)); have hbl := hbl.stay (b6.block _ hbl.lt); have ba2 := (Below.refl w6.heap.size w6).alloc (Nat.le_refl _) (.cells #[.slice A1 o.ns.length c1, .slice A2 o.ns.length c2, .slice (some ⟨jb, 0, none⟩) o.ns.length jc, .slice (some ⟨mb, 0, none⟩) o.ns.length mc] 40); have hbl2 := hbl.stay (ba2.block _ hbl.lt); have d0 := hbl2.cell 0; have d1 := hbl2.cell 1; have HBA := Lib.hid ba2; have HYB := Lib.hid (Blk.new w6 40 [.slice A1 o.ns.length c1, .slice A2 o.ns.length c2, .slice (some ⟨jb, 0, none⟩) o.ns.length jc, .slice (some ⟨mb, 0, none⟩) o.ns.length mc]); have HA := Lib.hid (HA.out.stay b6); clear b6 hbl hbl2 ba2 hj hm g1 g2 hT)
          | go_in)
        obtain ⟨hgA, hgA5⟩ := HGA.out
        obtain ⟨G7, eG7⟩ : ∃ G7, w6.heap.size = G7 := ⟨_, rfl⟩
        have h56 := B56.out.size
        obtain ⟨W0, eW0⟩ : ∃ W0, w6.alloc (.cells #[.slice A1 o.ns.length c1, .slice A2 o.ns.length c2, .slice (some ⟨jb, 0, none⟩) o.ns.length jc, .slice (some ⟨mb, 0, none⟩) o.ns.length mc] 40) = W0 := ⟨_, rfl⟩
        rw [eW0] at HBA HYB d0 d1
        have HA0 := HA.out.stay HBA.out
        have HT0 := Lib.hid (HT.out.below HBA.out)
        have h5 := BR.out.size
        have hB4 : Below w3.heap.size w3 w5 := ((Below.refl w3.heap.size w3).alloc (Nat.le_refl _) _).trans (BR.out.mono (by simp))
        have hB36 : Below w3.heap.size w3 W0 := (hB4.trans (B56.out.mono hB4.size)).trans (HBA.out.mono (hB4.trans (B56.out.mono hB4.size)).size)
        have HB3W := Lib.hid hB36
        clear hB4 hB36
        have hY := HYB.out
        rw [eG7] at hY h56
        rw [eW0, eG7]
        have HKS : Hid (∀ W, Only gA W0 W → ∀ x y, x < o.ns.length → y < o.ns.length → (W.cell? ⟨G7, 2, none⟩ = some (.slice (some ⟨jb, 0, none⟩) o.ns.length jc) ∧ W.cell? ⟨G7, 3, none⟩ = some (.slice (some ⟨mb, 0, none⟩) o.ns.length mc) ∧ W.cell? ⟨jb, x, none⟩ = some (.slice (some ⟨rb x, 0, none⟩) o.ns.length (rc x)) ∧ W.cell? ⟨rb x, y, none⟩ = some (.int .i64 (rjoinI (rmost o) o.ns.length x y)) ∧ W.cell? ⟨mb, x, none⟩ = some (.slice (some ⟨sb x, 0, none⟩) o.ns.length (sc x)) ∧ W.cell? ⟨sb x, y, none⟩ = some (.int .i64 (rjoinI (oflip (rmost o)) o.ns.length x y)))) := Lib.hid fun W ho x y hx hy => by
          obtain ⟨j1, j2, j3⟩ := HTJ.out x hx
          obtain ⟨m1, m2, m3⟩ := HTM.out x hx
          have up : ∀ (p : Addr) (u : Value), w5.heap.size ≤ p.block → w6.cell? p = some u → W.cell? p = some u := fun p u hp hc => by
            have hlt := World.block_lt_of_cell? _ _ hc
            rw [ho.cell (by omega), HBA.out.cell hlt]
            exact hc
          refine ⟨?_, ?_, up _ _ HG12.out.1 j2, up _ _ j1 (j3 y hy), up _ _ HG12.out.2 m2, up _ _ m1 (m3 y hy)⟩
          · rw [ho.cell (by simp only; omega), hY.cell]; rfl
          · rw [ho.cell (by simp only; omega), hY.cell]; rfl
        have HY := Lib.hid hY
        have HJN := Lib.hid (fun x y hx hy => ltJ_nat (F := rmost o) (n := o.ns.length) (a := x) (b := y) hx hy)
        have HMN := Lib.hid (fun x y hx hy => ltJ_nat (F := oflip (rmost o)) (n := o.ns.length) (a := x) (b := y) hx hy)
        have h04 : w3.heap.size + 1 ≤ gA := by simpa using hgA
        have h03 : w3.heap.size ≤ gA := by omega
        have hwgA : w.heap.size ≤ gA := Nat.le_trans B3.out.size h03
        have HB0 := Lib.hid (B6.out.trans (HBA.out.mono B6.out.size))
        obtain ⟨XA, HAX, HNS⟩ : ∃ XA, Hid (LtAt W0 XA gA og o true 0) ∧ Hid (NewsS w3 W0 XA gA og G7 w5.heap.size 0 o (.slice A1 o.ns.length c1) (.slice A2 o.ns.length c2) (.slice (some ⟨jb, 0, none⟩) o.ns.length jc) (.slice (some ⟨mb, 0, none⟩) o.ns.length mc)) := ⟨_, Lib.hid HA0, Lib.hid ⟨HA0, HB3W.out, HT0.out, hY, HR3.out, h03, hgA5, by omega⟩⟩
        clear eW0 HA0 HA HT hY HTJ HTM HG12 HGA HYB HRW HLo HQo HL HQ HRf HO HN1 HR1 eG7 HG
        go_loopw [22] (fun i wr => ∃ s k : Nat, i = .int .i64 (s : Int) ∧ s ≤ o.ns.length ∧ Hid (k = 2 * (s * o.ns.length + 0)) ∧ Hid (LtAt wr XA gA og o true k) ∧ Hid (Only gA W0 wr)) (fun i _ => o.ns.length - (intOf i).toNat)
        case atStart => exact ⟨0, 0, rfl, Nat.zero_le _, Lib.hid (by omega), HAX, Lib.hid (Only.refl _ _)⟩
        case round =>
          obtain ⟨s, k, rfl, hs, HK, HA, HON⟩ := hrel
          obtain ⟨wz, hwz⟩ : ∃ wz, wz = wr := ⟨_, rfl⟩
          subst hwz
          by_cases hlts : s < o.ns.length
          · go_wp2
            go_loopw [23] (fun i wr => ∃ t k : Nat, i = .int .i64 (t : Int) ∧ t ≤ o.ns.length ∧ Hid (k = 2 * (s * o.ns.length + t)) ∧ Hid (LtAt wr XA gA og o true k) ∧ Hid (Only gA W0 wr)) (fun i _ => o.ns.length - (intOf i).toNat)
            case atStart => exact ⟨0, k, rfl, Nat.zero_le _, HK, HA, HON⟩
            case round =>
              obtain ⟨t, k2, rfl, ht, HK2, HA2, HON2⟩ := hrel
              obtain ⟨wy, hwy⟩ : ∃ wy, wy = wr := ⟨_, rfl⟩
              subst hwy
              by_cases hltt : t < o.ns.length
              · have hkb := news_bound HK2.out (by omega) (by omega) hl64
                have HKx := Lib.hid (fun W ho => HKS.out W ho s t hlts hltt)
                have C1 := Lib.hid (HJ.out wy.drew XA gA og k2 (HA2.out.quiet (Quiet.one _ 1)) (by omega) (s : Int) (t : Int))
                have C2 := Lib.hid (fun W (h : LtAt W XA gA og o true (k2 + 1)) => HM.out W XA gA og (k2 + 1) h (by omega) (s : Int) (t : Int))
                rw [HJN.out s t hlts hltt] at C1
                rw [HMN.out s t hlts hltt] at C2
                obtain ⟨v, hv⟩ : ∃ v, rjoinI (rmost o) o.ns.length s t = v := ⟨_, rfl⟩
                obtain ⟨v', hv'⟩ : ∃ v', rjoinI (oflip (rmost o)) o.ns.length s t = v' := ⟨_, rfl⟩
                obtain ⟨R1, hR1⟩ : ∃ R, rb s = R := ⟨_, rfl⟩
                obtain ⟨R2, hR2⟩ : ∃ R, rc s = R := ⟨_, rfl⟩
                obtain ⟨S1, hS1⟩ : ∃ R, sb s = R := ⟨_, rfl⟩
                obtain ⟨S2, hS2⟩ : ∃ R, sc s = R := ⟨_, rfl⟩
                rw [hv] at C1
                rw [hv'] at C2
                rw [hv, hv', hR1, hR2, hS1, hS2] at HKx
                have HO1 := Lib.hid (HON2.out.drew)
                clear hv hv' hR1 hR2 hS1 hS2
                have hvv : (v != v) = false := by simp
                have hvv' : (v' != v') = false := by simp
                go_wp2_with fail
                obtain ⟨q0, q1, q2, q3, q4, q5⟩ := HKx.out _ HO1.out
                go_region_held3 (fun W => W.cell? ⟨G7, 2, none⟩ = some (.slice (some ⟨jb, 0, none⟩) o.ns.length jc) ∧ W.cell? ⟨G7, 3, none⟩ = some (.slice (some ⟨mb, 0, none⟩) o.ns.length mc) ∧ W.cell? ⟨jb, s, none⟩ = some (.slice (some ⟨R1, 0, none⟩) o.ns.length R2) ∧ W.cell? ⟨R1, t, none⟩ = some (.int .i64 v) ∧ W.cell? ⟨mb, s, none⟩ = some (.slice (some ⟨S1, 0, none⟩) o.ns.length S2) ∧ W.cell? ⟨S1, t, none⟩ = some (.int .i64 v')) (((try dsimp only); (repeat' apply And.intro) <;> first | (with_reducible assumption) | go_keep)) (first
                  | (go_at_call 14; (with_reducible refine C1.out.mono ?_); rintro e w7 ⟨rfl, hm, ho⟩; have HA3 := Lib.hid hm; have HO1 := Lib.hid (HO1.out.trans ho); clear hm ho; obtain ⟨q0, q1, q2, q3, q4, q5⟩ := HKx.out _ HO1.out)
                  | (go_at_call 15; (with_reducible refine (C2.out _ HA3.out).mono ?_); rintro e w8 ⟨rfl, hm, ho⟩; have HA4 := Lib.hid hm; have HO1 := Lib.hid (HO1.out.trans ho); clear hm ho; obtain ⟨q0, q1, q2, q3, q4, q5⟩ := HKx.out _ HO1.out)
                  | fail)
                go_wp2
                go_roundw
                case rel => exact ⟨t + 1, k2 + 1 + 1, by go_num, hltt, Lib.hid (by rw [HK2.out]; omega), HA4, HO1⟩
                case measure => simp [intOf]; omega
              · obtain e : t = o.ns.length := by omega
                have HK3 := Lib.hid (show k2 = 2 * ((s + 1) * o.ns.length + 0) by have h1 := HK2.out; have h2 := Nat.succ_mul s o.ns.length; rw [e] at h1; rw [Nat.succ_eq_add_one] at h2; omega)
                subst e
                go_wp2
                go_roundw
                case rel => exact ⟨s + 1, k2, by go_num, hlts, HK3, HA2, HON2⟩
                case measure => simp [intOf]; omega
          · have e : s = o.ns.length := by omega
            have HK3 := Lib.hid (show (k : Int) = 2 * (o.ns.length : Int) * (o.ns.length : Int) by rw [HK.out, e, Nat.add_zero, Int.mul_assoc, Int.natCast_mul, Int.natCast_mul]; rfl)
            have hkb := news_bound HK.out (by omega) (by omega) hl64
            subst e
            have hww : (2 * (o.ns.length : Int) * (o.ns.length : Int)) ≤ 1000000 := by rw [← HK3.out]; omega
            have hwx : 0 ≤ (2 * (o.ns.length : Int) * (o.ns.length : Int)) := by rw [← HK3.out]; omega
            have hwr : IntKind.i64.wrap (2 * (o.ns.length : Int) * (o.ns.length : Int)) = 2 * (o.ns.length : Int) * (o.ns.length : Int) := IntWalk.i64_in _ (by omega)
            obtain ⟨inB, hin⟩ : ∃ z, (inI o.ns.length a && inI o.ns.length b) = z := ⟨_, rfl⟩
            have HIN := Lib.hid hin
            go_upto_region 22 with fail
            go_cut [24] from 128 to 143 (fun s wx => s = .bool inB ∧ wx = wz)
            case first =>
              by_cases h1 : 0 ≤ a
              · have d1 : decide (0 ≤ a) = true := decide_eq_true h1
                by_cases h2 : 0 ≤ b
                · have d2 : decide (0 ≤ b) = true := decide_eq_true h2
                  by_cases h3 : a < (o.ns.length : Int)
                  · have d3 : decide (a < (o.ns.length : Int)) = true := decide_eq_true h3
                    by_cases h4 : b < (o.ns.length : Int)
                    · have d4 : decide (b < (o.ns.length : Int)) = true := decide_eq_true h4
                      go_wp2
                      go_meet
                      exact ⟨congrArg Value.bool (by rw [← HIN.out]; unfold inI; simp [h1, h2, h3, h4]), rfl⟩
                    · have d4 : decide (b < (o.ns.length : Int)) = false := decide_eq_false h4
                      go_wp2
                      go_meet
                      exact ⟨congrArg Value.bool (by rw [← HIN.out]; unfold inI; simp [h4] <;> omega), rfl⟩
                  · have d3 : decide (a < (o.ns.length : Int)) = false := decide_eq_false h3
                    go_wp2
                    go_meet
                    exact ⟨congrArg Value.bool (by rw [← HIN.out]; unfold inI; simp [h3] <;> omega), rfl⟩
                · have d2 : decide (0 ≤ b) = false := decide_eq_false h2
                  go_wp2
                  go_meet
                  exact ⟨congrArg Value.bool (by rw [← HIN.out]; unfold inI; simp [h2] <;> omega), rfl⟩
              · have d1 : decide (0 ≤ a) = false := decide_eq_false h1
                go_wp2
                go_meet
                exact ⟨congrArg Value.bool (by rw [← HIN.out]; unfold inI; simp [h1] <;> omega), rfl⟩
            case rest =>
              obtain ⟨rfl, rfl⟩ := hcut
              have HNW := Lib.hid (HNS.out.only HA.out HON.out)
              have HBC := Lib.hid (HB0.out.trans (HON.out.below hwgA))
              have HBot := Lib.hid (fun (w1 : World) (X : Nat → Prop) (g og k : Nat) (h : LtAt w1 X g og o true k) => lbot_pub h H0.out HLT.out)
              have HTop := Lib.hid (fun (w1 : World) (X : Nat → Prop) (g og k : Nat) (h : LtAt w1 X g og o true k) => ltop_pub h H0.out HLT.out)
              unfold LtTo at HBot HTop
              obtain ⟨P, hP⟩ : ∃ P : Int, 2 * (o.ns.length : Int) * (o.ns.length : Int) = P := ⟨_, rfl⟩
              rw [hP] at HK3 hww hwx
              obtain ⟨bt, hbt⟩ : ∃ z, botI (rmost o) o.ns.length = z := ⟨_, rfl⟩
              obtain ⟨tp, htp⟩ : ∃ z, botI (oflip (rmost o)) o.ns.length = z := ⟨_, rfl⟩
              have HRB := Lib.hid (fun (w1 : World) (v m js ms : Value) (h : LatAt w1 o v m js ms) => (show Calls Try.prog 20 #[.agg #[v, m, js, ms]] w1 fun e w' => e = .returned (.int .i64 (botI (rmost o) o.ns.length)) ∧ Below w1.heap.size w1 w' from rbottom_any h))
              have HRT := Lib.hid (fun (w1 : World) (v m js ms : Value) (h : LatAt w1 o v m js ms) => (show Calls Try.prog 22 #[.agg #[v, m, js, ms]] w1 fun e w' => e = .returned (.int .i64 (botI (oflip (rmost o)) o.ns.length)) ∧ Below w1.heap.size w1 w' from rtop_any h))
              rw [hbt] at HBot HRB
              rw [htp] at HTop HRT
              clear hbt htp hwr HJN HMN HKS HY HT0 HB3W HB0 HAX d0 d1
              cases inB with
              | true =>
                go_upto_region 28 with (first
                  | (go_at_call 16; (with_reducible refine (lorder_any HA.out).mono ?_); rintro e w7 ⟨rfl, rfl⟩)
                  | (go_at_call 17; (with_reducible refine (olen_any HA.out.c.ord).mono ?_); rintro e w7 ⟨rfl, rfl⟩)
                  | fail)
                have HN1 := Lib.hid HNW.out.drew
                have HB1 := Lib.hid (below_drewL HBC.out)
                obtain ⟨q0, q1, q2, q3⟩ := HN1.out.cells
                go_region_held3 (fun W => W.cell? ⟨G7, 0, none⟩ = some (.slice A1 o.ns.length c1) ∧ W.cell? ⟨G7, 1, none⟩ = some (.slice A2 o.ns.length c2) ∧ W.cell? ⟨G7, 2, none⟩ = some (.slice (some ⟨jb, 0, none⟩) o.ns.length jc) ∧ W.cell? ⟨G7, 3, none⟩ = some (.slice (some ⟨mb, 0, none⟩) o.ns.length mc)) (((try dsimp only); (repeat' apply And.intro) <;> first | (with_reducible assumption) | go_keep)) (first
                  | (go_at_call 18; (with_reducible refine (lasked_any HN1.out.la).mono ?_); rintro e w7 ⟨rfl, rfl⟩; rw [HK3.out])
                  | (go_at_call 19; (with_reducible refine (HBot.out _ _ _ _ _ HN1.out.la).mono ?_); rintro e w7 ⟨rfl, hm, ho⟩; have HB1 := Lib.hid (HB1.out.trans (ho.below hwgA)); have HN1 := Lib.hid (HN1.out.only hm ho); clear hm ho; obtain ⟨q0, q1, q2, q3⟩ := HN1.out.cells)
                  | (go_at_call 21; (with_reducible refine (HTop.out _ _ _ _ _ HN1.out.la).mono ?_); rintro e w7 ⟨rfl, hm, ho⟩; have HB1 := Lib.hid (HB1.out.trans (ho.below hwgA)); have HN1 := Lib.hid (HN1.out.only hm ho); clear hm ho; obtain ⟨q0, q1, q2, q3⟩ := HN1.out.cells)
                  | (go_at_call 20; (with_reducible refine (HRB.out _ _ _ _ _ HN1.out.lat).mono ?_); rintro e w7 ⟨rfl, hb⟩; have HB1 := Lib.hid (HB1.out.trans (hb.mono HB1.out.size)); have HN1 := Lib.hid (HN1.out.below hb); clear hb; obtain ⟨q0, q1, q2, q3⟩ := HN1.out.cells)
                  | (go_at_call 22; (with_reducible refine (HRT.out _ _ _ _ _ HN1.out.lat).mono ?_); rintro e w7 ⟨rfl, hb⟩; have HB1 := Lib.hid (HB1.out.trans (hb.mono HB1.out.size)); have HN1 := Lib.hid (HN1.out.below hb); clear hb; obtain ⟨q0, q1, q2, q3⟩ := HN1.out.cells)
                  | (go_at_call 9; (with_reducible refine (awake14_any _).mono ?_); rintro e w9 ⟨rfl, b9⟩; have HB1 := Lib.hid (HB1.out.trans (b9.mono HB1.out.size)); have HN1 := Lib.hid (HN1.out.below b9); clear b9; obtain ⟨q0, q1, q2, q3⟩ := HN1.out.cells)
                  | fail)
                go_wp2
                go_ret
                exact ⟨rfl, HB1.out⟩
              | false =>
                have HOut := Lib.hid (show (inI o.ns.length a = false ∨ inI o.ns.length b = false) from (by
                  have := HIN.out
                  cases h1 : inI o.ns.length a
                  · exact .inl rfl
                  · rw [h1, Bool.true_and] at this; exact .inr this))
                have D1 := Lib.hid (by have := HJ.out wc XA gA og k HA.out (by omega) a b; rwa [ltJ_out HOut.out] at this : Calls Try.prog 14 #[.pointer (some ⟨gA, 0, none⟩), .int .i64 a, .int .i64 b] wc fun e w' => e = .returned (.int .i64 (-1)) ∧ LtAt w' XA gA og o true (k + 1) ∧ Only gA wc w')
                have D2 := Lib.hid (fun (w1 : World) (h : LtAt w1 XA gA og o true (k + 1)) => (by have := HM.out w1 XA gA og (k + 1) h (by omega) a b; rwa [ltJ_out HOut.out] at this : Calls Try.prog 15 #[.pointer (some ⟨gA, 0, none⟩), .int .i64 a, .int .i64 b] w1 fun e w' => e = .returned (.int .i64 (-1)) ∧ LtAt w' XA gA og o true (k + 1 + 1) ∧ Only gA w1 w'))
                have HK4 := Lib.hid (show ((k + 1 + 1 : Nat) : Int) = P + 2 by rw [← HK3.out]; omega)
                go_upto_region 28 with (first
                  | (go_at_call 14; (with_reducible refine D1.out.mono ?_); rintro e w7 ⟨rfl, hm, ho⟩; have D3 := Lib.hid (D2.out _ hm); have HBC := Lib.hid (HBC.out.trans (ho.below hwgA)); have HNW := Lib.hid (HNW.out.only hm ho); clear hm ho)
                  | (go_at_call 15; (with_reducible refine D3.out.mono ?_); rintro e w8 ⟨rfl, hm, ho⟩; have HBC := Lib.hid (HBC.out.trans (ho.below hwgA)); have HNW := Lib.hid (HNW.out.only hm ho); clear hm ho)
                  | (go_at_call 16; (with_reducible refine (lorder_any HNW.out.la).mono ?_); rintro e w9 ⟨rfl, rfl⟩)
                  | (go_at_call 17; (with_reducible refine (olen_any HNW.out.la.c.ord).mono ?_); rintro e w9 ⟨rfl, rfl⟩)
                  | fail)
                have HN1 := Lib.hid HNW.out.drew
                have HB1 := Lib.hid (below_drewL HBC.out)
                obtain ⟨q0, q1, q2, q3⟩ := HN1.out.cells
                go_region_held3 (fun W => W.cell? ⟨G7, 0, none⟩ = some (.slice A1 o.ns.length c1) ∧ W.cell? ⟨G7, 1, none⟩ = some (.slice A2 o.ns.length c2) ∧ W.cell? ⟨G7, 2, none⟩ = some (.slice (some ⟨jb, 0, none⟩) o.ns.length jc) ∧ W.cell? ⟨G7, 3, none⟩ = some (.slice (some ⟨mb, 0, none⟩) o.ns.length mc)) (((try dsimp only); (repeat' apply And.intro) <;> first | (with_reducible assumption) | go_keep)) (first
                  | (go_at_call 18; (with_reducible refine (lasked_any HN1.out.la).mono ?_); rintro e w7 ⟨rfl, rfl⟩; rw [HK4.out])
                  | (go_at_call 19; (with_reducible refine (HBot.out _ _ _ _ _ HN1.out.la).mono ?_); rintro e w7 ⟨rfl, hm, ho⟩; have HB1 := Lib.hid (HB1.out.trans (ho.below hwgA)); have HN1 := Lib.hid (HN1.out.only hm ho); clear hm ho; obtain ⟨q0, q1, q2, q3⟩ := HN1.out.cells)
                  | (go_at_call 21; (with_reducible refine (HTop.out _ _ _ _ _ HN1.out.la).mono ?_); rintro e w7 ⟨rfl, hm, ho⟩; have HB1 := Lib.hid (HB1.out.trans (ho.below hwgA)); have HN1 := Lib.hid (HN1.out.only hm ho); clear hm ho; obtain ⟨q0, q1, q2, q3⟩ := HN1.out.cells)
                  | (go_at_call 20; (with_reducible refine (HRB.out _ _ _ _ _ HN1.out.lat).mono ?_); rintro e w7 ⟨rfl, hb⟩; have HB1 := Lib.hid (HB1.out.trans (hb.mono HB1.out.size)); have HN1 := Lib.hid (HN1.out.below hb); clear hb; obtain ⟨q0, q1, q2, q3⟩ := HN1.out.cells)
                  | (go_at_call 22; (with_reducible refine (HRT.out _ _ _ _ _ HN1.out.lat).mono ?_); rintro e w7 ⟨rfl, hb⟩; have HB1 := Lib.hid (HB1.out.trans (hb.mono HB1.out.size)); have HN1 := Lib.hid (HN1.out.below hb); clear hb; obtain ⟨q0, q1, q2, q3⟩ := HN1.out.cells)
                  | (go_at_call 9; (with_reducible refine (awake14_any _).mono ?_); rintro e w9 ⟨rfl, b9⟩; have HB1 := Lib.hid (HB1.out.trans (b9.mono HB1.out.size)); have HN1 := Lib.hid (HN1.out.below b9); clear b9; obtain ⟨q0, q1, q2, q3⟩ := HN1.out.cells)
                  | fail)
                go_wp2
                go_ret
                exact ⟨rfl, HB1.out⟩
      · have HL := Lib.hid (fun (w1 : World) (X : Nat → Prop) (og : Nat) (h : OrdAt w1 X og o) => (lnew_any h osd osa).mono fun e w' h => lnTo_err h hln hx)
        have HQ := Lib.hid (fun (w1 : World) (v m : Value) (h : RefAt w1 o v m) => (rlnew_any h).mono fun e w' h => rlatTo_err h hln hx)
        have hne : ((x : Int) != 0) = true := by simp; exact hx
        clear osd osa HN HR hln hx ho
        go_enter Try.func3, Try.ntmps3
        go_wp2_with (first
          | (go_at_call 8; refine HG.out.mono ?_; rintro e w1 ⟨rfl, b1⟩; have B1 := Lib.hid b1; clear b1)
          | (go_at_call 10; refine (HN1.out _ B1.out).mono ?_; rintro e w2 ⟨b2, og, rfl, hO⟩; have B2 := Lib.hid (B1.out.trans (b2.mono B1.out.size)); have HO := Lib.hid hO; clear b2 hO)
          | (go_at_call 11; refine (HR1.out _ B2.out).mono ?_; rintro e w3 ⟨b3, v, m, rfl, hr⟩; obtain ⟨A1, c1, rfl, _⟩ := hr.nm; obtain ⟨A2, c2, rfl, _⟩ := hr.mt; have B3 := Lib.hid (B2.out.trans (b3.mono B2.out.size)); have ba := ((Below.refl w3.heap.size w3).alloc (Nat.le_refl _) (.cells #[.slice A1 o.ns.length c1, .slice A2 o.ns.length c2] 32)); have B4 := Lib.hid (B3.out.trans (ba.mono B3.out.size)); have HLo := Lib.hid (HL.out _ _ _ ((HO.out.stay b3).stay ba)); have HRf := Lib.hid (hr.stay ba); have hbl := (Blk.new w3 32 [.slice A1 o.ns.length c1, .slice A2 o.ns.length c2]); have d0 := hbl.cell 0; have d1 := hbl.cell 1; have HBL := Lib.hid hbl; clear b3 hr ba hbl)
          | (go_at_call 12; (with_reducible refine HLo.out.mono ?_); rintro e w5 ⟨b5, rfl⟩; have B5 := Lib.hid (B4.out.trans (b5.mono B4.out.size)); have hbl := HBL.out.stay (b5.block _ HBL.out.lt); have d0 := hbl.cell 0; have d1 := hbl.cell 1; have HQo := Lib.hid (HQ.out _ _ _ (HRf.out.stay b5)); clear b5 hbl)
          | (go_at_call 13; (with_reducible refine HQo.out.mono ?_); rintro e w6 ⟨b6, rfl⟩; have B6 := Lib.hid (B5.out.trans (b6.mono B5.out.size)); clear b6)
          | (go_at_call 9; refine (awake14_any _).mono ?_; rintro e w9 ⟨rfl, b9⟩)
          | go_in)
        go_ret
        have B6' := B6.out.alloc B6.out.size (.cells #[.slice none 0 0, .slice none 0 0, .slice none 0 0, .slice none 0 0] 40)
        exact ⟨rfl, B6'.trans (b9.mono B6'.size)⟩
end Go.Proofs.Ytcppmmiblmcagaa

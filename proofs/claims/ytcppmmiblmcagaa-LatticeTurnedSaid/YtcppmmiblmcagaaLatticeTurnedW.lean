/-
  blazonlaw14.LatticeTurned is true for every input: a lattice the other way about is one: its joins are the meets, its bottom is the top.
  Of more than 12 pairs, or names of more than 100 bytes, it says that the document's examples hold.
-/
import Derived.Test.YtcppmmiblmcagaaLtH
import Derived.Test.YtcppmmiblmcagaaOrderTurnedW
import Derived.BigQuiet
import Derived.Deep.QuietTactic
namespace Go.Proofs.Ytcppmmiblmcagaa
set_option linter.unusedVariables false
set_option linter.unusedSimpArgs false
open Go.RowKit Go.Maps

set_option maxRecDepth 100000 in
set_option maxHeartbeats 1600000 in
theorem latticeTurned_walk (A : Option Addr) (n c : Nat) (L : List OPa) (b1 b2 : Int) (hb1 : (Lit.int .u8 b1).wf = true) (hb2 : (Lit.int .u8 b2).wf = true) (w : World) (hn : n ≤ maxLen) (hL : ShP w w.heap.size A n L) (hs : ∀ t ∈ L, t.1.1.size ≤ maxLen ∧ t.1.2.size ≤ maxLen) :
    Calls Try.prog 7 #[.slice A n c, .int .u8 b1, .int .u8 b2] w fun e w' => e = .returned (.bool true) ∧ Below w.heap.size w w' := by
  obtain ⟨hb10, hb11⟩ := bounds_u8 hb1
  obtain ⟨hb20, hb21⟩ := bounds_u8 hb2
  have HG := Lib.hid (ogreat_any A n c 12 L w hL hn (by decide) hs)
  cases hg : oGreat (L.map (·.1)) 12 with
  | true =>
    rw [hg] at HG
    clear hg
    go_enter Try.func7, Try.ntmps7
    go_wp2_with (first
      | (go_at_call 8; refine HG.out.mono ?_; rintro e w1 ⟨rfl, b1⟩; have B1 := Lib.hid b1; clear b1)
      | (go_at_call 9; refine (awake14_any _).mono ?_; rintro e w2 ⟨rfl, b2⟩)
      | go_in)
    go_ret
    exact ⟨rfl, B1.out.trans (b2.mono B1.out.size)⟩
  | false =>
    rw [hg] at HG
    have hn40 : n ≤ 12 := by have := (oGreat_no hg).1; rw [List.length_map, hL.len] at this; exact this
    clear hg
    have hzp := zeroPair
    have HLn := Lib.hid hL.len
    have HS := Lib.hid hs
    have HLL := Lib.hid hL
    go_enter Try.func7, Try.ntmps7
    go_wp2_with (first
      | (go_at_call 8; refine HG.out.mono ?_; rintro e w1 ⟨rfl, b1⟩; have B1 := Lib.hid b1; clear b1)
      | go_in)
    go_loopw [7, 8] (fun v i wr => ∃ k : Nat, i = .int .i64 (k : Int) ∧ k ≤ n ∧ Hid (Own wr w.heap.size 53 3 v k (prcs ((L.take k).map opturn))) ∧ Hid (Below w.heap.size w wr)) (fun _ i _ => n - (intOf i).toNat)
    case atStart => exact ⟨0, rfl, Nat.zero_le _, Lib.hid (Own.nil _ _ _ _ B1.out.size), B1⟩
    case round =>
      obtain ⟨k, rfl, hk, HV, HB⟩ := hrel
      obtain ⟨wa, hwa⟩ : ∃ wa, wa = wr := ⟨_, rfl⟩
      subst hwa
      by_cases hlt : k < n
      · obtain ⟨b, off, t, rfl, hb, hget, hdr, c0, c1, c2⟩ := (hL.below HB.out).at hlt
        obtain ⟨⟨lo, hi⟩, at_⟩ := t
        dsimp only at c0 c1 c2
        have htk : (L.take (k + 1)).map opturn = (L.take k).map opturn ++ [opturn ((lo, hi), at_)] := by
          rw [List.take_add_one, hget, List.map_append]
          rfl
        have HTK := Lib.hid htk
        have hown := HV.out
        clear htk hget hdr hL
        by_cases h0 : hi.size = 0
        · have hz : (hi.toList == []) = true := by rw [toList_nil]; simpa using h0
          have HE := Lib.hid (show opturn ((lo, hi), at_) = ((lo, hi), at_) by unfold opturn; rw [if_pos h0])
          have hb1 := Lib.hid (HB.out.trans ((Below.refl w.heap.size wa).alloc HB.out.size (.cells #[.string lo, .string hi, .int .i64 at_] 53)))
          go_wp2_with (first
            | (at_builtin; refine Hid.out ?_)
            | go_in)
          refine Lib.hid ?_
          refine wpList_push rfl (.tmp 52) (.tmp 54) 22 rfl rowP w _ w.heap.size _ k _ [.string lo, .string hi, .int .i64 at_] rfl (hown.alloc _) (by simp [Act.eval]) rfl (by intro u hu; simp at hu; rcases hu with rfl | rfl | rfl <;> rfl) hb1.out (by omega) (by omega) ?_
          intro v2 w2 ho2 hb2
          go_wp2
          refine ⟨⟨k + 1, by go_num, hlt, ?_, Lib.hid hb2⟩, by simp [intOf]; omega⟩
          rw [HTK.out, HE.out, prcs_snoc]
          exact Lib.hid ho2
        · have hz : (hi.toList == []) = false := by rw [toList_nil]; simpa using h0
          have HE := Lib.hid (show opturn ((lo, hi), at_) = ((hi, lo), 0) by unfold opturn; rw [if_neg h0])
          have hb1 := Lib.hid (HB.out.trans ((Below.refl w.heap.size wa).alloc HB.out.size (.cells #[.string hi, .string lo, .int .i64 0] 53)))
          go_wp2_with (first
            | (at_builtin; refine Hid.out ?_)
            | go_in)
          refine Lib.hid ?_
          refine wpList_push rfl (.tmp 52) (.tmp 54) 22 rfl rowP w _ w.heap.size _ k _ [.string hi, .string lo, .int .i64 0] rfl (hown.alloc _) (by simp [Act.eval]) rfl (by intro u hu; simp at hu; rcases hu with rfl | rfl | rfl <;> rfl) hb1.out (by omega) (by omega) ?_
          intro v2 w2 ho2 hb2
          go_wp2
          refine ⟨⟨k + 1, by go_num, hlt, ?_, Lib.hid hb2⟩, by simp [intOf]; omega⟩
          rw [HTK.out, HE.out, prcs_snoc]
          exact Lib.hid ho2
      · obtain rfl : k = n := by omega
        have hV := HV.out
        rw [List.take_of_length_le (by rw [HLn.out]; exact Nat.le_refl _)] at hV
        obtain ⟨A3, c3, rfl⟩ := hV.form
        have HV3 := Lib.hid hV
        have hN1 := onew_any A k c L wa (by
          have := hL.below HB.out
          exact ⟨this.1, fun hn => by
            obtain ⟨bb, off, e, hB, hc⟩ := this.2 hn
            exact ⟨bb, off, e, Nat.lt_of_lt_of_le hB HB.out.size, hc⟩⟩) hn HS.out
        have hN2 := fun (w2 : World) (b2 : Below wa.heap.size wa w2) => onew_any A3 k c3 (L.map opturn) w2 (ShP.of_own (HV3.out.below b2) (by rw [List.length_map]; exact HLn.out)) hn (opturn_size HS.out)
        simp only [opturn_map] at hN2
        have hleft := newO_left (l := L.map (·.1))
        have hboth := turned_both (l := L.map (·.1))
        have hxnat := newO_nat (l := L.map (·.1))
        have hynat := newO_nat (l := (L.map (·.1)).map oturn)
        obtain ⟨lx, hlx⟩ : ∃ lx, L.map (·.1) = lx := ⟨_, rfl⟩
        rw [hlx] at hN1 hN2 hleft hboth hxnat hynat
        have HXR := Lib.hid (fun o (h : (newO lx).1 = some o) => hxnat.2 ⟨o, h⟩)
        have HX0 := Lib.hid (show (newO lx).1 = none → ¬ (newO lx).2.2 = 0 from fun h e => by obtain ⟨o, ho⟩ := hxnat.1 e; rw [h] at ho; cases ho)
        have HY0 := Lib.hid (show (newO (lx.map oturn)).1 = none → ¬ (newO (lx.map oturn)).2.2 = 0 from fun h e => by obtain ⟨o, ho⟩ := hynat.1 e; rw [h] at ho; cases ho)
        clear hxnat hynat hlx HV hV HS
        cases hx : (newO lx).1 with
        | none =>
          have hex := HX0.out hx
          have H1 := Lib.hid (hN1.mono fun e w' h => newTo_none h hx)
          obtain ⟨R1, hR1⟩ : ∃ R, (newO lx).2.1 = R := ⟨_, rfl⟩
          obtain ⟨E1, hE1⟩ : ∃ R, (newO lx).2.2 = R := ⟨_, rfl⟩
          rw [hR1, hE1] at H1
          rw [hE1] at hex
          have hne1 : ((E1 : Int) != 0) = true := by simp; exact hex
          cases hy : (newO (lx.map oturn)).1 with
          | none =>
            have H2 := Lib.hid (fun (w2 : World) (b2 : Below wa.heap.size wa w2) => (hN2 w2 b2).mono fun e w' h => newTo_none h hy)
            clear hN1 hN2 hleft hboth hx hy hR1 hE1 hex HXR HX0 HY0
            go_wp2_with (first
              | (go_at_call 10; with_reducible refine H1.out.mono ?_; rintro e w2 ⟨b2, rfl⟩; have B2 := Lib.hid b2; have H2' := Lib.hid (H2.out _ b2); clear b2)
              | (go_at_call 10; with_reducible refine H2'.out.mono ?_; rintro e w3 ⟨b3, rfl⟩; have B3 := Lib.hid (B2.out.trans (b3.mono B2.out.size)); clear b3)
              | (go_at_call 12; (with_reducible refine (lnew_nil _).mono ?_); rintro e w4 ⟨rfl, rfl⟩)
              | (go_at_call 9; refine (awake14_any _).mono ?_; rintro e w9 ⟨rfl, b9⟩)
              | go_in)
            go_ret
            exact ⟨rfl, (HB.out.trans (B3.out.mono HB.out.size)).trans (b9.mono (HB.out.trans (B3.out.mono HB.out.size)).size)⟩
          | some y =>
            have osd := newO_osd hy
            have osa := newO_osa hy
            have H2 := Lib.hid (fun (w2 : World) (b2 : Below wa.heap.size wa w2) => (hN2 w2 b2).mono fun e w' h => newTo_some h hy)
            have HL := Lib.hid (fun (w1 : World) (X : Nat → Prop) (og : Nat) (h : OrdAt w1 X og y) => (lnew_any h osd osa).mono fun e w' h => lnTo_any h)
            clear hN1 hN2 hleft hboth hx hy hR1 hE1 hex HXR HX0 HY0 osd osa
            go_wp2_with (first
              | (go_at_call 10; with_reducible refine H1.out.mono ?_; rintro e w2 ⟨b2, rfl⟩; have B2 := Lib.hid b2; have H2' := Lib.hid (H2.out _ b2); clear b2)
              | (go_at_call 10; with_reducible refine H2'.out.mono ?_; rintro e w3 ⟨b3, og, rfl, hO⟩; have B3 := Lib.hid (B2.out.trans (b3.mono B2.out.size)); have HLo := Lib.hid (HL.out _ _ _ hO); clear b3 hO)
              | (go_at_call 12; (with_reducible refine (lnew_nil _).mono ?_); rintro e w4 ⟨rfl, rfl⟩)
              | (go_at_call 12; (with_reducible refine HLo.out.mono ?_); rintro e w5 ⟨b5, pv, i5, j5, k5, rfl⟩; have B5 := Lib.hid (B3.out.trans (b5.mono B3.out.size)); clear b5)
              | (go_at_call 9; refine (awake14_any _).mono ?_; rintro e w9 ⟨rfl, b9⟩)
              | go_in)
            go_ret
            exact ⟨rfl, (HB.out.trans (B5.out.mono HB.out.size)).trans (b9.mono (HB.out.trans (B5.out.mono HB.out.size)).size)⟩
        | some x =>
          have hne : ∀ p ∈ lx, p.1.size ≠ 0 := Classical.byContradiction fun h => by
            have := hleft h
            have := HXR.out x hx
            omega
          cases hy : (newO (lx.map oturn)).1 with
          | none =>
            exact absurd ((hboth hne).1.1 (HXR.out x hx)) (HY0.out hy)
          | some y =>
            have H1 := Lib.hid (hN1.mono fun e w' h => newTo_some h hx)
            have H2 := Lib.hid (fun (w2 : World) (b2 : Below wa.heap.size wa w2) => (hN2 w2 b2).mono fun e w' h => newTo_some h hy)
            have osdx := newO_osd hx
            have osax := newO_osa hx
            have osdy := newO_osd hy
            have osay := newO_osa hy
            obtain ⟨i1, j1, e1, hl1⟩ := lnew_ex (n := x.ns.length) (F := rmost x) osdx.pord
            obtain ⟨i2, j2, e2, hl2⟩ := lnew_ex (n := y.ns.length) (F := rmost y) osdy.pord
            obtain ⟨heq, hlat⟩ := lat_turned hne hx hy hl1 hl2
            subst heq
            by_cases he0 : e1 = 0
            · subst he0
              obtain ⟨h0, hLx, hLy⟩ := hlat rfl
              have hl10 := hl1.zero
              have hl20 := hl2.zero
              have hLx : Lat x.ns.length (rmost x) (jn (rmost x) x.ns.length) (mn (rmost x) x.ns.length) := hLx
              have hLy : Lat y.ns.length (rmost y) (jn (rmost y) y.ns.length) (mn (rmost y) y.ns.length) := hLy
              have hll := (turned_iso hne hx hy).1
              have h0y : 0 < y.ns.length := hll ▸ h0
              have HL1 := Lib.hid (fun (w1 : World) (X : Nat → Prop) (og : Nat) (h : OrdAt w1 X og x) => (lnew_any h osdx osax).mono fun e w' h => lnTo_is h hl10)
              have HL2 := Lib.hid (fun (w1 : World) (X : Nat → Prop) (og : Nat) (h : OrdAt w1 X og y) => (lnew_any h osdy osay).mono fun e w' h => lnTo_is h hl20)
              obtain ⟨m1, rfl⟩ : ∃ m1 : Nat, b1 = m1 := ⟨b1.toNat, by omega⟩
              obtain ⟨m2, rfl⟩ : ∃ m2 : Nat, b2 = m2 := ⟨b2.toNat, by omega⟩
              obtain ⟨nn, hnn⟩ : ∃ nn, x.ns.length = nn := ⟨_, rfl⟩
              obtain ⟨a, ha⟩ : ∃ a, m1 % nn = a := ⟨_, rfl⟩
              obtain ⟨b, hb⟩ : ∃ b, m2 % nn = b := ⟨_, rfl⟩
              have hal : a < x.ns.length := by rw [hnn, ← ha]; exact Nat.mod_lt _ (by omega)
              have hbl : b < x.ns.length := by rw [hnn, ← hb]; exact Nat.mod_lt _ (by omega)
              have rx : ((m1 : Int) % (nn : Int)) = (a : Int) := by rw [← ha]; rfl
              have ry : ((m2 : Int) % (nn : Int)) = (b : Int) := by rw [← hb]; rfl
              obtain ⟨s, hs, hm, hj, tp, htl, etp, ebt⟩ := turned_el hne hx hy h0 hLx hal hbl
              obtain ⟨p, hp⟩ : ∃ p, jn (rmost x) x.ns.length a b = p := ⟨_, rfl⟩
              obtain ⟨q, hq⟩ : ∃ q, mn (rmost x) x.ns.length a b = q := ⟨_, rfl⟩
              have pl : p < x.ns.length := hp ▸ hLx.jl hal hbl
              have ql : q < x.ns.length := hq ▸ hLx.ml hal hbl
              rw [hp] at hm
              rw [hq] at hj
              obtain ⟨fa1, fa2, fa3, _⟩ := hs a hal
              obtain ⟨fb1, fb2, fb3, _⟩ := hs b hbl
              obtain ⟨_, fp2, _, fp4⟩ := hs p pl
              obtain ⟨_, fq2, _, fq4⟩ := hs q ql
              obtain ⟨_, ft2, _, ft4⟩ := hs tp htl
              obtain ⟨sa, hsa⟩ : ∃ v, s a = v := ⟨_, rfl⟩
              obtain ⟨sb, hsb⟩ : ∃ v, s b = v := ⟨_, rfl⟩
              obtain ⟨sp, hsp⟩ : ∃ v, s p = v := ⟨_, rfl⟩
              obtain ⟨sq, hsq⟩ : ∃ v, s q = v := ⟨_, rfl⟩
              obtain ⟨st, hst⟩ : ∃ v, s tp = v := ⟨_, rfl⟩
              rw [hsa, hsb, hsp] at hm
              rw [hsa, hsb, hsq] at hj
              rw [hst] at ebt ft2 ft4
              rw [hsa] at fa1 fa2
              rw [hsb] at fb1 fb2
              rw [hsp] at fp2 fp4
              rw [hsq] at fq2 fq4
              obtain ⟨na, hna⟩ : ∃ v, x.ns.getD a ⟨#[]⟩ = v := ⟨_, rfl⟩
              obtain ⟨nb, hnb⟩ : ∃ v, x.ns.getD b ⟨#[]⟩ = v := ⟨_, rfl⟩
              obtain ⟨np, hnp⟩ : ∃ v, x.ns.getD p ⟨#[]⟩ = v := ⟨_, rfl⟩
              obtain ⟨nq, hnq⟩ : ∃ v, x.ns.getD q ⟨#[]⟩ = v := ⟨_, rfl⟩
              obtain ⟨nt, hnt⟩ : ∃ v, x.ns.getD tp ⟨#[]⟩ = v := ⟨_, rfl⟩
              rw [hna] at fa1 fa3
              rw [hnb] at fb1 fb3
              rw [hnp] at fp4
              rw [hnq] at fq4
              rw [hnt] at ft4
              have NA1 := Lib.hid (fun w1 X g h => @oname_el w1 X g x h a hal na hna)
              have NA2 := Lib.hid (fun w1 X g h => @oname_el w1 X g x h b hbl nb hnb)
              have NA3 := Lib.hid (fun w1 X g h => @oname_el w1 X g x h p pl np hnp)
              have NA4 := Lib.hid (fun w1 X g h => @oname_el w1 X g x h q ql nq hnq)
              have NA5 := Lib.hid (fun w1 X g h => @oname_el w1 X g x h tp htl nt hnt)
              have NB1 := Lib.hid (fun w1 X g h => @oname_el w1 X g y h sp fp2 np fp4)
              have NB2 := Lib.hid (fun w1 X g h => @oname_el w1 X g y h sq fq2 nq fq4)
              have NB3 := Lib.hid (fun w1 X g h => @oname_el w1 X g y h st ft2 nt ft4)
              have FB1 := Lib.hid (fun w1 X g h => @ofind_el w1 X g y h na fa3 sa fa1)
              have FB2 := Lib.hid (fun w1 X g h => @ofind_el w1 X g y h nb fb3 sb fb1)
              have JA := Lib.hid (fun w1 X g og k h hk => @ljoin_el w1 X g og k x hLx a b p hal hbl hp h hk)
              have MA := Lib.hid (fun w1 X g og k h hk => @lmeet_el w1 X g og k x hLx a b q hal hbl hq h hk)
              have JB := Lib.hid (fun w1 X g og k h hk => @ljoin_el w1 X g og k y hLy sa sb sq fa2 fb2 hj h hk)
              have MB := Lib.hid (fun w1 X g og k h hk => @lmeet_el w1 X g og k y hLy sa sb sp fa2 fb2 hm h hk)
              have HTop := Lib.hid (fun (w1 : World) (X : Nat → Prop) (g og k : Nat) (h : LtAt w1 X g og x true k) => ltop_pub h h0 hLx)
              rw [etp] at HTop
              have HBot := Lib.hid (fun (w1 : World) (X : Nat → Prop) (g og k : Nat) (h : LtAt w1 X g og y true k) => lbot_pub h h0y hLy)
              rw [ebt] at HBot
              have HLen := Lib.hid (fun (w1 : World) (X : Nat → Prop) (og : Nat) (h : OrdAt w1 X og x) => olen_any h)
              rw [hnn] at HLen
              have hnz : ((nn : Int) == 0) = false := by rw [beq_eq_false_iff_ne]; omega
              have hnz2 : (nn : Int) ≠ 0 := by omega
              have hn64 : nn ≤ 64 := by rw [← hnn]; exact osdx.wf.len
              unfold LtTo at HTop HBot JA MA JB MB
              clear hN1 hN2 hleft hboth hx hy hne osdx osax osdy osay hl1 hl2 hl10 hl20 hlat HXR HX0 HY0 h0 h0y hLx hLy hll ha hb hal hbl hs hm hj htl etp ebt hp hq pl ql fa1 fa2 fa3 fb1 fb2 fb3 fp2 fp4 fq2 fq4 ft2 ft4 hsa hsb hsp hsq hst hna hnb hnp hnq hnt hnn hb1 hb2
              go_wp2_with (first
                | (go_at_call 10; with_reducible refine H1.out.mono ?_; rintro e w2 ⟨b2, g1, rfl, hO⟩; have B2 := Lib.hid b2; have O1 := Lib.hid hO; have H2' := Lib.hid (H2.out _ b2); clear b2 hO)
                | (go_at_call 10; with_reducible refine H2'.out.mono ?_; rintro e w3 ⟨b3, g2, rfl, hO⟩; have B3 := Lib.hid (B2.out.trans (b3.mono B2.out.size)); have O2 := Lib.hid hO; have HLo := Lib.hid (HL1.out _ _ _ (O1.out.stay b3)); clear b3 hO)
                | (go_at_call 12; (with_reducible refine HLo.out.mono ?_); rintro e w4 ⟨b4, rfl, hm⟩; have B4 := Lib.hid (B3.out.trans (b4.mono B3.out.size)); have HA := Lib.hid hm; have HLp := Lib.hid (HL2.out _ _ _ (O2.out.wide b4)); clear b4 hm)
                | (go_at_call 12; (with_reducible refine HLp.out.mono ?_); rintro e w5 ⟨b5, rfl, hm⟩; have HC := Lib.hid (B4.out.trans (b5.mono B4.out.size)); have HM := Lib.hid hm; have HW := Lib.hid (HA.out.wide b5); have HLn := Lib.hid (HLen.out _ _ _ HW.out.c.ord); clear b5 hm)
                | (go_at_call 17; (with_reducible refine HLn.out.mono ?_); rintro e w6 ⟨rfl, rfl⟩)
                | go_in)
              go_quiet (fail)
              rw [rx, ry]
              have hgA := B3.out.size
              have hgB := B4.out.size
              have hlt3 := HA.out.c.lt
              have hlt4 := HM.out.c.lt
              obtain ⟨XA, hXA, HW⟩ : ∃ XA : Nat → Prop, XA w4.heap.size ∧ Hid (LtAt (w5.drewN nq) XA w3.heap.size g1 x true 0) := ⟨_, .inr ⟨Nat.le_refl _, hlt4⟩, Lib.hid (HW.out.quiet (Quiet.one _ nq))⟩
              obtain ⟨XB, hXB, HM⟩ : ∃ XB : Nat → Prop, XB w3.heap.size ∧ Hid (LtAt (w5.drewN nq) XB w4.heap.size g2 y true 0) := ⟨_, .inl (.inr ⟨Nat.le_refl _, hlt3⟩), Lib.hid (HM.out.quiet (Quiet.one _ nq))⟩
              have HC := Lib.hid (HC.out.trans ((Quiet.one w5 nq).below _))
              obtain ⟨gA, egA⟩ : ∃ gA, w3.heap.size = gA := ⟨_, rfl⟩
              obtain ⟨gB, egB⟩ : ∃ gB, w4.heap.size = gB := ⟨_, rfl⟩
              obtain ⟨w6, hw6⟩ : ∃ w6, w5.drewN nq = w6 := ⟨_, rfl⟩
              rw [egA] at hXB HW hgA hlt3
              rw [egB] at hXA HM hgB hlt3
              rw [hw6] at HW HM HC
              rw [egA, egB, hw6]
              have hne1 : gA ≠ gB := by omega
              have hne2 : gB ≠ gA := by omega
              clear hw6 egA egB HLn HLo HLp HA B2 B3 B4 O1 O2 H1 H2 H2' rx ry hlt3 hlt4
              go_wp2_with (first
                | (go_at_call 27; (first | with_reducible refine (NA1.out _ _ _ HW.out.c.ord).mono ?_ | with_reducible refine (NA2.out _ _ _ HW.out.c.ord).mono ?_ | with_reducible refine (NA3.out _ _ _ HW.out.c.ord).mono ?_ | with_reducible refine (NA4.out _ _ _ HW.out.c.ord).mono ?_ | with_reducible refine (NA5.out _ _ _ HW.out.c.ord).mono ?_ | with_reducible refine (NB1.out _ _ _ HM.out.c.ord).mono ?_ | with_reducible refine (NB2.out _ _ _ HM.out.c.ord).mono ?_ | with_reducible refine (NB3.out _ _ _ HM.out.c.ord).mono ?_); rintro e w7 ⟨rfl, rfl⟩)
                | (go_at_call 26; (first | with_reducible refine (FB1.out _ _ _ HM.out.c.ord).mono ?_ | with_reducible refine (FB2.out _ _ _ HM.out.c.ord).mono ?_); rintro e w7 ⟨rfl, rfl⟩)
                | (go_at_call 14; (with_reducible refine (JA.out _ _ _ _ _ HW.out (by omega)).mono ?_); rintro e w7 ⟨rfl, hm, ho⟩; have HM := Lib.hid (HM.out.only ho hXB hne2); have HC := Lib.hid (HC.out.trans ((ho.below hgA).mono (Nat.le_refl _))); have HW := Lib.hid hm; clear hm ho)
                | (go_at_call 14; (with_reducible refine (JB.out _ _ _ _ _ HM.out (by omega)).mono ?_); rintro e w7 ⟨rfl, hm, ho⟩; have HW := Lib.hid (HW.out.only ho hXA hne1); have HC := Lib.hid (HC.out.trans ((ho.below hgB).mono (Nat.le_refl _))); have HM := Lib.hid hm; clear hm ho)
                | (go_at_call 15; (with_reducible refine (MA.out _ _ _ _ _ HW.out (by omega)).mono ?_); rintro e w7 ⟨rfl, hm, ho⟩; have HM := Lib.hid (HM.out.only ho hXB hne2); have HC := Lib.hid (HC.out.trans ((ho.below hgA).mono (Nat.le_refl _))); have HW := Lib.hid hm; clear hm ho)
                | (go_at_call 15; (with_reducible refine (MB.out _ _ _ _ _ HM.out (by omega)).mono ?_); rintro e w7 ⟨rfl, hm, ho⟩; have HW := Lib.hid (HW.out.only ho hXA hne1); have HC := Lib.hid (HC.out.trans ((ho.below hgB).mono (Nat.le_refl _))); have HM := Lib.hid hm; clear hm ho)
                | (go_at_call 21; (with_reducible refine (HTop.out _ _ _ _ _ HW.out).mono ?_); rintro e w7 ⟨rfl, hm, ho⟩; have HM := Lib.hid (HM.out.only ho hXB hne2); have HC := Lib.hid (HC.out.trans ((ho.below hgA).mono (Nat.le_refl _))); have HW := Lib.hid hm; clear hm ho)
                | (go_at_call 19; (with_reducible refine (HBot.out _ _ _ _ _ HM.out).mono ?_); rintro e w7 ⟨rfl, hm, ho⟩; have HW := Lib.hid (HW.out.only ho hXA hne1); have HC := Lib.hid (HC.out.trans ((ho.below hgB).mono (Nat.le_refl _))); have HM := Lib.hid hm; clear hm ho)
                | (go_at_call 9; refine (awake14_any _).mono ?_; rintro e w9 ⟨rfl, b9⟩)
                | go_in)
              go_ret
              exact ⟨rfl, (HB.out.trans (HC.out.mono HB.out.size)).trans (b9.mono (HB.out.trans (HC.out.mono HB.out.size)).size)⟩
            · have HL1 := Lib.hid (fun (w1 : World) (X : Nat → Prop) (og : Nat) (h : OrdAt w1 X og x) => (lnew_any h osdx osax).mono fun e w' h => lnTo_err h hl1 he0)
              have HL2 := Lib.hid (fun (w1 : World) (X : Nat → Prop) (og : Nat) (h : OrdAt w1 X og y) => (lnew_any h osdy osay).mono fun e w' h => lnTo_err h hl2 he0)
              have hk : ((e1 : Int) == 1) = true ∨ (((e1 : Int) == 1) = false ∧ ((e1 : Int) != 0) = true) := by
                by_cases h1 : e1 = 1
                · exact .inl (by simp [h1])
                · exact .inr ⟨by rw [beq_eq_false_iff_ne]; omega, by simp; omega⟩
              clear hN1 hN2 hleft hboth hx hy hne osdx osax osdy osay hl1 hl2 hlat he0 HXR HX0 HY0
              rcases hk with d1 | ⟨d1, d2⟩
              all_goals
                go_wp2_with (first
                  | (go_at_call 10; with_reducible refine H1.out.mono ?_; rintro e w2 ⟨b2, g1, rfl, hO⟩; have B2 := Lib.hid b2; have O1 := Lib.hid hO; have H2' := Lib.hid (H2.out _ b2); clear b2 hO)
                  | (go_at_call 10; with_reducible refine H2'.out.mono ?_; rintro e w3 ⟨b3, g2, rfl, hO⟩; have B3 := Lib.hid (B2.out.trans (b3.mono B2.out.size)); have O2 := Lib.hid hO; have HLo := Lib.hid (HL1.out _ _ _ (O1.out.stay b3)); clear b3 hO)
                  | (go_at_call 12; (with_reducible refine HLo.out.mono ?_); rintro e w4 ⟨b4, rfl⟩; have B4 := Lib.hid (B3.out.trans (b4.mono B3.out.size)); have HLp := Lib.hid (HL2.out _ _ _ (O2.out.stay b4)); clear b4)
                  | (go_at_call 12; (with_reducible refine HLp.out.mono ?_); rintro e w5 ⟨b5, rfl⟩; have B5 := Lib.hid (B4.out.trans (b5.mono B4.out.size)); clear b5)
                  | (go_at_call 9; refine (awake14_any _).mono ?_; rintro e w9 ⟨rfl, b9⟩)
                  | go_in)
                go_ret
                exact ⟨rfl, (HB.out.trans (B5.out.mono HB.out.size)).trans (b9.mono (HB.out.trans (B5.out.mono HB.out.size)).size)⟩
end Go.Proofs.Ytcppmmiblmcagaa

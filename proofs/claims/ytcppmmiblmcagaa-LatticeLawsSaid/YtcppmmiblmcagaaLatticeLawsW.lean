/-
  blazonlaw14.LatticeLaws is true for every input: of any three elements, joins and meets don't hang on the order of two, nor on brackets, absorb, and spread; one is at most another one just if their join is that.
  Of more than 12 pairs, or names of more than 100 bytes, it says that the document's examples hold.
-/
import Derived.Test.YtcppmmiblmcagaaLtH
import Derived.BigQuiet
import Derived.Deep.QuietTactic
namespace Go.Proofs.Ytcppmmiblmcagaa
set_option linter.unusedVariables false
set_option linter.unusedSimpArgs false
open Go.RowKit Go.Maps

set_option maxRecDepth 100000 in
set_option maxHeartbeats 1600000 in
theorem latticeLaws_walk (A : Option Addr) (n c : Nat) (L : List OPa) (a b d : Int) (ha : (Lit.int .u8 a).wf = true) (hb : (Lit.int .u8 b).wf = true) (hd : (Lit.int .u8 d).wf = true) (w : World) (hn : n ≤ maxLen) (hL : ShP w w.heap.size A n L) (hs : ∀ t ∈ L, t.1.1.size ≤ maxLen ∧ t.1.2.size ≤ maxLen) :
    Calls Try.prog 5 #[.slice A n c, .int .u8 a, .int .u8 b, .int .u8 d] w fun e w' => e = .returned (.bool true) ∧ Below w.heap.size w w' := by
  obtain ⟨ha0, ha1⟩ := bounds_u8 ha
  obtain ⟨hb0, hb1⟩ := bounds_u8 hb
  obtain ⟨hd0, hd1⟩ := bounds_u8 hd
  have HG := Lib.hid (ogreat_any A n c 12 L w hL hn (by decide) hs)
  cases hg : oGreat (L.map (·.1)) 12 with
  | true =>
    rw [hg] at HG
    clear hg hL hs
    go_enter Try.func5, Try.ntmps5
    go_wp2_with (first
      | (go_at_call 8; refine HG.out.mono ?_; rintro e w1 ⟨rfl, b1⟩; have B1 := Lib.hid b1; clear b1)
      | (go_at_call 9; refine (awake14_any _).mono ?_; rintro e w2 ⟨rfl, b2⟩)
      | go_in)
    go_ret
    exact ⟨rfl, B1.out.trans (b2.mono B1.out.size)⟩
  | false =>
    rw [hg] at HG
    have HN := Lib.hid (fun (w1 : World) (b : Below w.heap.size w w1) => onew_any A n c L w1 (hL.up b) hn hs)
    clear hg hs hL
    cases ho : (newO (L.map (·.1))).1 with
    | none =>
      have hz : ¬ (newO (L.map (·.1))).2.2 = 0 := fun e => by
        obtain ⟨o, ho'⟩ := newO_nat.1 e
        rw [ho] at ho'
        cases ho'
      have hne : (((newO (L.map (·.1))).2.2 : Int) != 0) = true := by simp; exact hz
      have HN1 := Lib.hid (fun (w1 : World) (b : Below w.heap.size w w1) => (HN.out w1 b).mono fun e w' h => newTo_none h ho)
      obtain ⟨R, hR⟩ : ∃ R, (newO (L.map (·.1))).2.1 = R := ⟨_, rfl⟩
      obtain ⟨E, hE⟩ : ∃ E, (newO (L.map (·.1))).2.2 = E := ⟨_, rfl⟩
      rw [hR, hE] at HN1
      rw [hE] at hne
      clear hz hR hE ho HN
      go_enter Try.func5, Try.ntmps5
      go_wp2_with (first
        | (go_at_call 8; refine HG.out.mono ?_; rintro e w1 ⟨rfl, b1⟩; have B1 := Lib.hid b1; clear b1)
        | (go_at_call 10; refine (HN1.out _ B1.out).mono ?_; rintro e w2 ⟨b2, rfl⟩; have B2 := Lib.hid (B1.out.trans (b2.mono B1.out.size)); clear b2)
        | (go_at_call 12; (with_reducible refine (lnew_nil _).mono ?_); rintro e w3 ⟨rfl, rfl⟩)
        | (go_at_call 9; refine (awake14_any _).mono ?_; rintro e w3 ⟨rfl, b3⟩)
        | go_in)
      go_ret
      exact ⟨rfl, B2.out.trans (b3.mono B2.out.size)⟩
    | some o =>
      have osd := newO_osd ho
      have osa := newO_osa ho
      have HN1 := Lib.hid (fun (w1 : World) (b : Below w.heap.size w w1) => (HN.out w1 b).mono fun e w' h => newTo_some h ho)
      obtain ⟨i, j, x, hln⟩ := lnew_ex (n := o.ns.length) (F := rmost o) osd.pord
      by_cases hx : x = 0
      · subst hx
        obtain ⟨h0, hLt⟩ : 0 < o.ns.length ∧ Lat o.ns.length (rmost o) (jn (rmost o) o.ns.length) (mn (rmost o) o.ns.length) := (hln.zero_iff osd.pord).1 rfl
        have hln0 : LNew o.ns.length (rmost o) 0 0 0 := by
          cases hln with
          | ok hn h1 h2 => exact .ok hn h1 h2
        have HL := Lib.hid (fun (w1 : World) (X : Nat → Prop) (og : Nat) (h : OrdAt w1 X og o) => (lnew_any h osd osa).mono fun e w' h => lnTo_is h hln0)
        obtain ⟨nn, hnn⟩ : ∃ nn, o.ns.length = nn := ⟨_, rfl⟩
        obtain ⟨m1, rfl⟩ : ∃ m1 : Nat, a = m1 := ⟨a.toNat, by omega⟩
        obtain ⟨m2, rfl⟩ : ∃ m2 : Nat, b = m2 := ⟨b.toNat, by omega⟩
        obtain ⟨m3, rfl⟩ : ∃ m3 : Nat, d = m3 := ⟨d.toNat, by omega⟩
        obtain ⟨x, hx⟩ : ∃ x, m1 % nn = x := ⟨_, rfl⟩
        obtain ⟨y, hy⟩ : ∃ y, m2 % nn = y := ⟨_, rfl⟩
        obtain ⟨z, hz⟩ : ∃ z, m3 % nn = z := ⟨_, rfl⟩
        have hxl : x < o.ns.length := by rw [hnn, ← hx]; exact Nat.mod_lt _ (by omega)
        have hyl : y < o.ns.length := by rw [hnn, ← hy]; exact Nat.mod_lt _ (by omega)
        have hzl : z < o.ns.length := by rw [hnn, ← hz]; exact Nat.mod_lt _ (by omega)
        have rx : ((m1 : Int) % (nn : Int)) = (x : Int) := by rw [← hx]; rfl
        have ry : ((m2 : Int) % (nn : Int)) = (y : Int) := by rw [← hy]; rfl
        have rz : ((m3 : Int) % (nn : Int)) = (z : Int) := by rw [← hz]; rfl
        have hn64 : nn ≤ 64 := by rw [← hnn]; exact osd.wf.len
        obtain ⟨tp, htl, etp, _, htp⟩ := hLt.top h0
        obtain ⟨bt, hbl, ebt, _, hbt⟩ := hLt.bot h0
        have HTop := Lib.hid (fun (w1 : World) (X : Nat → Prop) (g og k : Nat) (h : LtAt w1 X g og o true k) => ltop_pub h h0 hLt)
        rw [etp] at HTop
        have HBot := Lib.hid (fun (w1 : World) (X : Nat → Prop) (g og k : Nat) (h : LtAt w1 X g og o true k) => lbot_pub h h0 hLt)
        rw [ebt] at HBot
        obtain ⟨p, hp⟩ : ∃ p, jn (rmost o) o.ns.length x y = p := ⟨_, rfl⟩
        obtain ⟨q, hq⟩ : ∃ q, mn (rmost o) o.ns.length x y = q := ⟨_, rfl⟩
        obtain ⟨r, hr⟩ : ∃ r, jn (rmost o) o.ns.length y z = r := ⟨_, rfl⟩
        obtain ⟨s, hs⟩ : ∃ s, mn (rmost o) o.ns.length y z = s := ⟨_, rfl⟩
        have pl : p < o.ns.length := hp ▸ hLt.jl hxl hyl
        have ql : q < o.ns.length := hq ▸ hLt.ml hxl hyl
        have rl : r < o.ns.length := hr ▸ hLt.jl hyl hzl
        have sl' : s < o.ns.length := hs ▸ hLt.ml hyl hzl
        obtain ⟨t1, ht1⟩ : ∃ t, jn (rmost o) o.ns.length p z = t := ⟨_, rfl⟩
        obtain ⟨t2, ht2⟩ : ∃ t, mn (rmost o) o.ns.length q z = t := ⟨_, rfl⟩
        obtain ⟨v, hv⟩ : ∃ t, mn (rmost o) o.ns.length x z = t := ⟨_, rfl⟩
        obtain ⟨v2, hv2⟩ : ∃ t, jn (rmost o) o.ns.length x z = t := ⟨_, rfl⟩
        have vl : v < o.ns.length := hv ▸ hLt.ml hxl hzl
        have v2l : v2 < o.ns.length := hv2 ▸ hLt.jl hxl hzl
        obtain ⟨u, hu⟩ : ∃ t, mn (rmost o) o.ns.length x r = t := ⟨_, rfl⟩
        obtain ⟨u2, hu2⟩ : ∃ t, jn (rmost o) o.ns.length x s = t := ⟨_, rfl⟩
        have e1 : jn (rmost o) o.ns.length y x = p := by rw [← hp]; exact hLt.jc hyl hxl
        have e2 : mn (rmost o) o.ns.length y x = q := by rw [← hq]; exact hLt.mc hyl hxl
        have e3 : jn (rmost o) o.ns.length x r = t1 := by rw [← ht1, ← hp, ← hr]; exact (hLt.ja hxl hyl hzl).symm
        have e4 : mn (rmost o) o.ns.length x s = t2 := by rw [← ht2, ← hq, ← hs]; exact (hLt.ma hxl hyl hzl).symm
        have e5 : jn (rmost o) o.ns.length x q = x := by rw [← hq]; exact hLt.jm hxl hyl
        have e6 : mn (rmost o) o.ns.length x p = x := by rw [← hp]; exact hLt.mj hxl hyl
        have e7 : jn (rmost o) o.ns.length q v = u := by rw [← hu, ← hq, ← hv, ← hr]; exact (hLt.d hxl hyl hzl).symm
        have e8 : mn (rmost o) o.ns.length p v2 = u2 := by rw [← hu2, ← hp, ← hv2, ← hs]; exact (hLt.d2 hxl hyl hzl).symm
        have e9 : jn (rmost o) o.ns.length x tp = tp := (htp x hxl).1
        have e10 : mn (rmost o) o.ns.length x bt = bt := (hbt x hxl).1
        have HMo := Lib.hid (show o.mostI (x : Int) (y : Int) = ((p : Int) == (y : Int)) by
          rw [Od.mostI_nat, Bool.eq_iff_iff, beq_iff_eq]
          have := hLt.le hxl hyl
          rw [hp] at this
          exact this.trans (by omega))
        have J1 := Lib.hid (fun w1 X g og k h hk => @ljoin_el w1 X g og k o hLt x y p hxl hyl hp h hk)
        have J2 := Lib.hid (fun w1 X g og k h hk => @ljoin_el w1 X g og k o hLt y x p hyl hxl e1 h hk)
        have J3 := Lib.hid (fun w1 X g og k h hk => @ljoin_el w1 X g og k o hLt p z t1 pl hzl ht1 h hk)
        have J4 := Lib.hid (fun w1 X g og k h hk => @ljoin_el w1 X g og k o hLt y z r hyl hzl hr h hk)
        have J5 := Lib.hid (fun w1 X g og k h hk => @ljoin_el w1 X g og k o hLt x r t1 hxl rl e3 h hk)
        have J6 := Lib.hid (fun w1 X g og k h hk => @ljoin_el w1 X g og k o hLt x q x hxl ql e5 h hk)
        have J7 := Lib.hid (fun w1 X g og k h hk => @ljoin_el w1 X g og k o hLt q v u ql vl e7 h hk)
        have J8 := Lib.hid (fun w1 X g og k h hk => @ljoin_el w1 X g og k o hLt x s u2 hxl sl' hu2 h hk)
        have J9 := Lib.hid (fun w1 X g og k h hk => @ljoin_el w1 X g og k o hLt x z v2 hxl hzl hv2 h hk)
        have J10 := Lib.hid (fun w1 X g og k h hk => @ljoin_el w1 X g og k o hLt x tp tp hxl htl e9 h hk)
        have M1 := Lib.hid (fun w1 X g og k h hk => @lmeet_el w1 X g og k o hLt x y q hxl hyl hq h hk)
        have M2 := Lib.hid (fun w1 X g og k h hk => @lmeet_el w1 X g og k o hLt y x q hyl hxl e2 h hk)
        have M3 := Lib.hid (fun w1 X g og k h hk => @lmeet_el w1 X g og k o hLt q z t2 ql hzl ht2 h hk)
        have M4 := Lib.hid (fun w1 X g og k h hk => @lmeet_el w1 X g og k o hLt y z s hyl hzl hs h hk)
        have M5 := Lib.hid (fun w1 X g og k h hk => @lmeet_el w1 X g og k o hLt x s t2 hxl sl' e4 h hk)
        have M6 := Lib.hid (fun w1 X g og k h hk => @lmeet_el w1 X g og k o hLt x p x hxl pl e6 h hk)
        have M7 := Lib.hid (fun w1 X g og k h hk => @lmeet_el w1 X g og k o hLt x r u hxl rl hu h hk)
        have M8 := Lib.hid (fun w1 X g og k h hk => @lmeet_el w1 X g og k o hLt x z v hxl hzl hv h hk)
        have M9 := Lib.hid (fun w1 X g og k h hk => @lmeet_el w1 X g og k o hLt p v2 u2 pl v2l e8 h hk)
        have M10 := Lib.hid (fun w1 X g og k h hk => @lmeet_el w1 X g og k o hLt x bt bt hxl hbl e10 h hk)
        have HLen := Lib.hid (fun (w1 : World) (X : Nat → Prop) (og : Nat) (h : OrdAt w1 X og o) => olen_any h)
        rw [hnn] at HLen
        have hnz : ((nn : Int) == 0) = false := by rw [beq_eq_false_iff_ne]; omega
        have hnz2 : (nn : Int) ≠ 0 := by omega
        unfold LtTo at HTop HBot J1 J2 J3 J4 J5 J6 J7 J8 J9 J10 M1 M2 M3 M4 M5 M6 M7 M8 M9 M10
        clear osd osa HN hln hln0 ho hLt h0 e1 e2 e3 e4 e5 e6 e7 e8 e9 e10 hp hq hr hs ht1 ht2 hv hv2 hu hu2 pl ql rl sl' vl v2l htl etp htp hbl ebt hbt hxl hyl hzl hx hy hz hnn ha hb hd
        go_enter Try.func5, Try.ntmps5
        go_wp2_with (first
          | (go_at_call 8; refine HG.out.mono ?_; rintro e w1 ⟨rfl, b1⟩; have B1 := Lib.hid b1; clear b1)
          | (go_at_call 10; refine (HN1.out _ B1.out).mono ?_; rintro e w2 ⟨b2, og, rfl, hO⟩; have B2 := Lib.hid (B1.out.trans (b2.mono B1.out.size)); have HLo := Lib.hid (HL.out _ _ _ hO); clear b2 hO)
          | (go_at_call 12; (with_reducible refine HLo.out.mono ?_); rintro e w3 ⟨b3, rfl, hm⟩; have B3 := Lib.hid (B2.out.trans (b3.mono B2.out.size)); have hle := B2.out.size; have HA := Lib.hid hm; have HLn := Lib.hid (HLen.out _ _ _ hm.c.ord); clear b3 hm)
          | (go_at_call 17; (with_reducible refine HLn.out.mono ?_); rintro e w4 ⟨rfl, rfl⟩)
          | go_in)
        go_quiet (fail)
        rw [rx, ry, rz]
        have HA0 := HA.out.quiet (Quiet.one _ nq)
        have HO := Lib.hid ((Only.refl w2.heap.size w3).quiet (Quiet.one _ nq))
        obtain ⟨w4, hw4⟩ : ∃ w4, w3.drewN nq = w4 := ⟨_, rfl⟩
        rw [hw4] at HA0 HO
        rw [hw4]
        clear hw4 HA rx ry rz HLn
        have HA := Lib.hid HA0
        clear HA0
        go_wp2_with (first
          | (go_at_call 14; (first | with_reducible refine (J1.out _ _ _ _ _ HA.out (by omega)).mono ?_ | with_reducible refine (J2.out _ _ _ _ _ HA.out (by omega)).mono ?_ | with_reducible refine (J3.out _ _ _ _ _ HA.out (by omega)).mono ?_ | with_reducible refine (J4.out _ _ _ _ _ HA.out (by omega)).mono ?_ | with_reducible refine (J5.out _ _ _ _ _ HA.out (by omega)).mono ?_ | with_reducible refine (J6.out _ _ _ _ _ HA.out (by omega)).mono ?_ | with_reducible refine (J7.out _ _ _ _ _ HA.out (by omega)).mono ?_ | with_reducible refine (J8.out _ _ _ _ _ HA.out (by omega)).mono ?_ | with_reducible refine (J9.out _ _ _ _ _ HA.out (by omega)).mono ?_ | with_reducible refine (J10.out _ _ _ _ _ HA.out (by omega)).mono ?_); rintro e w5 ⟨rfl, hm, ho⟩; have HO := Lib.hid (HO.out.trans ho); have HA := Lib.hid hm; clear hm ho)
          | (go_at_call 15; (first | with_reducible refine (M1.out _ _ _ _ _ HA.out (by omega)).mono ?_ | with_reducible refine (M2.out _ _ _ _ _ HA.out (by omega)).mono ?_ | with_reducible refine (M3.out _ _ _ _ _ HA.out (by omega)).mono ?_ | with_reducible refine (M4.out _ _ _ _ _ HA.out (by omega)).mono ?_ | with_reducible refine (M5.out _ _ _ _ _ HA.out (by omega)).mono ?_ | with_reducible refine (M6.out _ _ _ _ _ HA.out (by omega)).mono ?_ | with_reducible refine (M7.out _ _ _ _ _ HA.out (by omega)).mono ?_ | with_reducible refine (M8.out _ _ _ _ _ HA.out (by omega)).mono ?_ | with_reducible refine (M9.out _ _ _ _ _ HA.out (by omega)).mono ?_ | with_reducible refine (M10.out _ _ _ _ _ HA.out (by omega)).mono ?_); rintro e w5 ⟨rfl, hm, ho⟩; have HO := Lib.hid (HO.out.trans ho); have HA := Lib.hid hm; clear hm ho)
          | (go_at_call 21; (with_reducible refine (HTop.out _ _ _ _ _ HA.out).mono ?_); rintro e w5 ⟨rfl, hm, ho⟩; have HO := Lib.hid (HO.out.trans ho); have HA := Lib.hid hm; clear hm ho)
          | (go_at_call 19; (with_reducible refine (HBot.out _ _ _ _ _ HA.out).mono ?_); rintro e w5 ⟨rfl, hm, ho⟩; have HO := Lib.hid (HO.out.trans ho); have HA := Lib.hid hm; clear hm ho)
          | (go_at_call 25; refine (omost_any HA.out.c.ord _ _).mono ?_; rintro e w5 ⟨rfl, rfl⟩; rw [HMo.out])
          | (go_at_call 9; refine (awake14_any _).mono ?_; rintro e w6 ⟨rfl, b6⟩)
          | go_in)
        go_ret
        have h4 := B3.out.trans (HO.out.below hle)
        exact ⟨rfl, h4.trans (b6.mono h4.size)⟩
      · have HL := Lib.hid (fun (w1 : World) (X : Nat → Prop) (og : Nat) (h : OrdAt w1 X og o) => (lnew_any h osd osa).mono fun e w' h => lnTo_err h hln hx)
        have hne : ((x : Int) != 0) = true := by simp; exact hx
        clear osd osa HN hln hx ho
        go_enter Try.func5, Try.ntmps5
        go_wp2_with (first
          | (go_at_call 8; refine HG.out.mono ?_; rintro e w1 ⟨rfl, b1⟩; have B1 := Lib.hid b1; clear b1)
          | (go_at_call 10; refine (HN1.out _ B1.out).mono ?_; rintro e w2 ⟨b2, og, rfl, hO⟩; have B2 := Lib.hid (B1.out.trans (b2.mono B1.out.size)); have HLo := Lib.hid (HL.out _ _ _ hO); clear b2 hO)
          | (go_at_call 12; (with_reducible refine HLo.out.mono ?_); rintro e w3 ⟨b3, rfl⟩; have B3 := Lib.hid (B2.out.trans (b3.mono B2.out.size)); clear b3)
          | (go_at_call 9; refine (awake14_any _).mono ?_; rintro e w4 ⟨rfl, b4⟩)
          | go_in)
        go_ret
        exact ⟨rfl, B3.out.trans (b4.mono B3.out.size)⟩
end Go.Proofs.Ytcppmmiblmcagaa

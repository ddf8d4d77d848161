/-
  CONTRACT OF makeTables.
-/
import Derived.Test.YtnhdpegjkkaabaaLtA
import Derived.BigRegion
import Derived.BigQuiet
import Derived.Deep.RegionWith
import Derived.Deep.QuietTactic
import Derived.Deep.DeepCutAuto
namespace Go.Proofs.Ytnhdpegjkkaabaa
set_option linter.unusedVariables false
set_option linter.unusedSimpArgs false
open Go.RowKit Go.Maps

set_option maxRecDepth 100000 in
set_option maxHeartbeats 800000 in
theorem makeTables_any (g og k : Nat) (X : Nat → Prop) (o : Od) (w : World) (h : LtC w X g og o k) (h5 : ∃ v, w.cell? ⟨g, 5, none⟩ = some v) (ht : LtT w g o 0 0 0) (hb : LtB w g o 0 0) :
    Calls Try.prog 71 #[.pointer (some ⟨g, 0, none⟩)] w fun e w' => e = .returned (.tuple #[]) ∧ LtK w w' X g og o k o.ns.length 0 0 o.ns.length o.ns.length := by
  have hl := h.osd.wf.len
  have hsa := sets_above h.osd h.osa
  have hsb := sets_below h.osd
  have hab := h.osd.wf.ab
  have hbe := h.osd.wf.be
  have HO := Lib.hid (olen_any h.ord)
  have HK0 := Lib.hid (LtK.start h h5 ht hb)
  have c0 := h.c0
  have f5 := h.nf 5
  obtain ⟨v5, c5⟩ := h5
  have HCJ := Lib.hid (fun (wr : World) (m q r mb mt a b : Nat) (hk : LtK w wr X g og o k m q r mb mt) => @LtK.cmnJ w wr X g og k m q r mb mt o hk a b)
  have HCM := Lib.hid (fun (wr : World) (m q r mb mt a b : Nat) (hk : LtK w wr X g og o k m q r mb mt) => @LtK.cmnM w wr X g og k m q r mb mt o hk a b)
  have HJ := Lib.hid (fun (wr : World) (m q r mb mt : Nat) (hk : LtK w wr X g og o k m q r mb mt) => @LtK.setJ w wr X g og k m q r mb mt o hk)
  have HM := Lib.hid (fun (wr : World) (m q r mb mt : Nat) (hk : LtK w wr X g og o k m q r mb mt) => @LtK.setM w wr X g og k m q r mb mt o hk)
  have HR := Lib.hid (fun (wr : World) (m mb mt : Nat) (hk : LtK w wr X g og o k m o.ns.length o.ns.length mb mt) => @LtK.row w wr X g og k m mb mt o hk)
  have HBY := Lib.hid (fun (wr : World) (m q r mb mt : Nat) (hk : LtK w wr X g og o k m q r mb mt) => @LtK.botY w wr X g og k m q r mb mt o hk)
  have HBN := Lib.hid (fun (wr : World) (m q r mb mt : Nat) (hk : LtK w wr X g og o k m q r mb mt) => @LtK.botN w wr X g og k m q r mb mt o hk)
  have HTY := Lib.hid (fun (wr : World) (m q r mb mt : Nat) (hk : LtK w wr X g og o k m q r mb mt) => @LtK.topY w wr X g og k m q r mb mt o hk)
  have HTN := Lib.hid (fun (wr : World) (m q r mb mt : Nat) (hk : LtK w wr X g og o k m q r mb mt) => @LtK.topN w wr X g og k m q r mb mt o hk)
  have HPA := Lib.hid (fun (i : Nat) (hi : i < o.ns.length) => hsa.pop hl hi)
  have HPB := Lib.hid (fun (i : Nat) (hi : i < o.ns.length) => hsb.pop hl hi)
  have HAB := Lib.hid hab
  have HBE := Lib.hid hbe
  have HRJ := Lib.hid (fun a b => @rjoin_lt (rmost o) o.ns.length a b hl)
  have HRM := Lib.hid (fun a b => @rjoin_lt (oflip (rmost o)) o.ns.length a b hl)
  obtain ⟨n, hn⟩ : ∃ n, o.ns.length = n := ⟨_, rfl⟩
  rw [hn] at HCJ HCM HJ HM HR HBY HBN HTY HTN HPA HPB HRJ HRM hl HO HK0
  rw [hn]
  clear h ht hb hsa hsb hab hbe
  have HN := Lib.hid hn
  clear hn
  go_enter Try.func71, Try.ntmps71
  go_wp2_with (first
    | (go_at_call 49; (with_reducible refine HO.out.mono ?_); rintro e w1 ⟨rfl, rfl⟩)
    | go_in)
  go_loopw [16] (fun i wr => ∃ m : Nat, i = .int .i64 (m : Int) ∧ m ≤ n ∧ Hid (LtK w wr X g og o k m 0 0 m m)) (fun i _ => n - (intOf i).toNat)
  case atStart => exact ⟨0, rfl, Nat.zero_le _, HK0⟩
  case round =>
    obtain ⟨m, rfl, hm, HK⟩ := hrel
    obtain ⟨wz, hwz⟩ : ∃ wz, wz = wr := ⟨_, rfl⟩
    subst hwz
    by_cases hlt : m < n
    · have z5 := HK.out.c5
      rw [HN.out] at z5
      go_wp2
      go_loopw [23] (fun i wr => ∃ q : Nat, i = .int .i64 (q : Int) ∧ q ≤ n ∧ Hid (LtK w wr X g og o k m q q m m)) (fun i _ => n - (intOf i).toNat)
      case atStart => exact ⟨0, rfl, Nat.zero_le _, HK⟩
      case round =>
        obtain ⟨q, rfl, hq, HK2⟩ := hrel
        obtain ⟨wy, hwy⟩ : ∃ wy, wy = wr := ⟨_, rfl⟩
        subst hwy
        by_cases hlq : q < n
        · have y0 := HK2.out.c.c0
          have yf : wy.frozen? ⟨g, 6 + m * 64 + q, none⟩ = false := HK2.out.c.nf _
          obtain ⟨u, yu⟩ : ∃ u, wy.cell? ⟨g, 6 + m * 64 + q, none⟩ = some u := HK2.out.t.jx m q (by omega) (by omega)
          have HC1 := Lib.hid (HCJ.out wy.drew m q q m m m q HK2.out.drew hlt hlq)
          have HS1 := Lib.hid (HJ.out wy m q q m m HK2.out hlt hlq).drew
          obtain ⟨l1, l2⟩ := HRJ.out m q
          obtain ⟨v, hv⟩ : ∃ v, rjoinI (rmost o) n m q = v := ⟨_, rfl⟩
          rw [hv] at HC1 HS1 l1 l2
          unfold tat at HS1
          have hwv : IntKind.i8.wrap v = v := IntWalk.i8_in v (by omega)
          clear hv
          have y0d : wy.drew.cell? ⟨g, 0, none⟩ = some (.pointer (some ⟨og, 0, none⟩)) := y0
          go_upto_region 7 with fail
          go_cut [16, 23] from 26 to 42 (fun a b wx => a = .int .i64 (m : Int) ∧ b = .int .i64 (q : Int) ∧ wx = (wy.setCell ⟨g, 6 + m * 64 + q, none⟩ (.int .i8 v)).drew)
          case first =>
            go_region_with ((go_at_call 82; (with_reducible refine HC1.out.mono ?_); rintro e w1 ⟨rfl, rfl⟩))
            all_goals
              go_wp2_with fail
              go_meet
              exact ⟨rfl, rfl, rfl⟩
          case rest =>
            obtain ⟨rfl, rfl, rfl⟩ := hcut
            obtain ⟨wx, hwx⟩ : ∃ wx, (wy.setCell ⟨g, 6 + m * 64 + q, none⟩ (.int .i8 v)).drew = wx := ⟨_, rfl⟩
            rw [hwx] at HS1
            rw [hwx]
            clear hwx y0 yf yu y0d hwv l1 l2 HC1
            have x0 := HS1.out.c.c0
            have x0d : wx.drew.cell? ⟨g, 0, none⟩ = some (.pointer (some ⟨og, 0, none⟩)) := x0
            have xf : wx.frozen? ⟨g, 4102 + m * 64 + q, none⟩ = false := HS1.out.c.nf _
            obtain ⟨u', xu⟩ : ∃ u, wx.cell? ⟨g, 4102 + m * 64 + q, none⟩ = some u := HS1.out.t.mx m q (by omega) (by omega)
            have HC1 := Lib.hid (HCM.out wx.drew m (q + 1) q m m m q HS1.out.drew hlt hlq)
            have HS2 := Lib.hid (HM.out wx m (q + 1) q m m HS1.out hlt hlq).drew
            obtain ⟨l1, l2⟩ := HRM.out m q
            obtain ⟨v', hv⟩ : ∃ v', rjoinI (oflip (rmost o)) n m q = v' := ⟨_, rfl⟩
            rw [hv] at HC1 HS2 l1 l2
            unfold tat at HS2
            have hwv : IntKind.i8.wrap v' = v' := IntWalk.i8_in v' (by omega)
            clear hv
            go_wp2
            go_region_with ((go_at_call 82; (with_reducible refine HC1.out.mono ?_); rintro e w1 ⟨rfl, rfl⟩))
            all_goals
              go_wp2
              go_roundw
              case rel => exact ⟨q + 1, by go_num, hlq, HS2⟩
              case measure => simp [intOf]; omega
        · obtain rfl : n = q := by omega
          have y0 := HK2.out.c.c0
          have y5 := HK2.out.c5
          rw [HN.out] at y5
          have HAb := Lib.hid (fun qd => (oabove_nat (HK2.out.c.ord.drewN qd) (i := m) (by rw [HN.out]; exact hlt)).mono fun e w' ⟨h1, h2⟩ => (⟨h1, h2.symm⟩ : e = Ending.returned (.int .u64 (o.ab m : Int)) ∧ w' = wy.drewN qd))
          have HOn := Lib.hid (fun qd => (ones_any (o.ab m) (HAB.out m) (wy.drewN qd)).mono fun e w' ⟨h1, h2⟩ => (⟨h1, h2.symm⟩ : e = Ending.returned (.int .i64 (popB 64 (o.ab m) : Nat)) ∧ w' = wy.drewN qd))
          have HPa := Lib.hid (HPA.out m hlt)
          obtain ⟨p, hp⟩ : ∃ p, popB 64 (o.ab m) = p := ⟨_, rfl⟩
          obtain ⟨x, hx⟩ : ∃ x, o.ab m = x := ⟨_, rfl⟩
          rw [hp] at HOn HPa
          rw [hx] at HOn HAb
          clear hp hx
          have hbot : ((p : Int) == (n : Int)) = true ∧ Hid (∀ q', LtK w ((wy.drewN q').setCell ⟨g, 8198, none⟩ (.int .i64 (m : Int))) X g og o k m n n (m + 1) m) ∨ ((p : Int) == (n : Int)) = false ∧ Hid (∀ q', LtK w (wy.drewN q') X g og o k m n n (m + 1) m) := by
            by_cases e : p = n
            · exact .inl ⟨by simp [e], Lib.hid fun q' => HBY.out _ _ _ _ _ _ (HK2.out.quiet (Quiet.one _ q')) hlt (HPa.out.1 e)⟩
            · exact .inr ⟨by simp; omega, Lib.hid fun q' => HBN.out _ _ _ _ _ _ (HK2.out.quiet (Quiet.one _ q')) (fun h => e (HPa.out.2 h))⟩
          have yf : wy.frozen? ⟨g, 8198, none⟩ = false := HK2.out.c.nf _
          obtain ⟨bv, yb, _⟩ := HK2.out.b.bot
          rcases hbot with ⟨d, HB2⟩ | ⟨d, HB2⟩
          all_goals
            go_wp2
            go_quiet (first
              | (go_at_call 83; exact Calls.quiet_of_same (HAb.out _))
              | (go_at_call 34; exact Calls.quiet_of_same (HOn.out _)))
            go_upto_region 12 with fail
            have HBX := Lib.hid (HB2.out nq)
            first
              | (obtain ⟨wt, hwt⟩ : ∃ wt, (wy.drewN nq).setCell ⟨g, 8198, none⟩ (.int .i64 (m : Int)) = wt := ⟨_, rfl⟩; rw [hwt] at HBX; rw [hwt]; clear hwt)
              | (obtain ⟨wt, hwt⟩ : ∃ wt, wy.drewN nq = wt := ⟨_, rfl⟩; rw [hwt] at HBX; rw [hwt]; clear hwt)
            clear HB2 HAb HOn HPa y0 y5 yf yb d HK2
            have HBb := Lib.hid (fun qd => (obelow_nat (HBX.out.c.ord.drewN qd) (i := m) (by rw [HN.out]; exact hlt)).mono fun e w' ⟨h1, h2⟩ => (⟨h1, h2.symm⟩ : e = Ending.returned (.int .u64 (o.be m : Int)) ∧ w' = wt.drewN qd))
            have HOm := Lib.hid (fun qd => (ones_any (o.be m) (HBE.out m) (wt.drewN qd)).mono fun e w' ⟨h1, h2⟩ => (⟨h1, h2.symm⟩ : e = Ending.returned (.int .i64 (popB 64 (o.be m) : Nat)) ∧ w' = wt.drewN qd))
            have HPb := Lib.hid (HPB.out m hlt)
            obtain ⟨p2, hp⟩ : ∃ p, popB 64 (o.be m) = p := ⟨_, rfl⟩
            obtain ⟨x2, hx⟩ : ∃ x, o.be m = x := ⟨_, rfl⟩
            rw [hp] at HOm HPb
            rw [hx] at HOm HBb
            clear hp hx
            have htop : ((p2 : Int) == (n : Int)) = true ∧ Hid (∀ q', LtK w ((wt.drewN q').setCell ⟨g, 8199, none⟩ (.int .i64 (m : Int))) X g og o k (m + 1) 0 0 (m + 1) (m + 1)) ∨ ((p2 : Int) == (n : Int)) = false ∧ Hid (∀ q', LtK w (wt.drewN q') X g og o k (m + 1) 0 0 (m + 1) (m + 1)) := by
              by_cases e : p2 = n
              · exact .inl ⟨by simp [e], Lib.hid fun q' => HR.out _ _ _ _ (HTY.out _ _ _ _ _ _ (HBX.out.quiet (Quiet.one _ q')) hlt (HPb.out.1 e))⟩
              · exact .inr ⟨by simp; omega, Lib.hid fun q' => HR.out _ _ _ _ (HTN.out _ _ _ _ _ _ (HBX.out.quiet (Quiet.one _ q')) (fun h => e (HPb.out.2 h)))⟩
            have t0 := HBX.out.c.c0
            have t5 := HBX.out.c5
            rw [HN.out] at t5
            have tf : wt.frozen? ⟨g, 8199, none⟩ = false := HBX.out.c.nf _
            obtain ⟨tv, tb, _⟩ := HBX.out.b.top
            rcases htop with ⟨d2, HB3⟩ | ⟨d2, HB3⟩
            all_goals
              go_wp2
              go_quiet (first
                | (go_at_call 63; exact Calls.quiet_of_same (HBb.out _))
                | (go_at_call 34; exact Calls.quiet_of_same (HOm.out _)))
              go_wp2
              go_roundw
              case rel => exact ⟨m + 1, by go_num, hlt, Lib.hid (HB3.out _)⟩
              case measure => simp [intOf]; omega
    · obtain rfl : n = m := by omega
      go_wp2
      go_end0
      exact ⟨rfl, HK.out⟩
end Go.Proofs.Ytnhdpegjkkaabaa

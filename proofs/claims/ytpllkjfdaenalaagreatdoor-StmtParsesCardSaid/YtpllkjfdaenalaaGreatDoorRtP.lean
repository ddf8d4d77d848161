import Derived.Test.YtpllkjfdaenalaaGreatDoorSq
import Derived.Test.YtpllkjfdaenalaaGreatDoorMRg
import Derived.Test.YtpllkjfdaenalaaGreatDoorMPa
namespace Go.Proofs.YtpllkjfdaenalaaGreatDoor
set_option linter.unusedVariables false
set_option linter.unusedSimpArgs false
open Go.RowKit
theorem Ry.fit9 {X : Ry} {T : ByteArray} {bs : List Int} (hT : X.T = T) (hL : X.L = live bs 0) (hb : bts T = bs) (hm : T.size ≤ 1000000) : X.Fit ∧ ∀ i, (X.R.wd i).size ≤ 1000000 := by
 have hn : bs.length ≤ 1000000 := by rw [← hb, bts_len]; exact hm
 have hok := live_ok hb hn
 have hR : X.R = rowT T (live bs 0) := by show rowT X.T X.L = _; rw [hT, hL]
 rw [← hL, ← hT] at hok
 exact ⟨⟨fun i => wd_size hok i, fun i hi => by rw [hR] at hi ⊢; exact live_dig hb i hi⟩, fun i => wd_size hok i⟩
theorem bad_pos9 {T : ByteArray} {bs : List Int} (hb : bts T = bs) (hm : T.size ≤ 1000000) : 0 ≤ (badOf (live bs 0)).2.1 := by
 have hn : bs.length ≤ 1000000 := by rw [← hb, bts_len]; exact hm
 have hok := live_ok hb hn
 unfold badOf
 cases h : (live bs 0).find? fun t => t.1 == 5 with
 | none => exact Int.le_refl _
 | some t => exact (hok.tok t (List.mem_of_find?_eq_some h)).1
structure PS (X : Ry) (g : Gs) (tv : Tv) (lv : Value) (w : World) (Rb Gb : Nat) (W : World) : Prop where
 vb : Below w.heap.size w W
 vr : Var W Rb (ryC X)
 vg : Var W Gb (gsC g.s tv lv (g.p : Int) g.r)
 hs : ShS W (fun b => w.heap.size ≤ b) lv g.l
 vi : X.In W W.heap.size
theorem PS.under {X : Ry} {g : Gs} {tv : Tv} {lv : Value} {w : World} {Rb Gb : Nat} {W W' : World} (h : PS X g tv lv w Rb Gb W) (hb : Below W.heap.size W W') : PS X g tv lv w Rb Gb W' :=
 ⟨h.vb.trans (hb.mono h.vb.size), h.vr.under hb, h.vg.under hb, h.hs.under hb, (h.vi.up hb nLe).more hb.size⟩
set_option maxRecDepth 100000 in
set_option maxHeartbeats 3200000 in
theorem rPs_any (T : ByteArray) (bs : List Int) (w : World) (hb : bts T = bs) (hm : T.size ≤ 1000000) (F f : Nat) (hF : 16 * T.size + 9 ≤ F) (hf : 3 * T.size + 3 ≤ f) :
  Calls Tryz.prog 11 #[.string T] w (PaTo (parseS (rowT T (live bs 0)) (live bs 0) F f) w) := by
 have hz := zeroGs
 have hzr := zeroRow
 have hl : bs.length = T.size := by rw [← hb, bts_len]
 have hll := live_len bs
 have hbp := bad_pos9 hb hm
 have HBD : Hid (∀ W, Calls Tryz.prog 36 #[.string T] W fun e w' => e = .returned (.int .i64 (if isBad (live bs 0) = true then (badOf (live bs 0)).2.1 else -1)) ∧ Below W.heap.size W w') := Lh fun W => rBad_any T bs W hb hm
 have HNW : Hid (∀ W, Calls Tryz.prog 14 #[.string T] W (RNewTo T bs W)) := Lh fun W => rNew_any T bs W hb hm
 have HFT : Hid (∀ X : Ry, X.T = T → X.L = live bs 0 → X.Fit ∧ ∀ i, (X.R.wd i).size ≤ 1000000) := Lh fun X h1 h2 => Ry.fit9 h1 h2 hb hm
 obtain ⟨Y, hY⟩ : ∃ Y, parseS (rowT T (live bs 0)) (live bs 0) F f = Y := ⟨_, rfl⟩
 rw [hY]
 have HY := Lh hY
 have HL := Lh hl
 have J := Lh (Below.refl w.heap.size w)
 clear hb hY hl
 cases hbd : isBad (live bs 0) with
 | true =>
  obtain ⟨q, hq⟩ : ∃ q, (badOf (live bs 0)).2.1 = q := ⟨_, rfl⟩
  rw [hbd, if_pos rfl, hq] at HBD
  rw [hq] at hbp
  have HYY : Hid (([], q, 10) = Y) := Lh (by rw [← HY.out, ← hq]; unfold parseS; rw [if_pos hbd])
  clear hbd hq HY HNW HFT
  go_enter Tryz.func11, Tryz.ntmps11
  go_wp2_with (first
   | (go_at_call 36; (with_reducible refine (HBD.out _).mono ?_); rintro e w2 ⟨rfl, b⟩; have J := Lh (bTr J b); clear b; dsimp only)
   | fail)
  go_ret3
  rw [← HYY.out]
  exact ⟨_, rfl, .emp _ _, J.out⟩
 | false =>
  rw [hbd, if_neg (by decide)] at HBD
  go_enter Tryz.func11, Tryz.ntmps11
  go_wp2_with (first
   | (go_at_call 36; (with_reducible refine (HBD.out _).mono ?_); rintro e w2 ⟨rfl, b⟩; have J := Lh (bTr J b); clear b; dsimp only)
   | (go_at_call 14; (with_reducible refine (HNW.out _).mono ?_); rintro e w3 ⟨X, rfl, hXT, hXL, hXI, b⟩; have J := Lh (bTr J b); have JI := Lh hXI; clear b hXI; dsimp only; refine Hid.out ?_)
   | fail)
  have hR : X.R = rowT T (live bs 0) := by show rowT X.T X.L = _; rw [hXT, hXL]
  have hXn : X.L.length ≤ T.size := by rw [hXL]; have := HL.out; omega
  obtain ⟨hfit, hws⟩ := HFT.out X hXT hXL
  have HE := Lh (rs_all X hfit hws F (by omega) f).2.1
  obtain ⟨g, hg⟩ : ∃ g, rs X.R F f (.row []) 0 0 = g := ⟨_, rfl⟩
  have HEX : Hid (∀ W, X.In W W.heap.size → Calls Tryz.prog 37 #[.agg (ryC X).toArray, .int .i64 0, .int .i64 0] W (GsTo g W)) := Lh fun W hW => by
   rw [← hg]
   exact HE.out 0 0 W (Nat.zero_le _) hW ⟨by omega, by omega⟩ (by omega)
  have HYY : Hid ((if g.r = 0 then (if g.p = X.L.length then (g.l, X.R.ps g.p, 0) else ([], X.R.ps g.p, 11)) else ([], X.R.ps g.p, g.r)) = Y) := Lh (by
   rw [← HY.out, ← hg, hR]
   unfold parseS
   rw [if_neg (show ¬ isBad (live bs 0) = true by rw [hbd]; decide)]
   have e : (rowT T (live bs 0)).n = X.L.length := by rw [hXL]; rfl
   rw [e])
  have hgp : g.p ≤ X.L.length := by
   rw [← hg]
   exact rs_le (row_ok X.T X.L) f (.row []) 0 0 (Nat.zero_le _)
  have HR1 : Hid (∀ u ∈ ryC X, u.oneCell' = true) := Lh (by
   intro u hu
   simp at hu
   rcases hu with rfl | rfl <;> rfl)
  have HXT := Lh hXT
  have JI2 : Hid (X.In (w3.alloc (.cells #[.string ⟨#[]⟩, .slice none 0 0] 36)) (w3.alloc (.cells #[.string ⟨#[]⟩, .slice none 0 0] 36)).heap.size) := Lh ((JI.out.up bAl nLe).more (by simp))
  clear hg hbd HE hXT hXL hR HY hfit hws HFT HNW HBD
  refine Lh ?_
  go_wp2_with (first
   | (refine wpList_stV rfl 36 (.tmp 6) (.tmp 14) rfl (G := w3.heap.size) (off := 0) rfl (us := ryC X) (Var.new w3 [.string ⟨#[]⟩, .slice none 0 0] 36 rfl) rfl info_ry (Nat.le_refl 2) HR1.out ?_; intro w4 ht hs; have ta := Tn.alloc (fun k => k = w3.heap.size) w3 (.cells #[.string ⟨#[]⟩, .slice none 0 0] 36); have tb := ta.trans ht; have bb := tb.below nLe (by intro k hk e; omega); have J := Lh (bTr J bb); have JI := Lh ((JI.out.up bb nLe).more bb.size); have JR := Lh (show Var w4 w3.heap.size (ryC X) from hs); clear ht hs ta tb bb)
   | (refine wpList_ldW rfl 36 (.tmp 6) rfl w3.heap.size 0 rfl (ryC X) JR.out.rg Tryz.underlying36 rfl info_ry ?_)
   | (go_at_call 37; (with_reducible refine (HEX.out _ JI.out).mono ?_); rintro e w5 ⟨tv, lv, rfl, htr, hsh, bb⟩; obtain ⟨A5, c5, rfl, _⟩ := hsh.len; have hto := htr.tv1; have hone := hsh.one; have hs4 := J.out.size; have JX := Lh (hsh.weak (S' := fun b => w.heap.size ≤ b ∧ b < w5.heap.size) (fun b hb h2 => ⟨Nat.le_trans hs4 hb, h2⟩)); have JR := Lh (JR.out.under bb); have J := Lh (bTr J bb); have JI := Lh ((JI.out.up bb nLe).more bb.size); clear bb hsh htr; dsimp only)
   | (refine wpList_stV rfl 61 (.tmp 7) (.tmp 16) rfl (G := w5.heap.size) (off := 0) rfl (us := gsC g.s tv (.slice A5 g.l.length c5) (g.p : Int) g.r) (Var.new w5 (gsC St.nul Tv.nul nilS 0 0) 61 rfl) rfl info_gs (Nat.le_refl 20) (hto.gs _ hone _ _) ?_; intro w6 ht hs; have ta := Tn.alloc (fun k => k = w5.heap.size) w5 (.cells #[.int .i64 0, .int .i64 0, .string ⟨#[]⟩, .int .i64 0, .bool false, .bool false, .string ⟨#[]⟩, .int .i64 0, .int .i64 0, .int .i64 0, .int .i64 0, .int .i64 0, .string ⟨#[]⟩, .string ⟨#[]⟩, .slice none 0 0, .slice none 0 0, .slice none 0 0, .slice none 0 0, .int .i64 0, .int .i64 0] 61); have tb := ta.trans ht; have bb := tb.below nLe (by intro k hk e; omega); have HQ : Hid (PS X g tv (.slice A5 g.l.length c5) w w3.heap.size w5.heap.size w6) := Lh ⟨bTr J bb, JR.out.under bb, hs, (JX.out.under bb).weak (fun b hb _ => hb.1), (JI.out.up bb nLe).more bb.size⟩; clear ht hs ta tb bb; have g19 := HQ.out.vg.at 19 (v := .int .i64 g.r) rfl; refine Hid.out ?_)
   | fail)
  obtain ⟨Rb, hRb⟩ : ∃ Rb, w3.heap.size = Rb := ⟨_, rfl⟩
  obtain ⟨Gb, hGb⟩ : ∃ Gb, w5.heap.size = Gb := ⟨_, rfl⟩
  have HQ : Hid (PS X g tv (.slice A5 g.l.length c5) w Rb Gb w6) := Lh (by rw [← hRb, ← hGb]; exact HQ.out)
  rw [hGb] at g19
  rw [hRb, hGb]
  have HPO : Hid (∀ W, X.In W W.heap.size → Calls Tryz.prog 26 #[.agg (ryC X).toArray, .int .i64 (g.p : Int)] W fun e w' => e = .returned (.int .i64 (X.R.ps g.p)) ∧ Below W.heap.size W w') := Lh fun W hW => rPos_any X g.p W hW (by omega)
  clear hRb hGb J JR JX JI JI2 HEX hs4
  by_cases hr : g.r = 0
  ·have hr1 : (g.r == 0) = true := by simp [hr]
   have hr2 : decide (g.r = 0) = true := by simp [hr]
   have hr3 : (g.r != 0) = false := by simp [hr]
   have g18 := HQ.out.vg.at 18 (v := .int .i64 (g.p : Int)) rfl
   have g17 := HQ.out.vg.at 17 (v := .slice A5 g.l.length c5) rfl
   have r1 := HQ.out.vr.at 1 (v := .slice X.A X.L.length X.c) rfl
   have hH := HYY.out
   rw [if_pos hr] at hH
   by_cases hlt : g.p < X.L.length
   ·have hlt1 : (g.p : Int) < (X.L.length : Int) := by omega
    rw [if_neg (by omega)] at hH
    have HYY2 := Lh hH
    clear hr HYY hH
    refine Lh ?_
    go_wp2_with (first
     | (refine wpList_ldW rfl 36 (.tmp 6) rfl Rb 0 rfl (ryC X) HQ.out.vr.rg Tryz.underlying36 rfl info_ry ?_)
     | (go_at_call 26; (with_reducible refine (HPO.out _ HQ.out.vi).mono ?_); rintro e w7 ⟨rfl, b⟩; have HQ := Lh (HQ.out.under b); clear b; dsimp only)
     | fail)
    go_ret3
    rw [← HYY2.out]
    exact ⟨_, rfl, .emp _ _, HQ.out.vb⟩
   ·have hlt1 : ¬ (g.p : Int) < (X.L.length : Int) := by omega
    have hpe : g.p = X.L.length := by omega
    have hps : X.R.ps g.p = (T.size : Int) := by
     rw [hpe]
     show (rowT X.T X.L).ps X.L.length = _
     rw [← HXT.out]
     simp [rowT]
    rw [if_pos hpe, hps] at hH
    have HYY2 := Lh hH
    clear hr HYY hpe hps hH
    refine Lh ?_
    go_wp2_with fail
    go_ret3
    rw [← HYY2.out]
    exact ⟨_, rfl, HQ.out.hs, HQ.out.vb⟩
  ·have hr1 : (g.r == 0) = false := by simp [hr]
   have hr2 : decide (g.r = 0) = false := by simp [hr]
   have hr3 : (g.r != 0) = true := by simp [hr]
   have hH := HYY.out
   rw [if_neg hr] at hH
   have HYY2 := Lh hH
   have HK8 : Hid (∀ W, PS X g tv (.slice A5 g.l.length c5) w Rb Gb W → (W.cell? ⟨Rb, 0, none⟩ = some (.string X.T) ∧ W.cell? ⟨Rb, 1, none⟩ = some (.slice X.A X.L.length X.c) ∧ W.cell? ⟨Gb, 18, none⟩ = some (.int .i64 (g.p : Int)) ∧ W.cell? ⟨Gb, 19, none⟩ = some (.int .i64 g.r))) := Lh fun W h => ⟨h.vr.at 0 rfl, h.vr.at 1 rfl, h.vg.at 18 rfl, h.vg.at 19 rfl⟩
   clear hr HYY hH
   have HQ := Lh (HQ.out.under (below_drew _ _))
   refine Lh ?_
   go_wp2_with fail
   obtain ⟨r0, r1, g18, g19⟩ := HK8.out _ HQ.out
   go_region_held3 (fun W => (W.cell? ⟨Rb, 0, none⟩ = some (.string X.T) ∧ W.cell? ⟨Rb, 1, none⟩ = some (.slice X.A X.L.length X.c) ∧ W.cell? ⟨Gb, 18, none⟩ = some (.int .i64 (g.p : Int)) ∧ W.cell? ⟨Gb, 19, none⟩ = some (.int .i64 g.r))) (((try dsimp only); first | (with_reducible exact HK8.out _ HQ.out) | ((repeat' apply And.intro) <;> first | (with_reducible assumption) | go_keep))) (first
    | (go_at_call 26; (with_reducible refine (HPO.out _ HQ.out.vi).mono ?_); rintro e wp ⟨rfl, b⟩; have HQ := Lh (HQ.out.under b); clear b; obtain ⟨r0, r1, g18, g19⟩ := HK8.out _ HQ.out)
    | fail)
   go_wp2
   go_ret3
   rw [← HYY2.out]
   exact ⟨_, rfl, .emp _ _, HQ.out.vb⟩
end Go.Proofs.YtpllkjfdaenalaaGreatDoor

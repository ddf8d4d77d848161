/-
  CONTRACT OF (*expr.Cursor).binary, of the levels of signs.
-/
import Derived.Test.YtnhhdafhnngolaaDoorEpR
namespace Go.Proofs.YtnhhdafhnngolaaDoor
set_option linter.unusedVariables false
set_option linter.unusedSimpArgs false
open Go.RowKit

def placeOf (w : World) (g : Nat) : Nat := match w.cell? ⟨g, 2, none⟩ with
  | some (.int _ z) => z.toNat
  | _ => 0
theorem placeOf_eq {C : Cx} {w : World} {q : Nat} (h : Cur C w q) : placeOf w C.g = q := by unfold placeOf; rw [h.pl]; rfl

set_option maxRecDepth 10000 in
set_option maxHeartbeats 1600000 in
theorem binaryL (C : Cx) (hC : TokOk C.T C.L) (f : Nat) (hB : ∀ f' ≤ f, BinC C f') (l d p : Nat) (w : World) (h1 : 1 ≤ l) (h5 : l ≤ 5) (hd : d ≤ 32) (h : Cur C w p) (hf : 16 * (C.L.length - p) + (10 - l) ≤ f + 1) :
    Calls Tryd.prog 57 #[C.ptr, .int .i64 (l : Int), .int .i64 (d : Int)] w (RdTo C w (rd C.R (f + 1) (.lev l) p d)) := by
  have hz := zeroEx'
  have hlt := h.lt
  have hle := h.le
  have hln := hC.len
  have hw1 : IntKind.i64.wrap ((l : Int) + 1) = ((l + 1 : Nat) : Int) := by rw [IntWalk.i64_in _ (by omega)]; omega
  have hl6 : ((l : Int) == 6) = false := by simp; omega
  have hl6' : decide ((l : Int) = 6) = false := by simp; omega
  have hl6'' : decide (l = 6) = false := by simp; omega
  have HB1 := Lib.hid (hB f (Nat.le_refl _) (l + 1) d p _ (by omega) (by omega) hd (h.under (entry_below w)) (by omega))
  have HBB := Lib.hid hB
  have HE := Lib.hid (entry_slot w)
  have HES := Lib.hid (entry_size w)
  have HEB := Lib.hid (entry_below w)
  have hin := rd_in (row_ok C.T C.L) f (.lev (l + 1)) p d hle (fun h => by cases h)
  have hfi := rd_fine (row_ok C.T C.L) hC.len f (.lev (l + 1)) p d hle (fun h => by cases h) trivial
  have hrd := rd_lev (R := C.R) (f := f) (l := l) (a := p) (d := d) (by omega)
  obtain ⟨g, hg⟩ : ∃ g, rd C.R f (.lev (l + 1)) p d = g := ⟨_, rfl⟩
  rw [hg] at HB1 hin hfi hrd
  obtain ⟨X, hX⟩ : ∃ X, rd C.R (f + 1) (.lev l) p d = X := ⟨_, rfl⟩
  rw [hX] at hrd ⊢
  have HIN := Lib.hid hin
  have HFI := Lib.hid hfi
  have HRD := Lib.hid hrd
  have SL : Hid (∀ p, Cur C w p → True) := Lib.hid fun _ _ => trivial
  clear hB h hg hX hin hfi hrd SL
  go_enter Tryd.func57, Tryd.ntmps57
  go_wp2_with (first
    | (go_at_call 57; refine HB1.out.mono ?_; rintro e w2 ⟨lv, rfl, hx, hgr, hc⟩; have hone := hx.one; have HX := Lib.hid hx; have HG := Lib.hid hgr; have HC2 := Lib.hid hc; clear hx hgr hc; dsimp only [exV])
    | (refine wpList_stx rfl (.tmp 8) (.tmp 27) rfl w2.heap.size rfl (entry_slot w2) (e := g.e) (lv := lv) rfl hone ?_; intro w3 hg3 hs3; have HG3 := Lib.hid hg3; have HS3 := Lib.hid hs3; clear hg3 hs3)
    | fail)
  have hs12 := HG.out.size
  rw [HES.out] at hs12
  have hs23 := HG3.out.size
  rw [entry_size] at hs23
  -- the state at the loop's head
  have hg3 : w.grownBy w3 (some C.g) := fr_new (gb_trans (gb_trans (below_fr HEB.out _) HG.out) (below_fr (entry_below w2) _)) HG3.out (by omega)
  have hc3 : Cur C w3 g.p := (HC2.out.under (entry_below w2)).grown HG3.out (fun k e => by cases e; omega)
  have hs6 : Slot w3 w.heap.size Ex.nul (.slice none 0 0) := ((HE.out.grown HG.out (by intro e; injection e; omega)).below (entry_below w2) (by omega)).grown HG3.out (by intro e; injection e; omega)
  have hx3 : Shx w3 (fun b => w.heap.size < b ∧ b ≠ w2.heap.size) lv g.e.l := ((HX.out.weak (S' := fun b => w.heap.size < b ∧ b ≠ w2.heap.size) fun b hb hlt => ⟨by rw [HES.out] at hb; omega, by omega⟩).under (entry_below w2) (fun b _ hb => hb)).grown HG3.out (fun b hb _ e => by injection e with e; exact hb.2 e)
  obtain ⟨G8, hG8⟩ : ∃ G8, w2.heap.size = G8 := ⟨_, rfl⟩
  rw [hG8] at hx3 HS3 ⊢
  have hG8l : w.heap.size < G8 := by omega
  have hinv : g.r = 0 → Fine g.e ∧ g.e.cnt + p ≤ g.p ∧ ∃ f', f' ≤ f ∧ 16 * (C.L.length - g.p) + 15 ≤ f' ∧ rd C.R f' (.loop l g.e) g.p d = X := fun h0 => by
    have h2 := HFI.out h0
    have h3 := HIN.out.2.2 h0 rfl
    refine ⟨h2.1, h2.2, f, Nat.le_refl _, by have := HIN.out.2.1; have : g.p ≤ C.L.length := this; omega, ?_⟩
    have h4 := HRD.out
    rw [if_pos h0] at h4
    exact h4.symm
  have hinv2 : g.r ≠ 0 → X = bad g.p g.r := fun h0 => by
    have h4 := HRD.out
    rw [if_neg h0] at h4
    exact h4
  have J1 := Lib.hid hg3
  have J2 := Lib.hid hc3
  have J3 := Lib.hid hs6
  have J4 := Lib.hid hx3
  have J5 := Lib.hid hinv
  have J6 := Lib.hid hinv2
  clear hg3 hc3 hs6 hx3 hG8 hinv hinv2 hs12 hs23
  clear HB1 HIN HFI HRD HX HG HC2 HG3
  go_loopw [9] (fun ev wr => ∃ (x : Ex) (zv : Value) (q : Nat) (er : Int), ev = .int .i64 er ∧ w.grownBy wr (some C.g) ∧ Cur C wr q ∧ Slot wr w.heap.size Ex.nul (.slice none 0 0) ∧ Slot wr G8 x zv ∧ Shx wr (fun b => w.heap.size < b ∧ b ≠ G8) zv x.l ∧
      (er = 0 → Fine x ∧ x.cnt + p ≤ q ∧ ∃ f', f' ≤ f ∧ 16 * (C.L.length - q) + 15 ≤ f' ∧ rd C.R f' (.loop l x) q d = X) ∧ (er ≠ 0 → X = bad q er)) (fun ev wr => if intOf ev = 0 then 1 + (C.L.length - placeOf wr C.g) else 0)
  case atStart => exact ⟨g.e, lv, g.p, g.r, rfl, J1.out, J2.out, J3.out, HS3.out, J4.out, J5.out, J6.out⟩
  case round =>
    clear J1 J2 J3 J4 J5 J6 HS3 hone
    obtain ⟨x, zv, q, er, rfl, hg, hc, hs6, hs8, hx, hi1, hi2⟩ := hrel
    have K1 := Lib.hid hg
    have K2 := Lib.hid hc
    have K3 := Lib.hid hs6
    have K4 := Lib.hid hs8
    have K5 := Lib.hid hx
    have hone := hx.one
    have c2 := hc.pl
    have hpl := placeOf_eq hc
    have hql := hc.le
    clear hg hc hs6 hs8 hx
    by_cases h0 : er = 0
    · subst h0
      obtain ⟨hfx, hcx, f', hf1, hf2, hf3⟩ := hi1 rfl
      have M1 := Lib.hid hfx
      have M3 := Lib.hid hf3
      have hSG := Lib.hid (sign_lev C hC q l wr K2.out h1 h5)
      obtain ⟨f'', rfl⟩ : ∃ f'', f' = f'' + 1 := ⟨f' - 1, by omega⟩
      clear hi1 hi2 hfx hf3
      cases hsg : sgnL l (C.R.wd q) with
      | false =>
        rw [hsg] at hSG
        have M4 : Hid (good x q = X) := Lib.hid (by rw [← M3.out, rd_loop_no hsg])
        go_wp2_with (first
          | (go_at_call 68; refine hSG.out.mono ?_; rintro e w4 ⟨rfl, hc4, hg4⟩; have HC4 := Lib.hid hc4; have HG4 := Lib.hid hg4; clear hc4 hg4; dsimp only)
          | (refine wpList_ldx' rfl (.tmp 8) rfl G8 0 rfl (K4.out.grown HG4.out (by intro e; injection e; omega)).cs ?_)
          | (refine wpList_stx rfl (.tmp 6) (.tmp 40) rfl w.heap.size rfl (K3.out.grown HG4.out (by intro e; injection e; omega)) (e := x) (lv := zv) rfl hone ?_; intro w5 hg5 hs5; have HG5 := Lib.hid hg5; have HS5 := Lib.hid hs5; clear hg5 hs5)
          | fail)
        rw [← M4.out]
        refine ex_done rfl rfl rfl rfl HS5.out ⟨zv, rfl, ?_, ?_, ?_⟩
        · exact ((K5.out.grown HG4.out (fun b hb _ e => by injection e with e; omega)).grown HG5.out (fun b hb _ e => by injection e with e; omega)).weak (fun b hb _ => by omega)
        · exact fr_new (gb_trans K1.out HG4.out) HG5.out (Nat.le_refl _)
        · exact (show Cur C _ q from HC4.out).grown HG5.out (fun k e => by cases e; omega)
      | true =>
        rw [hsg] at hSG
        have hne := sgnL_ne hsg
        have hql2 : q < C.L.length := (row_ok C.T C.L).sgnL_lt hsg
        have hwr := K1.out.size
        have hwr8 := K4.out.lt
        obtain ⟨g2, hg2⟩ : ∃ g2, rd C.R f'' (.lev (l + 1)) (q + 1) d = g2 := ⟨_, rfl⟩
        have hin := rd_in (row_ok C.T C.L) f'' (.lev (l + 1)) (q + 1) d hql2 (fun h => by cases h)
        have hfi := rd_fine (row_ok C.T C.L) hC.len f'' (.lev (l + 1)) (q + 1) d hql2 (fun h => by cases h) trivial
        have hly := rd_loop_yes (e := x) hsg hg2
        rw [M3.out] at hly
        rw [hg2] at hin hfi
        have HBC : Hid (∀ W, Cur C W (q + 1) → Calls Tryd.prog 57 #[C.ptr, .int .i64 ((l + 1 : Nat) : Int), .int .i64 (d : Int)] W (RdTo C W g2)) := Lib.hid fun W hW => by
          have := HBB.out f'' (by omega) (l + 1) d (q + 1) W (by omega) (by omega) hd hW (by omega)
          rwa [hg2] at this
        have M5 := Lib.hid hin
        have M6 := Lib.hid hfi
        have M7 := Lib.hid hly
        have hg2p : g2.p ≤ C.L.length := hin.2.1
        have hg2q : q + 1 ≤ g2.p := hin.1
        clear hg2 hin hfi hly
        by_cases hr2 : g2.r = 0
        · have hfg := M6.out hr2
          have hgt := M5.out.2.2 hr2 rfl
          obtain ⟨G2, hG2⟩ : ∃ G2, hld (eBin (C.R.wd q) x g2.e) g2.p q = G2 := ⟨_, rfl⟩
          have hcnt : (eBin (C.R.wd q) x g2.e).cnt ≤ 1000000 := by rw [bin_cnt]; have := hfg.2; omega
          have HPU : Hid (∀ W lv (S : Nat → Prop), Cur C W g2.p → Shx W S lv (eBin (C.R.wd q) x g2.e).l → (∀ b, S b → b ≠ C.g) → Calls Tryd.prog 69 #[C.ptr, .int .i64 (q : Int), exV (eBin (C.R.wd q) x g2.e) lv] W (PutTo C S W G2)) := Lib.hid fun W lv S h1 h2 h3 => by
            have := put_any C hC g2.p q W h1 (by omega) (eBin (C.R.wd q) x g2.e) lv S (bin_wfx M1.out hfg.1) hcnt h2 h3
            rwa [hG2] at this
          have M8 := Lib.hid hfg
          have M9 := Lib.hid hG2
          have hr2' : (g2.r == 0) = true := by simp [hr2]
          have hr2'' : decide (g2.r = 0) = true := by simp [hr2]
          clear hfg hG2
          go_wp2_with (first
            | (go_at_call 68; refine hSG.out.mono ?_; rintro e w4 ⟨rfl, hc4, hg4⟩; have HC4 := Lib.hid (show Cur C w4 (q + 1) from hc4); have HG4 := Lib.hid hg4; have hs4 := hg4.size; clear hc4 hg4; dsimp only)
            | (go_at_call 57; refine (HBC.out _ (HC4.out.under (entry_below w4))).mono ?_; rintro e w5 ⟨lv2, rfl, hx5, hg5, hc5⟩; have hone5 := hx5.one; have HX5 := Lib.hid hx5; have HG5 := Lib.hid hg5; have HC5 := Lib.hid hc5; have hs5 := hg5.size; rw [entry_size] at hs5; clear hx5 hg5 hc5; dsimp only [exV])
            | (refine wpList_stx rfl (.tmp 12) (.tmp 47) rfl w4.heap.size rfl ((entry_slot w4).grown HG5.out (by intro e; injection e; omega)) (e := g2.e) (lv := lv2) rfl hone5 ?_; intro w6 hg6 hs6; have HG6 := Lib.hid hg6; have HS6 := Lib.hid hs6; have hz6 := hg6.size; have HK8 := Lib.hid ((((K4.out.grown HG4.out (by intro e; injection e; omega)).below (entry_below w4) (by omega)).grown HG5.out (by intro e; injection e; omega)).grown hg6 (by intro e; injection e; omega)); have c81 : ∀ o, (w6.alloc o).cell? ⟨G8, 1, none⟩ = some (.int .i64 x.a) := (fun o => (World.cell?_alloc_past _ _ _ HK8.out.lt).trans (HK8.out.cs 1 _ rfl)); clear hg6 hs6)
            | (refine wpList_ldx' rfl (.tmp 8) rfl G8 0 rfl HK8.out.cs ?_)
            | (refine wpList_ldx' rfl (.tmp 12) rfl w4.heap.size 0 rfl HS6.out.cs ?_)
            | (go_at_call 69; have HXA : Hid (Shx w6 (fun b => w.heap.size < b ∧ b ≠ G8) zv x.l) := Lib.hid ((((((K5.out.weak (S' := fun b => (w.heap.size < b ∧ b ≠ G8) ∧ b < wr.heap.size) (by intro b h1 h2; exact ⟨h1, h2⟩)).grown HG4.out (by intro b hb _ e; injection e; omega)).under (entry_below w4) (by intro b _ hb; exact hb)).grown HG5.out (by intro b hb _ e; injection e; omega)).grown HG6.out (by intro b hb _ e; injection e with e; omega)).weak (by intro b hb _; exact hb.1)); have HXB : Hid (Shx w6 (fun b => w.heap.size < b ∧ b ≠ G8) lv2 g2.e.l) := Lib.hid ((HX5.out.grown HG6.out (by intro b hb _ e; injection e with e; rw [entry_size] at hb; omega)).weak (by intro b hb _; rw [entry_size] at hb; omega)); have HC6 : Hid (Cur C w6 g2.p) := Lib.hid (HC5.out.grown HG6.out (by intro k e; cases e; omega)); have HLT := Lib.hid (Shx.lit (w := w6) (S := fun b => w.heap.size < b ∧ b ≠ G8) [(x, zv), (g2.e, lv2)] (by simp) (by intro p hp; simp at hp; rcases hp with rfl | rfl; exact HXA.out; exact HXB.out) (by omega) (C := #[.int .i64 x.k, .int .i64 x.a, .int .i64 x.m, .string x.nm, .string x.lb, zv, .int .i64 g2.e.k, .int .i64 g2.e.a, .int .i64 g2.e.m, .string g2.e.nm, .string g2.e.lb, lv2]) rfl); refine (HPU.out _ _ (fun b => w.heap.size < b ∧ b ≠ G8) (HC6.out.under ((Below.refl _ _).alloc (Nat.le_refl _) _)) HLT.out (by intro b hb; omega)).mono ?_; rintro e w7 ⟨lv7, rfl, hx7, hg7, hc7⟩; have hone7 := hx7.one; have HX7 := Lib.hid hx7; have HG7 := Lib.hid hg7; have HC7 := Lib.hid hc7; have hs7 := hg7.size; clear hx7 hg7 hc7; dsimp only [exV])
            | (refine wpList_stx rfl (.tmp 8) (.tmp 63) rfl G8 rfl ((HK8.out.below ((Below.refl _ _).alloc (Nat.le_refl _) _) HK8.out.lt).grown HG7.out (by intro e; injection e; omega)) (e := G2.e) (lv := lv7) rfl hone7 ?_; intro w8 hg8 hs8; have HG8' := Lib.hid hg8; have HS8 := Lib.hid hs8; clear hg8 hs8)
            | fail)
          have hfrm : w.grownBy w8 (some C.g) := fr_new (gb_trans (gb_trans (fr_new (gb_trans (gb_trans (gb_trans K1.out HG4.out) (below_fr (entry_below w4) _)) HG5.out) HG6.out (by omega)) (below_fr ((Below.refl _ _).alloc (Nat.le_refl _) _) _)) HG7.out) HG8'.out (by omega)
          have hcur : Cur C w8 G2.p := HC7.out.grown HG8'.out (fun k e => by cases e; omega)
          have hs6 : Slot w8 w.heap.size Ex.nul (.slice none 0 0) := (((((((K3.out.grown HG4.out (by intro e; injection e; omega)).below (entry_below w4) (by omega)).grown HG5.out (by intro e; injection e; omega)).grown HG6.out (by intro e; injection e; omega)).below ((Below.refl _ _).alloc (Nat.le_refl _) _) (by omega)).grown HG7.out (by intro e; injection e; omega)).grown HG8'.out (by intro e; injection e; omega))
          have hshx : Shx w8 (fun b => w.heap.size < b ∧ b ≠ G8) lv7 G2.e.l := HX7.out.grown HG8'.out (fun b hb _ e => by injection e with e; exact hb.2 e)
          have hpl8 := placeOf_eq hcur
          have hfin : (G2.r = 0 → G2.p = g2.p ∧ Fine G2.e ∧ G2.e.cnt + p ≤ G2.p ∧ rd C.R f'' (.loop l G2.e) G2.p d = X) ∧ (G2.r ≠ 0 → X = bad G2.p G2.r) := by
            have h7 := M7.out
            rw [if_pos hr2, M9.out] at h7
            refine ⟨fun h0 => ?_, fun h0 => ?_⟩
            · rw [if_pos h0] at h7
              rcases hld_p (eBin (C.R.wd q) x g2.e) g2.p q with ⟨e1, e2, e3, e4⟩ | ⟨e1, _, _⟩
              · rw [M9.out] at e2 e3
                have h8 := M8.out.2
                rw [e2, e3]
                refine ⟨rfl, ⟨bin_wfx M1.out M8.out.1, e4⟩, by rw [bin_cnt]; omega, ?_⟩
                rw [e2, e3] at h7
                exact h7.symm
              · rw [M9.out, h0] at e1; cases e1
            · rw [if_neg h0] at h7
              exact h7
          have HF1 := Lib.hid hfrm
          have HF2 := Lib.hid hcur
          have HF3 := Lib.hid hs6
          have HF4 := Lib.hid hshx
          have HF5 := Lib.hid hfin
          clear hfrm hcur hs6 hshx hfin
          go_roundw
          case rel =>
            refine ⟨G2.e, lv7, G2.p, G2.r, rfl, HF1.out, HF2.out, HF3.out, HS8.out, HF4.out, fun h0 => ?_, HF5.out.2⟩
            obtain ⟨e1, e2, e3, e4⟩ := HF5.out.1 h0
            exact ⟨e2, e3, f'', by omega, by omega, e4⟩
          case measure =>
            rw [hpl8, hpl]
            by_cases h0 : G2.r = 0
            · obtain ⟨e1, _, _, _⟩ := HF5.out.1 h0
              simp only [intOf, h0, if_true]
              omega
            · simp only [intOf, h0, if_false, if_true]
              omega
        · have hr2' : (g2.r == 0) = false := by simp [hr2]
          have hr2'' : decide (g2.r = 0) = false := by simp [hr2]
          go_wp2_with (first
            | (go_at_call 68; refine hSG.out.mono ?_; rintro e w4 ⟨rfl, hc4, hg4⟩; have HC4 := Lib.hid (show Cur C w4 (q + 1) from hc4); have HG4 := Lib.hid hg4; have hs4 := hg4.size; clear hc4 hg4; dsimp only)
            | (go_at_call 57; refine (HBC.out _ (HC4.out.under (entry_below w4))).mono ?_; rintro e w5 ⟨lv2, rfl, hx5, hg5, hc5⟩; have hone5 := hx5.one; have HX5 := Lib.hid hx5; have HG5 := Lib.hid hg5; have HC5 := Lib.hid hc5; have hs5 := hg5.size; rw [entry_size] at hs5; clear hx5 hg5 hc5; dsimp only [exV])
            | (refine wpList_stx rfl (.tmp 12) (.tmp 47) rfl w4.heap.size rfl ((entry_slot w4).grown HG5.out (by intro e; injection e; omega)) (e := g2.e) (lv := lv2) rfl hone5 ?_; intro w6 hg6 hs6; have HG6 := Lib.hid hg6; have HS6 := Lib.hid hs6; have hz6 := hg6.size; clear hg6 hs6)
            | fail)
          have hfrm : w.grownBy w6 (some C.g) := fr_new (gb_trans (gb_trans (gb_trans K1.out HG4.out) (below_fr (entry_below w4) _)) HG5.out) HG6.out (by omega)
          have hcur : Cur C w6 g2.p := HC5.out.grown HG6.out (fun k e => by cases e; omega)
          have hs6 : Slot w6 w.heap.size Ex.nul (.slice none 0 0) := ((((K3.out.grown HG4.out (by intro e; injection e; omega)).below (entry_below w4) (by omega)).grown HG5.out (by intro e; injection e; omega)).grown HG6.out (by intro e; injection e; omega))
          have hs8 : Slot w6 G8 x zv := ((((K4.out.grown HG4.out (by intro e; injection e; omega)).below (entry_below w4) (by omega)).grown HG5.out (by intro e; injection e; omega)).grown HG6.out (by intro e; injection e; omega))
          have hshx : Shx w6 (fun b => w.heap.size < b ∧ b ≠ G8) zv x.l := ((((((K5.out.weak (S' := fun b => (w.heap.size < b ∧ b ≠ G8) ∧ b < wr.heap.size) (by intro b h1 h2; exact ⟨h1, h2⟩)).grown HG4.out (by intro b hb _ e; injection e; omega)).under (entry_below w4) (by intro b _ hb; exact hb)).grown HG5.out (by intro b hb _ e; injection e; omega)).grown HG6.out (by intro b hb _ e; injection e with e; omega)).weak (by intro b hb _; exact hb.1))
          have hpl8 := placeOf_eq hcur
          have hX2 : X = bad g2.p g2.r := by
            have h7 := M7.out
            rw [if_neg hr2] at h7
            exact h7
          have HF1 := Lib.hid hfrm
          have HF2 := Lib.hid hcur
          have HF3 := Lib.hid hs6
          have HF4 := Lib.hid hshx
          have HF5 := Lib.hid hs8
          have HF6 := Lib.hid hX2
          clear hfrm hcur hs6 hshx hs8 hX2
          go_roundw
          case rel => exact ⟨x, zv, g2.p, g2.r, rfl, HF1.out, HF2.out, HF3.out, HF5.out, HF4.out, fun h0 => absurd h0 hr2, fun _ => HF6.out⟩
          case measure =>
            rw [hpl]
            simp only [intOf, hr2, if_false, if_true]
            omega
    · have h0' : (er == 0) = false := by simp [h0]
      have h0'' : decide (er = 0) = false := by simp [h0]
      have M4 := Lib.hid (hi2 h0)
      clear hi1 hi2
      go_wp2_with (first
        | (refine wpList_stx rfl (.tmp 6) (.tmp 65) rfl w.heap.size rfl K3.out (e := Ex.nul) (lv := .slice none 0 0) rfl rfl ?_; intro w5 hg5 hs5; have HG5 := Lib.hid hg5; have HS5 := Lib.hid hs5; clear hg5 hs5)
        | fail)
      rw [M4.out]
      refine ex_done rfl rfl rfl rfl HS5.out ⟨.slice none 0 0, rfl, .nil, ?_, ?_⟩
      · exact fr_new K1.out HG5.out (Nat.le_refl _)
      · exact K2.out.grown HG5.out (fun k e => by cases e; omega)
theorem bin_step (C : Cx) (hC : TokOk C.T C.L) (f : Nat) (hB : ∀ f' ≤ f, BinC C f') (hS : SgC C f) : BinC C (f + 1) := fun l d p w h1 h6 hd h hf => by
  by_cases h5 : l ≤ 5
  · exact binaryL C hC f hB l d p w h1 h5 hd h hf
  · obtain rfl : l = 6 := by omega
    exact binary6 C hC f hS d p w hd h (by omega)
end Go.Proofs.YtnhhdafhnngolaaDoor

/-
  CONTRACT OF (*expr.Cursor).signed, from those of less fuel.
-/
import Derived.Test.YtnhhdafhnngolaaDoorEpR2
import Derived.Deep.RegionHeld3
namespace Go.Proofs.YtnhhdafhnngolaaDoor
set_option linter.unusedVariables false
set_option linter.unusedSimpArgs false
open Go.RowKit

theorem Cur.drew {C : Cx} {w : World} {p : Nat} (h : Cur C w p) : Cur C w.drew p := ⟨h.t, h.l, h.pl, h.fz, h.sh, h.lt, h.le, ⟨h.vars.lev, h.vars.rng⟩, h.far⟩
theorem Slot.drew {w : World} {G : Nat} {x : Ex} {lv : Value} (h : Slot w G x lv) : Slot w.drew G x lv := ⟨h.cs, h.fz, h.lt⟩
theorem below_drew (w : World) (B : Nat) : Below B w w.drew := ⟨rfl, rfl, rfl, Nat.le_refl _, fun _ _ => rfl⟩

theorem rd_sg_no {R : Rw} {f a d : Nat} (h : (R.is a [33] || R.is a [45]) = false) : rd R (f + 1) .sg a d = rd R f .pr a d := by
  simp only [rd]
  rw [if_neg (by rw [h]; decide)]
theorem rd_sg_deep {R : Rw} {f a d : Nat} (h : (R.is a [33] || R.is a [45]) = true) (hd : d = 32) : rd R (f + 1) .sg a d = bad a 12 := by
  simp only [rd]
  rw [if_pos h, if_pos hd]
theorem rd_sg_yes {R : Rw} {f a d : Nat} {g : Gt} (h : (R.is a [33] || R.is a [45]) = true) (hd : ¬ d = 32) (hg : rd R f .sg (a + 1) (d + 1) = g) : rd R (f + 1) .sg a d = if g.r = 0 then hld (eUn (R.ps a) (R.wd a) g.e) g.p a else bad g.p g.r := by
  simp only [rd]
  rw [if_pos h, if_neg hd, hg]

set_option maxRecDepth 10000 in
set_option maxHeartbeats 1600000 in
theorem signed_step (C : Cx) (hC : TokOk C.T C.L) (f : Nat) (hS : SgC C f) (hP : PrC C f) : SgC C (f + 1) := by
  intro d p w hd h hf
  have hz := zeroEx'
  have hlt := h.lt
  have hle := h.le
  have hln := hC.len
  have HC0 := Lib.hid (h.under (entry_below w)).drew
  have HE := Lib.hid (entry_slot w).drew
  have HES := Lib.hid (show ((w.alloc (.cells #[.int .i64 0, .int .i64 0, .int .i64 0, .string ⟨#[]⟩, .string ⟨#[]⟩, .slice none 0 0] 27)).drew).heap.size = w.heap.size + 1 from entry_size w)
  have HEB := Lib.hid ((entry_below w).trans (below_drew _ _))
  have HPO : Hid (∀ W, Cur C W p → Calls Tryd.prog 23 #[C.ptr] W fun e w' => e = .returned (.int .i64 (C.R.ps p)) ∧ Below W.heap.size W w') := Lib.hid fun W h2 => pos_any C hC p W h2
  have HPK : Hid (∀ W, Cur C W p → Calls Tryd.prog 22 #[C.ptr] W fun e w' => e = .returned (.string (C.R.wd p)) ∧ Below W.heap.size W w') := Lib.hid fun W h2 => peek_any C hC p W h2
  have c0 := HC0.out.pl
  obtain ⟨W0, hW0⟩ : ∃ W0, w.alloc (.cells #[.int .i64 0, .int .i64 0, .int .i64 0, .string ⟨#[]⟩, .string ⟨#[]⟩, .slice none 0 0] 27) = W0 := ⟨_, rfl⟩
  have HW := Lib.hid hW0
  rw [hW0] at HC0 HE HES HEB c0
  clear h hW0
  go_enter Tryd.func67, Tryd.ntmps67
  go_wp2_with fail
  rw [HW.out]
  go_region_held3 (fun w' => w'.cell? ⟨C.g, 2, none⟩ = some (.int .i64 (p : Int))) (((try dsimp only); first | assumption | go_keep)) (first
    | (go_at_call 23; refine (HPO.out _ HC0.out).mono ?_; rintro e w2 ⟨rfl, b2⟩; have HC2 := Lib.hid (HC0.out.under b2); have B2 := Lib.hid b2; have c2 := HC2.out.pl; clear b2)
    | (go_at_call 22; refine (HPK.out _ HC2.out).mono ?_; rintro e w3 ⟨rfl, b3⟩; have HC3 := Lib.hid (HC2.out.under b3); have B3 := Lib.hid b3; have c3 := HC3.out.pl; clear b3)
    | fail)
  have hfr3 : w.grownBy w3 (some C.g) := gb_trans (gb_trans (below_fr HEB.out _) (below_fr B2.out _)) (below_fr B3.out _)
  have hsl3 : Slot w3 w.heap.size Ex.nul (.slice none 0 0) := (HE.out.below B2.out (by have := HES.out; show w.heap.size < W0.drew.heap.size; omega)).below B3.out (by have := HES.out; have := B2.out.size; omega)
  have hsz3 : w.heap.size + 1 ≤ w3.heap.size := by have := HES.out; have := B2.out.size; have := B3.out.size; omega
  have J1 := Lib.hid hfr3
  have J2 := Lib.hid hsl3
  clear hfr3 hsl3 c0 c2 c3 HC0 HC2 HE HES HEB HW B2 B3
  cases hsg : (C.R.is p [33] || C.R.is p [45]) with
  | false =>
    obtain ⟨e33, e45⟩ := Bool.or_eq_false_iff.1 hsg
    have e33' : ((C.R.wd p).toList == [33]) = false := e33
    have e45' : ((C.R.wd p).toList == [45]) = false := e45
    have HRD := Lib.hid (rd_sg_no (f := f) (d := d) hsg)
    have HP := Lib.hid (hP d p w3 hd HC3.out (by omega))
    obtain ⟨g, hg⟩ : ∃ g, rd C.R f .pr p d = g := ⟨_, rfl⟩
    rw [hg] at HP
    have HG0 := Lib.hid hg
    clear hS hP hsg e33 e45 hg
    go_wp2_with (first
      | (go_at_call 81; refine HP.out.mono ?_; rintro e w4 ⟨lv, rfl, hx, hg, hc⟩; have hone := hx.one; have HX := Lib.hid hx; have HG := Lib.hid hg; have HC4 := Lib.hid hc; clear hx hg hc; dsimp only)
      | (refine wpList_stx rfl (.tmp 4) (.tmp 29) rfl w.heap.size rfl (J2.out.grown HG.out (by intro e; injection e; omega)) (e := g.e) (lv := lv) rfl hone ?_; intro w5 hg5 hs5; have HG5 := Lib.hid hg5; have HS5 := Lib.hid hs5; clear hg5 hs5)
      | fail)
    rw [HRD.out, HG0.out]
    refine ex_done rfl rfl rfl rfl HS5.out ⟨lv, rfl, ?_, ?_, ?_⟩
    · exact (HX.out.grown HG5.out (fun b hb _ e => by injection e with e; omega)).weak (fun b hb _ => by omega)
    · exact fr_new (gb_trans J1.out HG.out) HG5.out (Nat.le_refl _)
    · exact HC4.out.grown HG5.out (fun k e => by cases e; omega)
  | true =>
    have hw0 : (C.R.wd p).size ≠ 0 := fun h0 => by
      have : C.R.wd p = ⟨#[]⟩ := by
        apply ByteArray.ext
        exact Array.eq_empty_of_size_eq_zero h0
      unfold Rw.is at hsg
      rw [this, empty_toList] at hsg
      cases hsg
    have hplt : p < C.L.length := by
      rcases Bool.or_eq_true_iff.1 hsg with h | h
      · exact (row_ok C.T C.L).is_lt h
      · exact (row_ok C.T C.L).is_lt h
    have hself : C.R.is p (C.R.wd p).toList = true := by unfold Rw.is; simp
    have hor : ((C.R.wd p).toList == [33]) = true ∨ (((C.R.wd p).toList == [33]) = false ∧ ((C.R.wd p).toList == [45]) = true) := by
      rcases Bool.or_eq_true_iff.1 hsg with h | h
      · exact .inl h
      · cases h3 : C.R.is p [33] with
        | true => exact .inl h3
        | false => exact .inr ⟨h3, h⟩
    have HD := Lib.hid (deeper_any C hC p d w3 HC3.out (C.R.wd p) hw0 hd)
    by_cases h32 : d = 32
    · have HDP : Hid (deepP C.R p (C.R.wd p) d = (p, 12)) := Lib.hid (by unfold deepP; rw [if_pos hself, if_pos h32])
      rw [HDP.out] at HD
      have HRD := Lib.hid (rd_sg_deep (f := f) hsg h32)
      subst h32
      have HX : Hid (∀ e : Ending, e = .returned (.tuple #[exV (bad p 12).e (.slice none 0 0), .int .i64 (bad p 12).r]) → True) := Lib.hid fun _ _ => trivial
      clear HX
      rcases hor with h' | ⟨h', h''⟩
      all_goals
        clear hS hP hsg hself
        go_wp2_with (first
          | (go_at_call 82; refine HD.out.mono ?_; rintro e w4 ⟨rfl, hc4, hg4⟩; have HC4 := Lib.hid hc4; have HG4 := Lib.hid hg4; clear hc4 hg4; dsimp only)
          | (refine wpList_stx rfl (.tmp 4) (.tmp 37) rfl w.heap.size rfl (J2.out.grown HG4.out (by intro e; injection e; omega)) (e := Ex.nul) (lv := .slice none 0 0) rfl rfl ?_; intro w5 hg5 hs5; have HG5 := Lib.hid hg5; have HS5 := Lib.hid hs5; clear hg5 hs5)
          | fail)
        rw [HRD.out]
        refine ex_done rfl rfl rfl rfl HS5.out ⟨.slice none 0 0, rfl, .nil, ?_, ?_⟩
        · exact fr_new (gb_trans J1.out HG4.out) HG5.out (Nat.le_refl _)
        · exact HC4.out.grown HG5.out (fun k e => by cases e; omega)
    · have HDP : Hid (deepP C.R p (C.R.wd p) d = (p + 1, 0)) := Lib.hid (by unfold deepP; rw [if_pos hself, if_neg h32])
      rw [HDP.out] at HD
      obtain ⟨g, hg⟩ : ∃ g, rd C.R f .sg (p + 1) (d + 1) = g := ⟨_, rfl⟩
      have HRD := Lib.hid (rd_sg_yes hsg h32 hg)
      have hin := rd_in (row_ok C.T C.L) f .sg (p + 1) (d + 1) hplt (fun h => by cases h)
      have hfi := rd_fine (row_ok C.T C.L) hC.len f .sg (p + 1) (d + 1) hplt (fun h => by cases h) trivial
      have HSC : Hid (∀ W, Cur C W (p + 1) → Calls Tryd.prog 67 #[C.ptr, .int .i64 ((d + 1 : Nat) : Int)] W (RdTo C W g)) := Lib.hid fun W hW => by
        have := hS (d + 1) (p + 1) W (by omega) hW (by omega)
        rwa [hg] at this
      rw [hg] at hin hfi
      have hgp : g.p ≤ C.L.length := hin.2.1
      have hw1 : IntKind.i64.wrap ((d : Int) + 1) = ((d + 1 : Nat) : Int) := by rw [IntWalk.i64_in _ (by omega)]; omega
      have HIN := Lib.hid hin
      have HFI := Lib.hid hfi
      clear hin hfi hg
      by_cases hr : g.r = 0
      · have hfg := HFI.out hr
        have hcnt : (eUn (C.R.ps p) (C.R.wd p) g.e).cnt ≤ 1000000 := by rw [un_cnt]; have := hfg.2; omega
        obtain ⟨G2, hG2⟩ : ∃ G2, hld (eUn (C.R.ps p) (C.R.wd p) g.e) g.p p = G2 := ⟨_, rfl⟩
        have HPU : Hid (∀ W lv (S : Nat → Prop), Cur C W g.p → Shx W S lv (eUn (C.R.ps p) (C.R.wd p) g.e).l → (∀ b, S b → b ≠ C.g) → Calls Tryd.prog 69 #[C.ptr, .int .i64 (p : Int), exV (eUn (C.R.ps p) (C.R.wd p) g.e) lv] W (PutTo C S W G2)) := Lib.hid fun W lv S h1 h2 h3 => by
          have := put_any C hC g.p p W h1 hle (eUn (C.R.ps p) (C.R.wd p) g.e) lv S (un_wfx hfg.1) hcnt h2 h3
          rwa [hG2] at this
        have HX2 : Hid (rd C.R (f + 1) .sg p d = G2) := Lib.hid (by rw [HRD.out, if_pos hr, hG2])
        have hr2' : (g.r == 0) = true := by simp [hr]
        have hr2'' : decide (g.r = 0) = true := by simp [hr]
        rcases hor with h' | ⟨h', h''⟩
        all_goals
          clear hS hP hsg hself hfg hG2
          go_wp2_with (first
            | (go_at_call 82; refine HD.out.mono ?_; rintro e w4 ⟨rfl, hc4, hg4⟩; have HC4 := Lib.hid hc4; have HG4 := Lib.hid hg4; have hs4 := hg4.size; clear hc4 hg4; dsimp only)
            | (go_at_call 67; refine (HSC.out _ HC4.out).mono ?_; rintro e w5 ⟨lv, rfl, hx5, hg5, hc5⟩; have hone5 := hx5.one; have HX5 := Lib.hid hx5; have HG5 := Lib.hid hg5; have HC5 := Lib.hid hc5; have hs5 := hg5.size; clear hx5 hg5 hc5; dsimp only [exV])
            | (refine wpList_stx rfl (.tmp 10) (.tmp 44) rfl w5.heap.size rfl (entry_slot w5) (e := g.e) (lv := lv) rfl hone5 ?_; intro w6 hg6 hs6; have HG6 := Lib.hid hg6; have HS6 := Lib.hid hs6; have hz6 := hg6.size; rw [entry_size] at hz6; clear hg6 hs6)
            | (refine wpList_ldx' rfl (.tmp 10) rfl w5.heap.size 0 rfl HS6.out.cs ?_)
            | (go_at_call 69; have HXA : Hid (Shx w6 (fun b => w.heap.size < b) lv g.e.l) := Lib.hid (((HX5.out.weak (S' := fun b => w.heap.size < b ∧ b < w5.heap.size) (by intro b h1 h2; omega)).under (entry_below w5) (by intro b _ hb; exact hb)).grown HG6.out (by intro b hb _ e; injection e with e; omega) |>.weak (by intro b hb _; exact hb.1)); have HC6 : Hid (Cur C w6 g.p) := Lib.hid ((HC5.out.under (entry_below w5)).grown HG6.out (by intro k e; cases e; omega)); have HLT := Lib.hid (Shx.lit (w := w6) (S := fun b => w.heap.size < b) [(g.e, lv)] (by simp) (by intro p hp; simp at hp; rcases hp with rfl; exact HXA.out) (by omega) (C := #[.int .i64 g.e.k, .int .i64 g.e.a, .int .i64 g.e.m, .string g.e.nm, .string g.e.lb, lv]) rfl); refine (HPU.out _ _ (fun b => w.heap.size < b) (HC6.out.under ((Below.refl _ _).alloc (Nat.le_refl _) _)) HLT.out (by intro b hb; omega)).mono ?_; rintro e w7 ⟨lv7, rfl, hx7, hg7, hc7⟩; have hone7 := hx7.one; have HX7 := Lib.hid hx7; have HG7 := Lib.hid hg7; have HC7 := Lib.hid hc7; have hs7 := hg7.size; clear hx7 hg7 hc7; dsimp only [exV])
            | (refine wpList_stx rfl (.tmp 4) (.tmp 58) rfl w.heap.size rfl ((((((J2.out.grown HG4.out (by intro e; injection e; omega)).grown HG5.out (by intro e; injection e; omega)).below (entry_below w5) (by omega)).grown HG6.out (by intro e; injection e; omega)).below ((Below.refl _ _).alloc (Nat.le_refl _) _) (by omega)).grown HG7.out (by intro e; injection e; omega)) (e := G2.e) (lv := lv7) rfl hone7 ?_; intro w8 hg8 hs8; have HG8 := Lib.hid hg8; have HS8 := Lib.hid hs8; clear hg8 hs8)
            | fail)
          rw [HX2.out]
          refine ex_done rfl rfl rfl rfl HS8.out ⟨lv7, rfl, ?_, ?_, ?_⟩
          · exact (HX7.out.grown HG8.out (fun b hb _ e => by injection e with e; omega)).weak (fun b hb _ => by omega)
          · exact fr_new (gb_trans (gb_trans (fr_new (gb_trans (gb_trans (gb_trans J1.out HG4.out) HG5.out) (below_fr (entry_below w5) _)) HG6.out (by omega)) (below_fr ((Below.refl _ _).alloc (Nat.le_refl _) _) _)) HG7.out) HG8.out (Nat.le_refl _)
          · exact HC7.out.grown HG8.out (fun k e => by cases e; omega)
      · have HX2 : Hid (rd C.R (f + 1) .sg p d = bad g.p g.r) := Lib.hid (by rw [HRD.out, if_neg hr])
        have hr2' : (g.r == 0) = false := by simp [hr]
        have hr2'' : decide (g.r = 0) = false := by simp [hr]
        rcases hor with h' | ⟨h', h''⟩
        all_goals
          clear hS hP hsg hself
          go_wp2_with (first
            | (go_at_call 82; refine HD.out.mono ?_; rintro e w4 ⟨rfl, hc4, hg4⟩; have HC4 := Lib.hid hc4; have HG4 := Lib.hid hg4; have hs4 := hg4.size; clear hc4 hg4; dsimp only)
            | (go_at_call 67; refine (HSC.out _ HC4.out).mono ?_; rintro e w5 ⟨lv, rfl, hx5, hg5, hc5⟩; have hone5 := hx5.one; have HX5 := Lib.hid hx5; have HG5 := Lib.hid hg5; have HC5 := Lib.hid hc5; have hs5 := hg5.size; clear hx5 hg5 hc5; dsimp only [exV])
            | (refine wpList_stx rfl (.tmp 10) (.tmp 44) rfl w5.heap.size rfl (entry_slot w5) (e := g.e) (lv := lv) rfl hone5 ?_; intro w6 hg6 hs6; have HG6 := Lib.hid hg6; have HS6 := Lib.hid hs6; have hz6 := hg6.size; rw [entry_size] at hz6; clear hg6 hs6)
            | (refine wpList_stx rfl (.tmp 4) (.tmp 48) rfl w.heap.size rfl ((((J2.out.grown HG4.out (by intro e; injection e; omega)).grown HG5.out (by intro e; injection e; omega)).below (entry_below w5) (by omega)).grown HG6.out (by intro e; injection e; omega)) (e := Ex.nul) (lv := .slice none 0 0) rfl rfl ?_; intro w8 hg8 hs8; have HG8 := Lib.hid hg8; have HS8 := Lib.hid hs8; clear hg8 hs8)
            | fail)
          rw [HX2.out]
          refine ex_done rfl rfl rfl rfl HS8.out ⟨.slice none 0 0, rfl, .nil, ?_, ?_⟩
          · exact fr_new (fr_new (gb_trans (gb_trans (gb_trans J1.out HG4.out) HG5.out) (below_fr (entry_below w5) _)) HG6.out (by omega)) HG8.out (Nat.le_refl _)
          · exact (show Cur C w6 g.p from (HC5.out.under (entry_below w5)).grown HG6.out (fun k e => by cases e; omega)).grown HG8.out (fun k e => by cases e; omega)
end Go.Proofs.YtnhhdafhnngolaaDoor

/-
  CONTRACTS OF expr.New, (*expr.Cursor).Expr, expr.Parse.
-/
import Derived.Test.YtnhhdafhnngolaaDoorEpR8
import Derived.Test.YtnhhdafhnngolaaDoorEpT
namespace Go.Proofs.YtnhhdafhnngolaaDoor
set_option linter.unusedVariables false
set_option linter.unusedSimpArgs false
open Go.RowKit

theorem Sh.bel {w w' : World} {B n : Nat} {A : Option Addr} {xs : List Value} (h : Sh w B A n xs) (hb : Below B w w') : Sh w' B A n xs := h.below hb
/-- Another block turns. -/
theorem Cur.skip {C : Cx} {w w' : World} {p k : Nat} (h : Cur C w p) (hg : w.grownBy w' (some k)) (hk : k ≠ C.g) (hA : ∀ b off, C.A = some ⟨b, off, none⟩ → b ≠ k) (h2 : 2 < k) : Cur C w' p := by
  have hgb := hg.block C.g h.lt (fun e => hk (by injection e with e; exact e.symm))
  have hc : ∀ j, w'.cell? ⟨C.g, j, none⟩ = w.cell? ⟨C.g, j, none⟩ := fun j => World.cell?_of_block (a := ⟨C.g, j, none⟩) hgb
  have hlt := h.lt
  have hfar := h.far
  refine ⟨(hc 0).trans h.t, (hc 1).trans h.l, (hc 2).trans h.pl, (World.frozen?_of_block (a := ⟨C.g, 2, none⟩) hgb).trans h.fz, ?_, Nat.lt_of_lt_of_le h.lt hg.size, h.le,
    h.vars.keep (hg.block 0 (by omega) (fun e => by injection e; omega)) (hg.block 2 (by omega) (fun e => by injection e; omega)), h.far⟩
  refine ⟨h.sh.1, fun hn => ?_⟩
  obtain ⟨b, off, e, hb, hcell⟩ := h.sh.2 hn
  refine ⟨b, off, e, hb, fun j t ht => ?_⟩
  obtain ⟨c0, c1, c2⟩ := hcell j t ht
  have hbk := hg.block b (by omega) (fun e' => hA b off e (by injection e'))
  exact ⟨(World.cell?_of_block (a := ⟨b, _, none⟩) hbk).trans c0, (World.cell?_of_block (a := ⟨b, _, none⟩) hbk).trans c1, (World.cell?_of_block (a := ⟨b, _, none⟩) hbk).trans c2⟩
/-- What New answers: a cursor at the beginning of a text. -/
def NewTo (bs : List Int) (w : World) (e : Ending) (w' : World) : Prop :=
  ∃ C : Cx, e = .returned C.ptr ∧ C.T = strOfNums bs ∧ C.L = live bs 0 ∧ Cur C w' 0 ∧ Below w.heap.size w w' ∧ w.heap.size ≤ C.g ∧ ∀ b off, C.A = some ⟨b, off, none⟩ → w.heap.size ≤ b
set_option maxRecDepth 10000 in
set_option maxHeartbeats 1600000 in
theorem new_any (A : Option Addr) (n c : Nat) (bs : List Int) (w : World) (hx : Sh w w.heap.size A n (by8 bs)) (hn : n ≤ 1000000) (hnc : n ≤ c) (hcm : c ≤ maxLen) (hv : Vars w) :
    Calls Tryd.prog 19 #[.slice A n c] w (NewTo bs w) := by
  have hl : bs.length = n := by have := hx.len; rwa [by8_len] at this
  have hvs := hv.size
  have HV := Lib.hid hv
  have htl := toks_len bs bs.length 0 (by omega)
  have HCV : Hid (∀ w', Below w.heap.size w w' → (convert 22 9 (.slice A n c)).run Tryd.prog w' = .ok (.string (strOfNums bs)) w') := Lib.hid fun w' hb => convert_sh (hx.below hb) c
  have HX := Lib.hid hx
  have HA : Hid (∀ w', Below w.heap.size w w' → Calls Tryd.prog 51 #[.slice A n c] w' (ToksTo (toks bs 0) w')) := Lib.hid fun w' hb => lexAll_any A n c bs w' ((HX.out.below hb).more hb.size) hn hnc hcm
  have HLV : Hid (∀ w' A n c, ShT w' w'.heap.size A n (toks bs 0) → Calls Tryd.prog 50 #[.slice A n c] w' (ToksTo (live bs 0) w')) := Lib.hid fun w' A m c h => live_any A m c (toks bs 0) w' h (by have := h.1; omega)
  have HLL := Lib.hid (live_len bs)
  have k0 := HCV.out _ (below_drew w _)
  have B0 := Lib.hid (below_drew w w.heap.size)
  clear hx hv hl
  go_enter Tryd.func19, Tryd.ntmps19
  go_wp2_with fail
  go_region_held3 (fun w' => (convert 22 9 (.slice A n c)).run Tryd.prog w' = .ok (.string (strOfNums bs)) w') (((try dsimp only); first | assumption | exact HCV.out _ (B3.out.alloc B3.out.size _) | go_keep)) (first
    | (go_at_call 51; refine (HA.out _ B0.out).mono ?_; rintro e w2 ⟨v2, rfl, ho2, b2⟩; obtain ⟨A2, c2, rfl⟩ := ho2.form; have HO2 := Lib.hid ho2; have B2 := Lib.hid (B0.out.trans b2); have k2 := HCV.out _ B2.out; clear b2 ho2)
    | (go_at_call 50; refine (HLV.out _ _ _ _ (HO2.out.tok rfl)).mono ?_; rintro e w3 ⟨v3, rfl, ho3, b3⟩; obtain ⟨A3, c3, rfl⟩ := ho3.form; have HO3 := Lib.hid ho3; have B3 := Lib.hid (B2.out.trans (b3.mono B2.out.size)); have k3 := HCV.out _ B3.out; clear b3 ho3)
    | fail)
  go_wp2
  go_ret
  have B4 : Below w.heap.size w (w3.alloc (.cells #[.string (strOfNums bs), .slice A3 (live bs 0).length c3, .int .i64 0] 83)) := B3.out.alloc B3.out.size _
  refine ⟨⟨w3.heap.size, strOfNums bs, A3, c3, live bs 0⟩, rfl, rfl, rfl, ?_, B4, B3.out.size, fun b off e => ?_⟩
  rotate_left
  · have e' : A3 = some ⟨b, off, none⟩ := e
    have := HO3.out.block_ge b (by rw [e']; rfl)
    exact Nat.le_trans B2.out.size this
  refine ⟨by rw [World.cell?_alloc_at _ _ _ _ rfl]; rfl, by rw [World.cell?_alloc_at _ _ _ _ rfl]; rfl, by rw [World.cell?_alloc_at _ _ _ _ rfl]; rfl, World.frozen?_alloc_new _ _ _ _, ?_, by simp, Nat.zero_le _, HV.out.under B4 hvs, Nat.lt_of_lt_of_le hvs B3.out.size⟩
  exact (HO3.out.tok rfl).up ((Below.refl _ _).alloc (Nat.le_refl _) _) (Nat.le_refl _)

set_option maxRecDepth 10000 in
set_option maxHeartbeats 800000 in
theorem expr_any (C : Cx) (hC : TokOk C.T C.L) (hDg : DigOk C) (f p : Nat) (w : World) (h : Cur C w p) (hf : 16 * (C.L.length - p) + 9 ≤ f) :
    Calls Tryd.prog 31 #[C.ptr] w (RdTo C w (rd C.R f (.lev 1) p 0)) := by
  have hz := zeroEx'
  have hlt := h.lt
  have HB := Lib.hid ((all_step C hC hDg f).1 1 0 p _ (by omega) (by omega) (by omega) (h.under (entry_below w)) (by omega))
  have HE := Lib.hid (entry_slot w)
  have HES := Lib.hid (entry_size w)
  have HEB := Lib.hid (entry_below w)
  obtain ⟨g, hg⟩ : ∃ g, rd C.R f (.lev 1) p 0 = g := ⟨_, rfl⟩
  rw [hg] at HB ⊢
  clear h hg
  go_enter Tryd.func31, Tryd.ntmps31
  go_wp2_with (first
    | (go_at_call 57; refine HB.out.mono ?_; rintro e w2 ⟨lv, rfl, hx, hg, hc⟩; have hone := hx.one; have HX := Lib.hid hx; have HG := Lib.hid hg; have HC2 := Lib.hid hc; clear hx hg hc; dsimp only)
    | (refine wpList_stx rfl (.tmp 2) (.tmp 9) rfl w.heap.size rfl (HE.out.grown HG.out (by intro e; injection e; omega)) (e := g.e) (lv := lv) rfl hone ?_; intro w3 hg3 hs3; have HG3 := Lib.hid hg3; have HS3 := Lib.hid hs3; clear hg3 hs3)
    | fail)
  refine ex_done rfl rfl rfl rfl HS3.out ⟨lv, rfl, ?_, ?_, ?_⟩
  · exact (HX.out.grown HG3.out (fun b hb _ e => by injection e with e; rw [HES.out] at hb; omega)).weak (fun b hb _ => by rw [HES.out] at hb; omega)
  · exact fr_new (gb_trans (below_fr HEB.out _) HG.out) HG3.out (Nat.le_refl _)
  · exact HC2.out.grown HG3.out (fun k e => by cases e; omega)

theorem bel_fr {B : Nat} {w w1 w2 : World} {g : Nat} (h : Below B w w1) (k : w1.grownBy w2 (some g)) (hg : B ≤ g) (hB : B ≤ w1.heap.size) : Below B w w2 :=
  ⟨k.os.trans h.os, k.tape.trans h.tape, k.output.trans h.output, Nat.le_trans h.size k.size, fun j hj => (k.block j (by omega) (fun e => by injection e; omega)).trans (h.block j hj)⟩
/-- What Parse says of a text: the expression, a place, an error. -/
def parseG (R : Rw) (L : List Tk) (f : Nat) : Ex × Int × Int :=
  if isBad L = true then (Ex.nul, (badOf L).2.1, 10)
  else if (rd R f (.lev 1) 0 0).r = 0 ∧ (rd R f (.lev 1) 0 0).p ≠ R.n then (Ex.nul, R.ps (rd R f (.lev 1) 0 0).p, 11)
  else ((rd R f (.lev 1) 0 0).e, R.ps (rd R f (.lev 1) 0 0).p, (rd R f (.lev 1) 0 0).r)
def ParseTo (X : Ex × Int × Int) (w : World) (e : Ending) (w' : World) : Prop :=
  ∃ lv, e = .returned (.tuple #[exV X.1 lv, .int .i64 X.2.1, .int .i64 X.2.2]) ∧ Shx w' (fun b => w.heap.size ≤ b) lv X.1.l ∧ Below w.heap.size w w'
/-- Six cells that are stored. -/
theorem Slot.set6 {w : World} {G : Nat} {x e : Ex} {zv lv : Value} (h : Slot w G x zv) :
    Slot ((((((w.setCell ⟨G, 0, none⟩ (.int .i64 e.k)).setCell ⟨G, 1, none⟩ (.int .i64 e.a)).setCell ⟨G, 2, none⟩ (.int .i64 e.m)).setCell ⟨G, 3, none⟩ (.string e.nm)).setCell ⟨G, 4, none⟩ (.string e.lb)).setCell ⟨G, 5, none⟩ lv) G e lv ∧
    w.grownBy ((((((w.setCell ⟨G, 0, none⟩ (.int .i64 e.k)).setCell ⟨G, 1, none⟩ (.int .i64 e.a)).setCell ⟨G, 2, none⟩ (.int .i64 e.m)).setCell ⟨G, 3, none⟩ (.string e.nm)).setCell ⟨G, 4, none⟩ (.string e.lb)).setCell ⟨G, 5, none⟩ lv) (some G) := by
  have e0 : ((((((w.setCell ⟨G, 0, none⟩ (.int .i64 e.k)).setCell ⟨G, 1, none⟩ (.int .i64 e.a)).setCell ⟨G, 2, none⟩ (.int .i64 e.m)).setCell ⟨G, 3, none⟩ (.string e.nm)).setCell ⟨G, 4, none⟩ (.string e.lb)).setCell ⟨G, 5, none⟩ lv) = w.setCells G 0 (exC e lv) := rfl
  rw [e0]
  have hs : ∀ (vs : List Value) (o : Nat) (w : World), (w.setCells G o vs).heap.size = w.heap.size := by
    intro vs
    induction vs with
    | nil => intro o w; rfl
    | cons v r ih => intro o w; exact (ih (o + 1) _).trans (by simp)
  have hg : ∀ (vs : List Value) (o : Nat) (w : World), w.grownBy (w.setCells G o vs) (some G) := by
    intro vs
    induction vs with
    | nil => intro o w; exact World.grownBy.refl _ _
    | cons v r ih =>
      intro o w
      have h1 : w.grownBy (w.setCell ⟨G, o, none⟩ v) (some G) := ⟨rfl, rfl, rfl, by simp, fun k hk hne => heap_setCell_other _ _ _ _ (fun e => hne (by rw [e]))⟩
      exact gb_trans h1 (ih (o + 1) _)
  exact ⟨⟨World.rangeAt_setCells_same w G 0 _ h.there, fun j hj => by rw [World.frozen?_setCells]; exact h.fz j hj, by rw [hs]; exact h.lt⟩, hg _ _ _⟩
theorem Slot.six {w : World} {G : Nat} {x : Ex} {lv : Value} (h : Slot w G x lv) : w.cell? ⟨G, 0, none⟩ = some (.int .i64 x.k) ∧ w.cell? ⟨G, 1, none⟩ = some (.int .i64 x.a) ∧ w.cell? ⟨G, 2, none⟩ = some (.int .i64 x.m) ∧ w.cell? ⟨G, 3, none⟩ = some (.string x.nm) ∧ w.cell? ⟨G, 4, none⟩ = some (.string x.lb) ∧ w.cell? ⟨G, 5, none⟩ = some lv := by
  have h0 := h.cs 0 _ rfl
  have h1 := h.cs 1 _ rfl
  have h2 := h.cs 2 _ rfl
  have h3 := h.cs 3 _ rfl
  have h4 := h.cs 4 _ rfl
  have h5 := h.cs 5 _ rfl
  simp only [Nat.zero_add] at h0 h1 h2 h3 h4 h5
  exact ⟨h0, h1, h2, h3, h4, h5⟩
theorem parse_done {a : Act} {W : World} {G : Nat} {x : Ex} {lv : Value} {r s : Int} {Q : Ending → World → Prop} (hp : a.tmps.getD 2 undef = .pointer (some ⟨G, 0, none⟩)) (hj : a.tmps.getD 3 undef = .int .i64 s) (hk : a.tmps.getD 4 undef = .int .i64 r) (hd : a.defers = []) (hs : Slot W G x lv)
    (hQ : Q (.returned (.tuple #[exV x lv, .int .i64 s, .int .i64 r])) W) : bodyPost Tryd.prog Tryd.f12 Q Exit.ret a W := by
  have hr : Tryd.f12.results = #[.cell 2 27, .tmp 3, .tmp 4] := rfl
  have hl := ld_ex hs.cs
  have hp' : a.tmps[2]?.getD undef = .pointer (some ⟨G, 0, none⟩) := by simpa using hp
  have hj' : a.tmps[3]?.getD undef = .int .i64 s := by simpa using hj
  have hk' : a.tmps[4]?.getD undef = .int .i64 r := by simpa using hk
  exact bodyPost_ret (v := .tuple #[exV x lv, .int .i64 s, .int .i64 r]) (by simp [results, hr, hp', hj', hk', asAddr, hl]) hd hQ

set_option maxRecDepth 10000 in
set_option maxHeartbeats 3200000 in
theorem parse_any (A : Option Addr) (n c : Nat) (bs : List Int) (w : World) (hx : Sh w w.heap.size A n (by8 bs)) (hb : Byt8 bs) (hn : n ≤ 1000000) (hnc : n ≤ c) (hcm : c ≤ maxLen) (hv : Vars w) (f : Nat) (hf : 16 * n + 9 ≤ f) :
    Calls Tryd.prog 12 #[.slice A n c] w (ParseTo (parseG (rowT (strOfNums bs) (live bs 0)) (live bs 0) f) w) := by
  have hz := zeroEx'
  have hzt := zeroTok
  have hl : bs.length = n := by have := hx.len; rwa [by8_len] at this
  have hvs := hv.size
  have htok : TokOk (strOfNums bs) (live bs 0) := live_ok (bts_str hb) (by omega)
  have hdig := live_dig (bts_str hb)
  have hll := live_len bs
  have hnw := new_any A n c bs _ ((hx.below (entry_below w)).more (by rw [entry_size]; omega)) hn hnc hcm (hv.under (entry_below w) hvs)
  have HNW := Lib.hid hnw
  have HE := Lib.hid (entry_slot w)
  have HES := Lib.hid (entry_size w)
  have HEB := Lib.hid (entry_below w)
  obtain ⟨L, hL⟩ : ∃ L, live bs 0 = L := ⟨_, rfl⟩
  obtain ⟨T, hT⟩ : ∃ T, strOfNums bs = T := ⟨_, rfl⟩
  unfold NewTo at HNW
  rw [hL, hT] at HNW htok hdig ⊢
  rw [hL] at hll
  obtain ⟨X, hX⟩ : ∃ X, parseG (rowT T L) L f = X := ⟨_, rfl⟩
  rw [hX]
  have HX := Lib.hid hX
  have HTK := Lib.hid htok
  have HDG := Lib.hid hdig
  clear hx hb hv hnw hX htok hdig hL hT
  go_enter Tryd.func12, Tryd.ntmps12
  go_wp2_with (first
    | (go_at_call 19; refine HNW.out.mono ?_; rintro e w2 ⟨C, rfl, rfl, rfl, hc, hb2, hg, hAb⟩; refine Hid.out ?_)
    | fail)
  have HC := Lib.hid hc
  have HS := Lib.hid (HE.out.below hb2 (by rw [HES.out]; omega))
  have HF := Lib.hid (HEB.out.trans (hb2.mono (by rw [HES.out]; omega)))
  have hgl : w.heap.size < C.g := by rw [HES.out] at hg; omega
  have HAB : Hid (∀ b off, C.A = some ⟨b, off, none⟩ → b ≠ w.heap.size) := Lib.hid fun b off e => by have := hAb b off e; rw [HES.out] at this; omega
  have HBD : Hid (∀ W, Cur C W 0 → Calls Tryd.prog 43 #[.slice C.A C.L.length C.c] W (BadTo C.L W)) := Lib.hid fun W h => bad_any C.A _ C.c C.L W (h.sh.more (Nat.le_of_lt h.lt)) (by omega)
  obtain ⟨g, hgg⟩ : ∃ g, rd C.R f (.lev 1) 0 0 = g := ⟨_, rfl⟩
  have HEX : Hid (∀ W, Cur C W 0 → Calls Tryd.prog 31 #[C.ptr] W (RdTo C W g)) := Lib.hid fun W h => by
    have := expr_any C HTK.out HDG.out f 0 W h (by omega)
    rwa [hgg] at this
  have HDN : Hid (∀ W, Cur C W g.p → Calls Tryd.prog 26 #[C.ptr] W fun e w' => e = .returned (.bool (decide (g.p = C.L.length))) ∧ Quiet W w') := Lib.hid fun W h => done_any C HTK.out g.p W h
  have HPO : Hid (∀ W, Cur C W g.p → Calls Tryd.prog 23 #[C.ptr] W fun e w' => e = .returned (.int .i64 (C.R.ps g.p)) ∧ Below W.heap.size W w') := Lib.hid fun W h => pos_any C HTK.out g.p W h
  have HXX : Hid (X = if isBad C.L = true then (Ex.nul, (badOf C.L).2.1, 10) else if g.r = 0 ∧ g.p ≠ C.L.length then (Ex.nul, C.R.ps g.p, 11) else (g.e, C.R.ps g.p, g.r)) := Lib.hid (by
    rw [← HX.out, ← hgg]
    rfl)
  have e1 := HC.out.l
  clear hc hb2 hg hgg hAb HNW HE HES HEB HX
  refine Lib.hid ?_
  cases hbd : isBad C.L with
  | true =>
    have HR : Hid (X = (Ex.nul, (badOf C.L).2.1, 10)) := Lib.hid (by rw [HXX.out, if_pos hbd])
    go_wp2_with (first
      | (go_at_call 43; refine (HBD.out _ HC.out).mono ?_; rintro e wt ⟨rfl, b⟩; have HF := Lib.hid (HF.out.trans (b.mono (Nat.le_of_lt HS.out.lt))); have HS := Lib.hid (HS.out.below b HS.out.lt); have HC := Lib.hid (HC.out.under b); clear b; have b := (Below.refl wt.heap.size wt).alloc (Nat.le_refl _) (.cells #[.int .i64 (badOf C.L).1, .int .i64 (badOf C.L).2.1, .int .i64 (badOf C.L).2.2] 49); have HC' := Lib.hid (HC.out.under b); have HS' := Lib.hid (HS.out.below b HS.out.lt); have HF' := Lib.hid (HF.out.trans (b.mono (Nat.le_of_lt HS.out.lt))); clear b; dsimp only)
      | fail)
    obtain ⟨c0, c1, c2, c3, c4, c5⟩ := HS'.out.six
    have f0 := HS'.out.fz 0 (by omega)
    have f1 := HS'.out.fz 1 (by omega)
    have f2 := HS'.out.fz 2 (by omega)
    have f3 := HS'.out.fz 3 (by omega)
    have f4 := HS'.out.fz 4 (by omega)
    have f5 := HS'.out.fz 5 (by omega)
    have hne1 : w.heap.size ≠ wt.heap.size := Nat.ne_of_lt HS.out.lt
    have hne2 : wt.heap.size ≠ w.heap.size := fun e => hne1 e.symm
    go_region
    go_wp2
    rw [HR.out]
    have hfin := HS'.out.set6 (e := Ex.nul) (lv := .slice none 0 0)
    exact parse_done rfl rfl rfl rfl hfin.1.drew ⟨.slice none 0 0, rfl, .nil, (bel_fr HF'.out hfin.2 (Nat.le_refl _) (Nat.le_of_lt HS'.out.lt)).trans (below_drew _ _)⟩
  | false =>
    by_cases hr : g.r = 0
    · have hr1 : (g.r == 0) = true := by simp [hr]
      have hr2 : decide (g.r = 0) = true := by simp [hr]
      by_cases hgp : g.p = C.L.length
      · have HDD : Hid (decide (g.p = C.L.length) = true) := Lib.hid (by simp [hgp])
        have HR : Hid (X = (g.e, C.R.ps g.p, 0)) := Lib.hid (by rw [HXX.out, if_neg (by rw [hbd]; decide), if_neg (fun h => h.2 hgp), hr])
        clear hgp
        go_wp2_with (first
          | (go_at_call 43; refine (HBD.out _ HC.out).mono ?_; rintro e wt ⟨rfl, b⟩; have HF := Lib.hid (HF.out.trans (b.mono (Nat.le_of_lt HS.out.lt))); have HS := Lib.hid (HS.out.below b HS.out.lt); have HC := Lib.hid (HC.out.under b); clear b; have b := (Below.refl wt.heap.size wt).alloc (Nat.le_refl _) (.cells #[.int .i64 (badOf C.L).1, .int .i64 (badOf C.L).2.1, .int .i64 (badOf C.L).2.2] 49); have HC' := Lib.hid (HC.out.under b); have HS' := Lib.hid (HS.out.below b HS.out.lt); have HF' := Lib.hid (HF.out.trans (b.mono (Nat.le_of_lt HS.out.lt))); clear b; dsimp only)
          | (go_at_call 31; refine (HEX.out _ HC'.out).mono ?_; rintro e wt2 ⟨lv, rfl, hx, hg, hc⟩; have hone := hx.one; have HX2 := Lib.hid (hx.weak (S' := fun b => w.heap.size < b) (by intro b h1 _; have := HS'.out.lt; omega)); have HS := Lib.hid (HS'.out.grown hg (by intro e; injection e; omega)); have HF := Lib.hid (bel_fr HF'.out hg (by omega) (Nat.le_of_lt HS'.out.lt)); have HC := Lib.hid hc; clear hx hg hc; dsimp only)
          | (refine wpList_stx rfl (.tmp 2) (.tmp 25) rfl w.heap.size rfl HS.out (e := g.e) (lv := lv) rfl hone ?_; intro wu hg8 hs8; have HF := Lib.hid (bel_fr HF.out hg8 (Nat.le_refl _) (Nat.le_of_lt HS.out.lt)); have HC := Lib.hid (HC.out.skip hg8 (by omega) (HAB.out) (by omega)); have HX2 := Lib.hid (HX2.out.grown hg8 (by intro b hb _ e; injection e with e; omega)); have HS := Lib.hid hs8; clear hg8 hs8)
          | (go_at_call 26; refine (HDN.out _ HC.out).mono ?_; rintro e wt3 ⟨rfl, hq⟩; have b := hq.below wu.heap.size; have HX2 := Lib.hid (HX2.out.under b (by intro b _ hb; exact hb)); have HF := Lib.hid (HF.out.trans (b.mono (Nat.le_of_lt HS.out.lt))); have HS := Lib.hid (HS.out.below b HS.out.lt); have HC := Lib.hid (HC.out.under b); clear b; clear hq; rw [HDD.out]; dsimp only)
          | fail)
        obtain ⟨A9, c9, rfl, _⟩ := HX2.out.len
        have HX3 := HX2
        clear HX2
        have HK6 : Hid (∀ W, Slot W w.heap.size (g.e) (.slice A9 g.e.l.length c9) → (((((((W.setCell ⟨w.heap.size, 0, none⟩ (.int .i64 g.e.k)).setCell ⟨w.heap.size, 1, none⟩ (.int .i64 g.e.a)).setCell ⟨w.heap.size, 2, none⟩ (.int .i64 g.e.m)).setCell ⟨w.heap.size, 3, none⟩ (.string g.e.nm)).setCell ⟨w.heap.size, 4, none⟩ (.string g.e.lb)).setCell ⟨w.heap.size, 5, none⟩ (.slice A9 g.e.l.length c9)).cell? ⟨w.heap.size, 0, none⟩ = some (.int .i64 g.e.k) ∧ ((((((W.setCell ⟨w.heap.size, 0, none⟩ (.int .i64 g.e.k)).setCell ⟨w.heap.size, 1, none⟩ (.int .i64 g.e.a)).setCell ⟨w.heap.size, 2, none⟩ (.int .i64 g.e.m)).setCell ⟨w.heap.size, 3, none⟩ (.string g.e.nm)).setCell ⟨w.heap.size, 4, none⟩ (.string g.e.lb)).setCell ⟨w.heap.size, 5, none⟩ (.slice A9 g.e.l.length c9)).cell? ⟨w.heap.size, 1, none⟩ = some (.int .i64 g.e.a) ∧ ((((((W.setCell ⟨w.heap.size, 0, none⟩ (.int .i64 g.e.k)).setCell ⟨w.heap.size, 1, none⟩ (.int .i64 g.e.a)).setCell ⟨w.heap.size, 2, none⟩ (.int .i64 g.e.m)).setCell ⟨w.heap.size, 3, none⟩ (.string g.e.nm)).setCell ⟨w.heap.size, 4, none⟩ (.string g.e.lb)).setCell ⟨w.heap.size, 5, none⟩ (.slice A9 g.e.l.length c9)).cell? ⟨w.heap.size, 2, none⟩ = some (.int .i64 g.e.m) ∧ ((((((W.setCell ⟨w.heap.size, 0, none⟩ (.int .i64 g.e.k)).setCell ⟨w.heap.size, 1, none⟩ (.int .i64 g.e.a)).setCell ⟨w.heap.size, 2, none⟩ (.int .i64 g.e.m)).setCell ⟨w.heap.size, 3, none⟩ (.string g.e.nm)).setCell ⟨w.heap.size, 4, none⟩ (.string g.e.lb)).setCell ⟨w.heap.size, 5, none⟩ (.slice A9 g.e.l.length c9)).cell? ⟨w.heap.size, 3, none⟩ = some (.string g.e.nm) ∧ ((((((W.setCell ⟨w.heap.size, 0, none⟩ (.int .i64 g.e.k)).setCell ⟨w.heap.size, 1, none⟩ (.int .i64 g.e.a)).setCell ⟨w.heap.size, 2, none⟩ (.int .i64 g.e.m)).setCell ⟨w.heap.size, 3, none⟩ (.string g.e.nm)).setCell ⟨w.heap.size, 4, none⟩ (.string g.e.lb)).setCell ⟨w.heap.size, 5, none⟩ (.slice A9 g.e.l.length c9)).cell? ⟨w.heap.size, 4, none⟩ = some (.string g.e.lb) ∧ ((((((W.setCell ⟨w.heap.size, 0, none⟩ (.int .i64 g.e.k)).setCell ⟨w.heap.size, 1, none⟩ (.int .i64 g.e.a)).setCell ⟨w.heap.size, 2, none⟩ (.int .i64 g.e.m)).setCell ⟨w.heap.size, 3, none⟩ (.string g.e.nm)).setCell ⟨w.heap.size, 4, none⟩ (.string g.e.lb)).setCell ⟨w.heap.size, 5, none⟩ (.slice A9 g.e.l.length c9)).cell? ⟨w.heap.size, 5, none⟩ = some (.slice A9 g.e.l.length c9))) := Lib.hid fun W h => (h.set6 (e := g.e) (lv := (.slice A9 g.e.l.length c9))).1.six
        have HC := Lib.hid HC.out.drew
        have HS := Lib.hid HS.out.drew
        have HF := Lib.hid (HF.out.trans (below_drew _ _))
        have HX3 := Lib.hid (HX3.out.under (below_drew _ _) (by intro b _ hb; exact hb))
        obtain ⟨c0, c1, c2, c3, c4, c5⟩ : (wt3.drew.cell? ⟨w.heap.size, 0, none⟩ = some (.int .i64 g.e.k) ∧ wt3.drew.cell? ⟨w.heap.size, 1, none⟩ = some (.int .i64 g.e.a) ∧ wt3.drew.cell? ⟨w.heap.size, 2, none⟩ = some (.int .i64 g.e.m) ∧ wt3.drew.cell? ⟨w.heap.size, 3, none⟩ = some (.string g.e.nm) ∧ wt3.drew.cell? ⟨w.heap.size, 4, none⟩ = some (.string g.e.lb) ∧ wt3.drew.cell? ⟨w.heap.size, 5, none⟩ = some (.slice A9 g.e.l.length c9)) := HS.out.six
        go_region_held3 (fun w' => (w'.cell? ⟨w.heap.size, 0, none⟩ = some (.int .i64 g.e.k) ∧ w'.cell? ⟨w.heap.size, 1, none⟩ = some (.int .i64 g.e.a) ∧ w'.cell? ⟨w.heap.size, 2, none⟩ = some (.int .i64 g.e.m) ∧ w'.cell? ⟨w.heap.size, 3, none⟩ = some (.string g.e.nm) ∧ w'.cell? ⟨w.heap.size, 4, none⟩ = some (.string g.e.lb) ∧ w'.cell? ⟨w.heap.size, 5, none⟩ = some (.slice A9 g.e.l.length c9))) (((try dsimp only); first | (with_reducible exact HK6.out _ HS.out) | ((repeat' apply And.intro) <;> first | (with_reducible assumption) | go_keep))) (first
          | (go_at_call 23; refine (HPO.out _ HC.out).mono ?_; rintro e wp ⟨rfl, b⟩; have HX3 := Lib.hid (HX3.out.under b (by intro b _ hb; exact hb)); have HF := Lib.hid (HF.out.trans (b.mono (Nat.le_of_lt HS.out.lt))); have HS := Lib.hid (HS.out.below b HS.out.lt); have HC := Lib.hid (HC.out.under b); clear b; obtain ⟨c0, c1, c2, c3, c4, c5⟩ : (wp.cell? ⟨w.heap.size, 0, none⟩ = some (.int .i64 g.e.k) ∧ wp.cell? ⟨w.heap.size, 1, none⟩ = some (.int .i64 g.e.a) ∧ wp.cell? ⟨w.heap.size, 2, none⟩ = some (.int .i64 g.e.m) ∧ wp.cell? ⟨w.heap.size, 3, none⟩ = some (.string g.e.nm) ∧ wp.cell? ⟨w.heap.size, 4, none⟩ = some (.string g.e.lb) ∧ wp.cell? ⟨w.heap.size, 5, none⟩ = some (.slice A9 g.e.l.length c9)) := HS.out.six; have f0 := HS.out.fz 0 (by omega); have f1 := HS.out.fz 1 (by omega); have f2 := HS.out.fz 2 (by omega); have f3 := HS.out.fz 3 (by omega); have f4 := HS.out.fz 4 (by omega); have f5 := HS.out.fz 5 (by omega))
          | fail)
        go_wp2
        rw [HR.out]
        have hfin := HS.out.set6 (e := g.e) (lv := (.slice A9 g.e.l.length c9))
        refine parse_done rfl rfl rfl rfl hfin.1 ⟨(.slice A9 g.e.l.length c9), rfl, ((HX3.out.grown hfin.2 (fun b hb _ e => by injection e with e; omega)).weak (fun b hb _ => by omega)), bel_fr HF.out hfin.2 (Nat.le_refl _) (Nat.le_of_lt HS.out.lt)⟩
      · have HDD : Hid (decide (g.p = C.L.length) = false) := Lib.hid (by simp [hgp])
        have HR : Hid (X = (Ex.nul, C.R.ps g.p, 11)) := Lib.hid (by rw [HXX.out, if_neg (by rw [hbd]; decide), if_pos ⟨hr, hgp⟩])
        clear hgp
        go_wp2_with (first
          | (go_at_call 43; refine (HBD.out _ HC.out).mono ?_; rintro e wt ⟨rfl, b⟩; have HF := Lib.hid (HF.out.trans (b.mono (Nat.le_of_lt HS.out.lt))); have HS := Lib.hid (HS.out.below b HS.out.lt); have HC := Lib.hid (HC.out.under b); clear b; have b := (Below.refl wt.heap.size wt).alloc (Nat.le_refl _) (.cells #[.int .i64 (badOf C.L).1, .int .i64 (badOf C.L).2.1, .int .i64 (badOf C.L).2.2] 49); have HC' := Lib.hid (HC.out.under b); have HS' := Lib.hid (HS.out.below b HS.out.lt); have HF' := Lib.hid (HF.out.trans (b.mono (Nat.le_of_lt HS.out.lt))); clear b; dsimp only)
          | (go_at_call 31; refine (HEX.out _ HC'.out).mono ?_; rintro e wt2 ⟨lv, rfl, hx, hg, hc⟩; have hone := hx.one; have HX2 := Lib.hid (hx.weak (S' := fun b => w.heap.size < b) (by intro b h1 _; have := HS'.out.lt; omega)); have HS := Lib.hid (HS'.out.grown hg (by intro e; injection e; omega)); have HF := Lib.hid (bel_fr HF'.out hg (by omega) (Nat.le_of_lt HS'.out.lt)); have HC := Lib.hid hc; clear hx hg hc; dsimp only)
          | (refine wpList_stx rfl (.tmp 2) (.tmp 25) rfl w.heap.size rfl HS.out (e := g.e) (lv := lv) rfl hone ?_; intro wu hg8 hs8; have HF := Lib.hid (bel_fr HF.out hg8 (Nat.le_refl _) (Nat.le_of_lt HS.out.lt)); have HC := Lib.hid (HC.out.skip hg8 (by omega) (HAB.out) (by omega)); have HX2 := Lib.hid (HX2.out.grown hg8 (by intro b hb _ e; injection e with e; omega)); have HS := Lib.hid hs8; clear hg8 hs8)
          | (go_at_call 26; refine (HDN.out _ HC.out).mono ?_; rintro e wt3 ⟨rfl, hq⟩; have b := hq.below wu.heap.size; have HX2 := Lib.hid (HX2.out.under b (by intro b _ hb; exact hb)); have HF := Lib.hid (HF.out.trans (b.mono (Nat.le_of_lt HS.out.lt))); have HS := Lib.hid (HS.out.below b HS.out.lt); have HC := Lib.hid (HC.out.under b); clear b; clear hq; rw [HDD.out]; dsimp only)
          | (refine wpList_stx rfl (.tmp 2) (.tmp 34) rfl w.heap.size rfl HS.out (e := Ex.nul) (lv := .slice none 0 0) rfl rfl ?_; intro wv hg8 hs8; have HF := Lib.hid (bel_fr HF.out hg8 (Nat.le_refl _) (Nat.le_of_lt HS.out.lt)); have HC := Lib.hid (HC.out.skip hg8 (by omega) (HAB.out) (by omega)); have HS := Lib.hid hs8; clear hg8 hs8)
          | fail)
        have HX3 : Hid (Shx wv (fun b => w.heap.size < b) (.slice none 0 0) []) := Lib.hid .nil
        clear HX2
        have HK6 : Hid (∀ W, Slot W w.heap.size (Ex.nul) (.slice none 0 0) → (((((((W.setCell ⟨w.heap.size, 0, none⟩ (.int .i64 0)).setCell ⟨w.heap.size, 1, none⟩ (.int .i64 0)).setCell ⟨w.heap.size, 2, none⟩ (.int .i64 0)).setCell ⟨w.heap.size, 3, none⟩ (.string ⟨#[]⟩)).setCell ⟨w.heap.size, 4, none⟩ (.string ⟨#[]⟩)).setCell ⟨w.heap.size, 5, none⟩ (.slice none 0 0)).cell? ⟨w.heap.size, 0, none⟩ = some (.int .i64 0) ∧ ((((((W.setCell ⟨w.heap.size, 0, none⟩ (.int .i64 0)).setCell ⟨w.heap.size, 1, none⟩ (.int .i64 0)).setCell ⟨w.heap.size, 2, none⟩ (.int .i64 0)).setCell ⟨w.heap.size, 3, none⟩ (.string ⟨#[]⟩)).setCell ⟨w.heap.size, 4, none⟩ (.string ⟨#[]⟩)).setCell ⟨w.heap.size, 5, none⟩ (.slice none 0 0)).cell? ⟨w.heap.size, 1, none⟩ = some (.int .i64 0) ∧ ((((((W.setCell ⟨w.heap.size, 0, none⟩ (.int .i64 0)).setCell ⟨w.heap.size, 1, none⟩ (.int .i64 0)).setCell ⟨w.heap.size, 2, none⟩ (.int .i64 0)).setCell ⟨w.heap.size, 3, none⟩ (.string ⟨#[]⟩)).setCell ⟨w.heap.size, 4, none⟩ (.string ⟨#[]⟩)).setCell ⟨w.heap.size, 5, none⟩ (.slice none 0 0)).cell? ⟨w.heap.size, 2, none⟩ = some (.int .i64 0) ∧ ((((((W.setCell ⟨w.heap.size, 0, none⟩ (.int .i64 0)).setCell ⟨w.heap.size, 1, none⟩ (.int .i64 0)).setCell ⟨w.heap.size, 2, none⟩ (.int .i64 0)).setCell ⟨w.heap.size, 3, none⟩ (.string ⟨#[]⟩)).setCell ⟨w.heap.size, 4, none⟩ (.string ⟨#[]⟩)).setCell ⟨w.heap.size, 5, none⟩ (.slice none 0 0)).cell? ⟨w.heap.size, 3, none⟩ = some (.string ⟨#[]⟩) ∧ ((((((W.setCell ⟨w.heap.size, 0, none⟩ (.int .i64 0)).setCell ⟨w.heap.size, 1, none⟩ (.int .i64 0)).setCell ⟨w.heap.size, 2, none⟩ (.int .i64 0)).setCell ⟨w.heap.size, 3, none⟩ (.string ⟨#[]⟩)).setCell ⟨w.heap.size, 4, none⟩ (.string ⟨#[]⟩)).setCell ⟨w.heap.size, 5, none⟩ (.slice none 0 0)).cell? ⟨w.heap.size, 4, none⟩ = some (.string ⟨#[]⟩) ∧ ((((((W.setCell ⟨w.heap.size, 0, none⟩ (.int .i64 0)).setCell ⟨w.heap.size, 1, none⟩ (.int .i64 0)).setCell ⟨w.heap.size, 2, none⟩ (.int .i64 0)).setCell ⟨w.heap.size, 3, none⟩ (.string ⟨#[]⟩)).setCell ⟨w.heap.size, 4, none⟩ (.string ⟨#[]⟩)).setCell ⟨w.heap.size, 5, none⟩ (.slice none 0 0)).cell? ⟨w.heap.size, 5, none⟩ = some (.slice none 0 0))) := Lib.hid fun W h => (h.set6 (e := Ex.nul) (lv := (.slice none 0 0))).1.six
        have HC := Lib.hid HC.out.drew
        have HS := Lib.hid HS.out.drew
        have HF := Lib.hid (HF.out.trans (below_drew _ _))
        have HX3 := Lib.hid (HX3.out.under (below_drew _ _) (by intro b _ hb; exact hb))
        obtain ⟨c0, c1, c2, c3, c4, c5⟩ : (wv.drew.cell? ⟨w.heap.size, 0, none⟩ = some (.int .i64 0) ∧ wv.drew.cell? ⟨w.heap.size, 1, none⟩ = some (.int .i64 0) ∧ wv.drew.cell? ⟨w.heap.size, 2, none⟩ = some (.int .i64 0) ∧ wv.drew.cell? ⟨w.heap.size, 3, none⟩ = some (.string ⟨#[]⟩) ∧ wv.drew.cell? ⟨w.heap.size, 4, none⟩ = some (.string ⟨#[]⟩) ∧ wv.drew.cell? ⟨w.heap.size, 5, none⟩ = some (.slice none 0 0)) := HS.out.six
        go_region_held3 (fun w' => (w'.cell? ⟨w.heap.size, 0, none⟩ = some (.int .i64 0) ∧ w'.cell? ⟨w.heap.size, 1, none⟩ = some (.int .i64 0) ∧ w'.cell? ⟨w.heap.size, 2, none⟩ = some (.int .i64 0) ∧ w'.cell? ⟨w.heap.size, 3, none⟩ = some (.string ⟨#[]⟩) ∧ w'.cell? ⟨w.heap.size, 4, none⟩ = some (.string ⟨#[]⟩) ∧ w'.cell? ⟨w.heap.size, 5, none⟩ = some (.slice none 0 0))) (((try dsimp only); first | (with_reducible exact HK6.out _ HS.out) | ((repeat' apply And.intro) <;> first | (with_reducible assumption) | go_keep))) (first
          | (go_at_call 23; refine (HPO.out _ HC.out).mono ?_; rintro e wp ⟨rfl, b⟩; have HX3 := Lib.hid (HX3.out.under b (by intro b _ hb; exact hb)); have HF := Lib.hid (HF.out.trans (b.mono (Nat.le_of_lt HS.out.lt))); have HS := Lib.hid (HS.out.below b HS.out.lt); have HC := Lib.hid (HC.out.under b); clear b; obtain ⟨c0, c1, c2, c3, c4, c5⟩ : (wp.cell? ⟨w.heap.size, 0, none⟩ = some (.int .i64 0) ∧ wp.cell? ⟨w.heap.size, 1, none⟩ = some (.int .i64 0) ∧ wp.cell? ⟨w.heap.size, 2, none⟩ = some (.int .i64 0) ∧ wp.cell? ⟨w.heap.size, 3, none⟩ = some (.string ⟨#[]⟩) ∧ wp.cell? ⟨w.heap.size, 4, none⟩ = some (.string ⟨#[]⟩) ∧ wp.cell? ⟨w.heap.size, 5, none⟩ = some (.slice none 0 0)) := HS.out.six; have f0 := HS.out.fz 0 (by omega); have f1 := HS.out.fz 1 (by omega); have f2 := HS.out.fz 2 (by omega); have f3 := HS.out.fz 3 (by omega); have f4 := HS.out.fz 4 (by omega); have f5 := HS.out.fz 5 (by omega))
          | fail)
        go_wp2
        rw [HR.out]
        have hfin := HS.out.set6 (e := Ex.nul) (lv := (.slice none 0 0))
        refine parse_done rfl rfl rfl rfl hfin.1 ⟨(.slice none 0 0), rfl, .nil, bel_fr HF.out hfin.2 (Nat.le_refl _) (Nat.le_of_lt HS.out.lt)⟩
    · have hr1 : (g.r == 0) = false := by simp [hr]
      have hr2 : decide (g.r = 0) = false := by simp [hr]
      have HR : Hid (X = (g.e, C.R.ps g.p, g.r)) := Lib.hid (by rw [HXX.out, if_neg (by rw [hbd]; decide), if_neg (fun h => hr h.1)])
      go_wp2_with (first
        | (go_at_call 43; refine (HBD.out _ HC.out).mono ?_; rintro e wt ⟨rfl, b⟩; have HF := Lib.hid (HF.out.trans (b.mono (Nat.le_of_lt HS.out.lt))); have HS := Lib.hid (HS.out.below b HS.out.lt); have HC := Lib.hid (HC.out.under b); clear b; have b := (Below.refl wt.heap.size wt).alloc (Nat.le_refl _) (.cells #[.int .i64 (badOf C.L).1, .int .i64 (badOf C.L).2.1, .int .i64 (badOf C.L).2.2] 49); have HC' := Lib.hid (HC.out.under b); have HS' := Lib.hid (HS.out.below b HS.out.lt); have HF' := Lib.hid (HF.out.trans (b.mono (Nat.le_of_lt HS.out.lt))); clear b; dsimp only)
        | (go_at_call 31; refine (HEX.out _ HC'.out).mono ?_; rintro e wt2 ⟨lv, rfl, hx, hg, hc⟩; have hone := hx.one; have HX2 := Lib.hid (hx.weak (S' := fun b => w.heap.size < b) (by intro b h1 _; have := HS'.out.lt; omega)); have HS := Lib.hid (HS'.out.grown hg (by intro e; injection e; omega)); have HF := Lib.hid (bel_fr HF'.out hg (by omega) (Nat.le_of_lt HS'.out.lt)); have HC := Lib.hid hc; clear hx hg hc; dsimp only)
        | (refine wpList_stx rfl (.tmp 2) (.tmp 25) rfl w.heap.size rfl HS.out (e := g.e) (lv := lv) rfl hone ?_; intro wu hg8 hs8; have HF := Lib.hid (bel_fr HF.out hg8 (Nat.le_refl _) (Nat.le_of_lt HS.out.lt)); have HC := Lib.hid (HC.out.skip hg8 (by omega) (HAB.out) (by omega)); have HX2 := Lib.hid (HX2.out.grown hg8 (by intro b hb _ e; injection e with e; omega)); have HS := Lib.hid hs8; clear hg8 hs8)
        | fail)
      obtain ⟨A9, c9, rfl, _⟩ := HX2.out.len
      have HX3 := HX2
      clear HX2
      have HK6 : Hid (∀ W, Slot W w.heap.size (g.e) (.slice A9 g.e.l.length c9) → (((((((W.setCell ⟨w.heap.size, 0, none⟩ (.int .i64 g.e.k)).setCell ⟨w.heap.size, 1, none⟩ (.int .i64 g.e.a)).setCell ⟨w.heap.size, 2, none⟩ (.int .i64 g.e.m)).setCell ⟨w.heap.size, 3, none⟩ (.string g.e.nm)).setCell ⟨w.heap.size, 4, none⟩ (.string g.e.lb)).setCell ⟨w.heap.size, 5, none⟩ (.slice A9 g.e.l.length c9)).cell? ⟨w.heap.size, 0, none⟩ = some (.int .i64 g.e.k) ∧ ((((((W.setCell ⟨w.heap.size, 0, none⟩ (.int .i64 g.e.k)).setCell ⟨w.heap.size, 1, none⟩ (.int .i64 g.e.a)).setCell ⟨w.heap.size, 2, none⟩ (.int .i64 g.e.m)).setCell ⟨w.heap.size, 3, none⟩ (.string g.e.nm)).setCell ⟨w.heap.size, 4, none⟩ (.string g.e.lb)).setCell ⟨w.heap.size, 5, none⟩ (.slice A9 g.e.l.length c9)).cell? ⟨w.heap.size, 1, none⟩ = some (.int .i64 g.e.a) ∧ ((((((W.setCell ⟨w.heap.size, 0, none⟩ (.int .i64 g.e.k)).setCell ⟨w.heap.size, 1, none⟩ (.int .i64 g.e.a)).setCell ⟨w.heap.size, 2, none⟩ (.int .i64 g.e.m)).setCell ⟨w.heap.size, 3, none⟩ (.string g.e.nm)).setCell ⟨w.heap.size, 4, none⟩ (.string g.e.lb)).setCell ⟨w.heap.size, 5, none⟩ (.slice A9 g.e.l.length c9)).cell? ⟨w.heap.size, 2, none⟩ = some (.int .i64 g.e.m) ∧ ((((((W.setCell ⟨w.heap.size, 0, none⟩ (.int .i64 g.e.k)).setCell ⟨w.heap.size, 1, none⟩ (.int .i64 g.e.a)).setCell ⟨w.heap.size, 2, none⟩ (.int .i64 g.e.m)).setCell ⟨w.heap.size, 3, none⟩ (.string g.e.nm)).setCell ⟨w.heap.size, 4, none⟩ (.string g.e.lb)).setCell ⟨w.heap.size, 5, none⟩ (.slice A9 g.e.l.length c9)).cell? ⟨w.heap.size, 3, none⟩ = some (.string g.e.nm) ∧ ((((((W.setCell ⟨w.heap.size, 0, none⟩ (.int .i64 g.e.k)).setCell ⟨w.heap.size, 1, none⟩ (.int .i64 g.e.a)).setCell ⟨w.heap.size, 2, none⟩ (.int .i64 g.e.m)).setCell ⟨w.heap.size, 3, none⟩ (.string g.e.nm)).setCell ⟨w.heap.size, 4, none⟩ (.string g.e.lb)).setCell ⟨w.heap.size, 5, none⟩ (.slice A9 g.e.l.length c9)).cell? ⟨w.heap.size, 4, none⟩ = some (.string g.e.lb) ∧ ((((((W.setCell ⟨w.heap.size, 0, none⟩ (.int .i64 g.e.k)).setCell ⟨w.heap.size, 1, none⟩ (.int .i64 g.e.a)).setCell ⟨w.heap.size, 2, none⟩ (.int .i64 g.e.m)).setCell ⟨w.heap.size, 3, none⟩ (.string g.e.nm)).setCell ⟨w.heap.size, 4, none⟩ (.string g.e.lb)).setCell ⟨w.heap.size, 5, none⟩ (.slice A9 g.e.l.length c9)).cell? ⟨w.heap.size, 5, none⟩ = some (.slice A9 g.e.l.length c9))) := Lib.hid fun W h => (h.set6 (e := g.e) (lv := (.slice A9 g.e.l.length c9))).1.six
      have HC := Lib.hid HC.out.drew
      have HS := Lib.hid HS.out.drew
      have HF := Lib.hid (HF.out.trans (below_drew _ _))
      have HX3 := Lib.hid (HX3.out.under (below_drew _ _) (by intro b _ hb; exact hb))
      obtain ⟨c0, c1, c2, c3, c4, c5⟩ : (wu.drew.cell? ⟨w.heap.size, 0, none⟩ = some (.int .i64 g.e.k) ∧ wu.drew.cell? ⟨w.heap.size, 1, none⟩ = some (.int .i64 g.e.a) ∧ wu.drew.cell? ⟨w.heap.size, 2, none⟩ = some (.int .i64 g.e.m) ∧ wu.drew.cell? ⟨w.heap.size, 3, none⟩ = some (.string g.e.nm) ∧ wu.drew.cell? ⟨w.heap.size, 4, none⟩ = some (.string g.e.lb) ∧ wu.drew.cell? ⟨w.heap.size, 5, none⟩ = some (.slice A9 g.e.l.length c9)) := HS.out.six
      go_region_held3 (fun w' => (w'.cell? ⟨w.heap.size, 0, none⟩ = some (.int .i64 g.e.k) ∧ w'.cell? ⟨w.heap.size, 1, none⟩ = some (.int .i64 g.e.a) ∧ w'.cell? ⟨w.heap.size, 2, none⟩ = some (.int .i64 g.e.m) ∧ w'.cell? ⟨w.heap.size, 3, none⟩ = some (.string g.e.nm) ∧ w'.cell? ⟨w.heap.size, 4, none⟩ = some (.string g.e.lb) ∧ w'.cell? ⟨w.heap.size, 5, none⟩ = some (.slice A9 g.e.l.length c9))) (((try dsimp only); first | (with_reducible exact HK6.out _ HS.out) | ((repeat' apply And.intro) <;> first | (with_reducible assumption) | go_keep))) (first
        | (go_at_call 23; refine (HPO.out _ HC.out).mono ?_; rintro e wp ⟨rfl, b⟩; have HX3 := Lib.hid (HX3.out.under b (by intro b _ hb; exact hb)); have HF := Lib.hid (HF.out.trans (b.mono (Nat.le_of_lt HS.out.lt))); have HS := Lib.hid (HS.out.below b HS.out.lt); have HC := Lib.hid (HC.out.under b); clear b; obtain ⟨c0, c1, c2, c3, c4, c5⟩ : (wp.cell? ⟨w.heap.size, 0, none⟩ = some (.int .i64 g.e.k) ∧ wp.cell? ⟨w.heap.size, 1, none⟩ = some (.int .i64 g.e.a) ∧ wp.cell? ⟨w.heap.size, 2, none⟩ = some (.int .i64 g.e.m) ∧ wp.cell? ⟨w.heap.size, 3, none⟩ = some (.string g.e.nm) ∧ wp.cell? ⟨w.heap.size, 4, none⟩ = some (.string g.e.lb) ∧ wp.cell? ⟨w.heap.size, 5, none⟩ = some (.slice A9 g.e.l.length c9)) := HS.out.six; have f0 := HS.out.fz 0 (by omega); have f1 := HS.out.fz 1 (by omega); have f2 := HS.out.fz 2 (by omega); have f3 := HS.out.fz 3 (by omega); have f4 := HS.out.fz 4 (by omega); have f5 := HS.out.fz 5 (by omega))
        | fail)
      go_wp2
      rw [HR.out]
      have hfin := HS.out.set6 (e := g.e) (lv := (.slice A9 g.e.l.length c9))
      refine parse_done rfl rfl rfl rfl hfin.1 ⟨(.slice A9 g.e.l.length c9), rfl, ((HX3.out.grown hfin.2 (fun b hb _ e => by injection e with e; omega)).weak (fun b hb _ => by omega)), bel_fr HF.out hfin.2 (Nat.le_refl _) (Nat.le_of_lt HS.out.lt)⟩
end Go.Proofs.YtnhhdafhnngolaaDoor

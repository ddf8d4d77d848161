import Derived.Test.YtmnggldejflooaaGreatDoorSq
import Derived.Test.YtmnggldejflooaaGreatDoorEqA
import Derived.Test.YtmnggldejflooaaGreatDoorMEi
set_option maxHeartbeats 1600000
namespace Go.Proofs.YtmnggldejflooaaGreatDoor
set_option linter.unusedVariables false
set_option linter.unusedSimpArgs false
open Go.RowKit
def RExC (X : Ry) (f : Nat) : Prop := ∀ (l d p : Nat) (w : World), 1 ≤ l → l ≤ 6 → d ≤ 32 → p ≤ X.L.length → X.In w w.heap.size → 16 * (X.L.length - p) + (10 - l) ≤ f →
 CP 52 #[X.val, .int .i64 (p : Int), .int .i64 (l : Int), .int .i64 (d : Int)] w (RgTo w (rd X.R f (.lev l) p d))
def RSgC (X : Ry) (f : Nat) : Prop := ∀ (d p : Nat) (w : World), d ≤ 32 → p ≤ X.L.length → X.In w w.heap.size → 16 * (X.L.length - p) + 3 ≤ f →
 CP 93 #[X.val, .int .i64 (p : Int), .int .i64 (d : Int)] w (RgTo w (rd X.R f .sg p d))
def RPrC (X : Ry) (f : Nat) : Prop := ∀ (d p : Nat) (w : World), d ≤ 32 → p ≤ X.L.length → X.In w w.heap.size → 16 * (X.L.length - p) + 2 ≤ f →
 CP 129 #[X.val, .int .i64 (p : Int), .int .i64 (d : Int)] w (RgTo w (rd X.R f .pr p d))
structure Two (X : Ry) (w w1 : World) : Prop where
 c0 : w1.cell? ⟨w.heap.size, 0, none⟩ = some (.string X.T)
 c1 : w1.cell? ⟨w.heap.size, 1, none⟩ = some (.slice X.A X.L.length X.c)
 ga : Gar w1 (w.heap.size + 1) Ex.nul (.slice none 0 0) 0 0
 be : Below w.heap.size w w1
 sz : w1.heap.size = w.heap.size + 2
theorem two_entry (X : Ry) (w : World) : Two X w ((w.alloc (.cells #[.string X.T, .slice X.A X.L.length X.c] 26)).alloc (.cells z8 99)) := by
 refine ⟨?_, ?_, ?_, ((Below.refl _ w).alloc nLe _).alloc (by simp) _, by simp⟩
 ·rw [World.cell?_alloc_past _ _ _ (by show w.heap.size < _; simp), World.cell?_alloc_at _ _ _ _ rfl]; rfl
 ·rw [World.cell?_alloc_past _ _ _ (by show w.heap.size < _; simp), World.cell?_alloc_at _ _ _ _ rfl]; rfl
 ·have := gar_entry (w.alloc (.cells #[.string X.T, .slice X.A X.L.length X.c] 26))
  rwa [row_size] at this
theorem Two.row {X : Ry} {w w1 w2 : World} {B : Nat} (h : Two X w w1) (hb : Below B w1 w2) (hB : w.heap.size < B) : w2.cell? ⟨w.heap.size, 0, none⟩ = some (.string X.T) ∧ w2.cell? ⟨w.heap.size, 1, none⟩ = some (.slice X.A X.L.length X.c) :=
 ⟨(hb.cell (p := ⟨w.heap.size, 0, none⟩) hB).trans h.c0, (hb.cell (p := ⟨w.heap.size, 1, none⟩) hB).trans h.c1⟩
set_option maxRecDepth 10000 in
theorem rSigned_no (X : Ry) (f : Nat) (hP : RPrC X f) (d p : Nat) (w : World) (hd : d ≤ 32) (hp : p ≤ X.L.length) (h : X.In w w.heap.size) (hf : 16 * (X.L.length - p) + 3 ≤ f + 1) (hsg : (X.R.is p [33] || X.R.is p [45]) = false) :
  CP 93 #[X.val, .int .i64 (p : Int), .int .i64 (d : Int)] w (RgTo w (rd X.R (f + 1) .sg p d)) := by
 have hz := zeroGot
 have hln := h.2.len
 obtain ⟨e33, e45⟩ := Bool.or_eq_false_iff.1 hsg
 have e33' : ((X.R.wd p).toList == [33]) = false := e33
 have e45' : ((X.R.wd p).toList == [45]) = false := e45
 rw [rd_sg_no hsg]
 have HI := Lh h
 have H2 := Lh (two_entry X w)
 have HA : Hid (∀ W, Below w.heap.size w W → CP 14 #[X.val, .int .i64 (p : Int)] W fun e w' => e = .returned (.string (X.R.wd p)) ∧ Below W.heap.size W w') := Lh fun W hW => rAt_any X p W ((HI.out.up hW nLe).more hW.size) (by omega)
 have HP : Hid (∀ W, Below w.heap.size w W → CP 129 #[X.val, .int .i64 (p : Int), .int .i64 (d : Int)] W (RgTo W (rd X.R f .pr p d))) := Lh fun W hW => hP d p W hd hp ((HI.out.up hW nLe).more hW.size) (by omega)
 obtain ⟨g, hg⟩ : ∃ g, rd X.R f .pr p d = g := ⟨_, rfl⟩
 rw [hg] at HP ⊢
 obtain ⟨s, hs⟩ : ∃ s, X.R.wd p = s := ⟨_, rfl⟩
 rw [hs] at HA e33' e45'
 clear h hP hg hs hsg e33 e45
 obtain ⟨W1, hW1⟩ : ∃ W1, ((w.alloc (.cells #[.string X.T, .slice X.A X.L.length X.c] 26)).alloc (.cells z8 99)) = W1 := ⟨_, rfl⟩
 rw [hW1] at H2
 have HW1 := Lh hW1
 have hs1 := H2.out.sz
 clear hW1
 go_enter Tryz.func93, Tryz.ntmps93
 go_wp2_with (first
  | (go_at_call 14; rw [HW1.out]; refine (HA.out _ H2.out.be).mono ?_; rintro e w2 ⟨rfl, b2⟩; have HB2 := Lh (H2.out.be.trans (b2.mono H2.out.be.size)); have HG2 := Lh (H2.out.ga.below b2 (by omega)); obtain ⟨k0, k1⟩ := H2.out.row b2 (by omega); have hs2 := b2.size; clear b2; dsimp only)
  | (go_at_call 129; refine (HP.out _ HB2.out).mono ?_; rintro e w3 ⟨lv, rfl, hx3, b3⟩; have hone := hx3.one; have HX3 := Lh hx3; have HB3 := Lh (bTr HB2 b3); have HG3 := Lh (HG2.out.below b3 (by omega)); have hs3 := b3.size; clear b3 hx3; dsimp only)
  | (refine wpList_stg rfl (.tmp 6) (.tmp 21) rfl (w.heap.size + 1) rfl HG3.out (e := g.e) (lv := lv) (p := (g.p : Int)) (r := g.r) rfl hone ?_; intro w4 hg4 hs4; have HG4 := Lh hs4; have HB4 := Lh (bel_fr HB3.out hg4 (by omega) HB3.out.size); have HX4 := Lh (HX3.out.grown hg4 (by intro b hb _ e; injection e with e; have hb : w2.heap.size ≤ b := hb; omega)); clear hg4 hs4)
  | fail)
 refine g_ret (i := 6) (by kernel_rfl) rfl rfl HG4.out ⟨lv, rfl, ?_, HB4.out⟩
 exact HX4.out.weak fun b hb _ => by have hb : w2.heap.size ≤ b := hb; show w.heap.size ≤ b; omega
theorem Gar.six {w : World} {G : Nat} {x : Ex} {lv : Value} {p r : Int} (h : Gar w G x lv p r) : w.cell? ⟨G, 0, none⟩ = some (.int .i64 x.k) ∧ w.cell? ⟨G, 1, none⟩ = some (.int .i64 x.a) ∧ w.cell? ⟨G, 2, none⟩ = some (.int .i64 x.m) ∧ w.cell? ⟨G, 3, none⟩ = some (.string x.nm) ∧ w.cell? ⟨G, 4, none⟩ = some (.string x.lb) ∧ w.cell? ⟨G, 5, none⟩ = some lv ∧ w.cell? ⟨G, 6, none⟩ = some (.int .i64 p) ∧ w.cell? ⟨G, 7, none⟩ = some (.int .i64 r) := by
 have h0 := h.cs 0 _ rfl
 have h1 := h.cs 1 _ rfl
 have h2 := h.cs 2 _ rfl
 have h3 := h.cs 3 _ rfl
 have h4 := h.cs 4 _ rfl
 have h5 := h.cs 5 _ rfl
 have h6 := h.cs 6 _ rfl
 have h7 := h.cs 7 _ rfl
 simp only [Nat.zero_add] at h0 h1 h2 h3 h4 h5 h6 h7
 exact ⟨h0, h1, h2, h3, h4, h5, h6, h7⟩
theorem hld_nul (e : Ex) (p q : Nat) (h : (hld e p q).r ≠ 0) : (hld e p q).e = Ex.nul := by
 rcases hld_p e p q with ⟨h1, _⟩ | ⟨_, _, h3⟩
 ·exact absurd h1 h
 ·exact h3
theorem rd_nul {R : Rw} : ∀ (f : Nat) (m : Md) (a d : Nat), (rd R f m a d).r ≠ 0 → (rd R f m a d).e = Ex.nul := by
 intro f
 induction f with
 | zero => intro m a d _; rw [rd_0]; rfl
 | succ f ih =>
  intro m a d
  cases m
  all_goals
   simp only [rd]
   repeat' split
   all_goals first
    | exact ih _ _ _
    | exact hld_nul _ _ _
    | (intro h; exact absurd rfl h)
    | (intro _; rfl)
theorem Gar.set8 {w : World} {G : Nat} {x e : Ex} {zv lv : Value} {zp zr p r : Int} (h : Gar w G x zv zp zr) :
  Gar ((((((((w.setCell ⟨G, 0, none⟩ (.int .i64 e.k)).setCell ⟨G, 1, none⟩ (.int .i64 e.a)).setCell ⟨G, 2, none⟩ (.int .i64 e.m)).setCell ⟨G, 3, none⟩ (.string e.nm)).setCell ⟨G, 4, none⟩ (.string e.lb)).setCell ⟨G, 5, none⟩ lv).setCell ⟨G, 6, none⟩ (.int .i64 p)).setCell ⟨G, 7, none⟩ (.int .i64 r)) G e lv p r ∧
  w.grownBy ((((((((w.setCell ⟨G, 0, none⟩ (.int .i64 e.k)).setCell ⟨G, 1, none⟩ (.int .i64 e.a)).setCell ⟨G, 2, none⟩ (.int .i64 e.m)).setCell ⟨G, 3, none⟩ (.string e.nm)).setCell ⟨G, 4, none⟩ (.string e.lb)).setCell ⟨G, 5, none⟩ lv).setCell ⟨G, 6, none⟩ (.int .i64 p)).setCell ⟨G, 7, none⟩ (.int .i64 r)) (some G) := by
 have e0 : ((((((((w.setCell ⟨G, 0, none⟩ (.int .i64 e.k)).setCell ⟨G, 1, none⟩ (.int .i64 e.a)).setCell ⟨G, 2, none⟩ (.int .i64 e.m)).setCell ⟨G, 3, none⟩ (.string e.nm)).setCell ⟨G, 4, none⟩ (.string e.lb)).setCell ⟨G, 5, none⟩ lv).setCell ⟨G, 6, none⟩ (.int .i64 p)).setCell ⟨G, 7, none⟩ (.int .i64 r)) = w.setCells G 0 (gC e lv p r) := rfl
 rw [e0]
 have hs : ∀ (vs : List Value) (o : Nat) (w : World), (w.setCells G o vs).heap.size = w.heap.size := by
  intro vs
  induction vs with
  | nil => intro o w; rfl
  | cons v r ih => intro o w; exact (ih (o + 1) _).trans (by simp)
 have hg : ∀ (vs : List Value) (o : Nat) (w : World), w.grownBy (w.setCells G o vs) (some G) := by
  intro vs
  induction vs with
  | nil => intro o w; exact World.grownBy.refl _ _
  | cons v r ih =>
   intro o w
   exact gb_trans (gb_set w G o v) (ih (o + 1) _)
 exact ⟨⟨World.rangeAt_setCells_same w G 0 _ h.there, fun j hj => by rw [World.frozen?_setCells]; exact h.fz j hj, by rw [hs]; exact h.lt⟩, hg _ _ _⟩
set_option maxRecDepth 10000 in
theorem rSigned_yes (X : Ry) (f : Nat) (hS : RSgC X f) (d p : Nat) (w : World) (hd : d ≤ 32) (hp : p < X.L.length) (h : X.In w w.heap.size) (hf : 16 * (X.L.length - p) + 3 ≤ f + 1) (hsg : (X.R.is p [33] || X.R.is p [45]) = true) (h32 : ¬ d = 32) :
  CP 93 #[X.val, .int .i64 (p : Int), .int .i64 (d : Int)] w (RgTo w (rd X.R (f + 1) .sg p d)) := by
 have hz := zeroGot
 have hln := h.2.len
 have d32 : ¬ (32 : Int) ≤ (d : Int) := by omega
 have HI := Lh h
 have H2 := Lh (two_entry X w)
 have HA : Hid (∀ W, Below w.heap.size w W → CP 14 #[X.val, .int .i64 (p : Int)] W fun e w' => e = .returned (.string (X.R.wd p)) ∧ Below W.heap.size W w') := Lh fun W hW => rAt_any X p W ((HI.out.up hW nLe).more hW.size) (by omega)
 have HPO : Hid (∀ W, Below w.heap.size w W → CP 23 #[X.val, .int .i64 (p : Int)] W fun e w' => e = .returned (.int .i64 (X.R.ps p)) ∧ Below W.heap.size W w') := Lh fun W hW => rPos_any X p W ((HI.out.up hW nLe).more hW.size) (by omega)
 obtain ⟨g, hg⟩ : ∃ g, rd X.R f .sg (p + 1) (d + 1) = g := ⟨_, rfl⟩
 have HS : Hid (∀ W, Below w.heap.size w W → CP 93 #[X.val, .int .i64 ((p : Int) + 1), .int .i64 ((d : Int) + 1)] W (RgTo W g)) := Lh fun W hW => by
  rw [← hg]
  exact hS (d + 1) (p + 1) W (by omega) hp ((HI.out.up hW nLe).more hW.size) (by omega)
 have hfi := rd_fine (row_ok X.T X.L) (show X.R.n ≤ 1000000 from hln) f .sg (p + 1) (d + 1) hp (fun h => by cases h) trivial
 rw [hg] at hfi
 have hfi : g.r = 0 → Fine g.e := fun h => (hfi h).1
 have hnul : g.r ≠ 0 → g.e = Ex.nul := by rw [← hg]; exact rd_nul _ _ _ _
 have HRD := Lh (rd_sg_yes (d := d) hsg h32 hg)
 have hor : ((X.R.wd p).toList == [33]) = true ∨ (((X.R.wd p).toList == [33]) = false ∧ ((X.R.wd p).toList == [45]) = true) := by
  rcases Bool.or_eq_true_iff.1 hsg with h | h
  ·exact .inl h
  ·cases h3 : X.R.is p [33] with
   | true => exact .inl h3
   | false => exact .inr ⟨h3, h⟩
 rw [HRD.out]
 obtain ⟨s, hs⟩ : ∃ s, X.R.wd p = s := ⟨_, rfl⟩
 rw [hs] at HA hor ⊢
 have HFI := Lh hfi
 clear h hS hg hs hsg HRD hfi
 obtain ⟨W1, hW1⟩ : ∃ W1, ((w.alloc (.cells #[.string X.T, .slice X.A X.L.length X.c] 26)).alloc (.cells z8 99)) = W1 := ⟨_, rfl⟩
 rw [hW1] at H2
 have HW1 := Lh hW1
 have hs1 := H2.out.sz
 clear hW1
 by_cases hr : g.r = 0
 ·rw [if_pos hr]
  have hr2' : (g.r == 0) = true := by simp [hr]
  have hr2'' : decide (g.r = 0) = true := by simp [hr]
  have hfine := HFI.out hr
  have HWF : Hid ((eUn (X.R.ps p) s g.e).wfx) := Lh (un_wfx hfine)
  have HHT : Hid ((eUn (X.R.ps p) s g.e).ht ≤ 1000000) := Lh (by rw [Ex.ht_eq]; show max g.e.ht 0 + 1 ≤ _; have := hfine.2; omega)
  obtain ⟨E5, a5, n5, P5, R5, hx0, he5, hx5⟩ : ∃ (E5 : Ex) (a5 : Nat → Option Addr) (n5 P5 : Nat) (R5 : Int), (∀ W B (S : Nat → Prop), Shx W S (.slice (some ⟨B, 0, none⟩) 1 1) [g.e] → CP 95 #[.agg #[.int .i64 4, .int .i64 (X.R.ps p), .int .i64 0, .string s, .string ⟨#[]⟩, .slice (some ⟨B, 0, none⟩) 1 1], .int .i64 (g.p : Int), .int .i64 (p : Int)] W fun e w' => e = .returned (gV E5 (.slice (a5 B) n5 n5) (P5 : Int) R5) ∧ Below W.heap.size W w') ∧ hld (eUn (X.R.ps p) s g.e) g.p p = ⟨E5, P5, R5⟩ ∧ (∀ W B (S : Nat → Prop), Shx W S (.slice (some ⟨B, 0, none⟩) 1 1) [g.e] → Shx W S (.slice (a5 B) n5 n5) E5.l) := by
   by_cases hh32 : 32 < (eUn (X.R.ps p) s g.e).ht
   ·exact ⟨Ex.nul, fun _ => none, 0, p, 12, fun W B S h => held_high (eUn (X.R.ps p) s g.e) _ g.p p W S HWF.out HHT.out h hh32, by unfold hld; rw [if_pos hh32]; rfl, fun W B S h => .nil⟩
   ·exact ⟨eUn (X.R.ps p) s g.e, fun B => some ⟨B, 0, none⟩, 1, g.p, 0, fun W B S h => held_good (eUn (X.R.ps p) s g.e) _ g.p p W S HWF.out HHT.out h hh32, by unfold hld; rw [if_neg hh32]; rfl, fun W B S h => h⟩
  rw [he5]
  have HX0 := Lh hx0
  have HX5 := Lh hx5
  clear hx0 hx5 he5 HWF HHT
  rcases hor with h' | ⟨h', h''⟩
  all_goals
   go_enter Tryz.func93, Tryz.ntmps93
   go_wp2_with (first
    | (go_at_call 14; rw [HW1.out]; refine (HA.out _ H2.out.be).mono ?_; rintro e w2 ⟨rfl, b2⟩; have HB2 := Lh (H2.out.be.trans (b2.mono H2.out.be.size)); have HG2 := Lh (H2.out.ga.below b2 (by omega)); have HK2 := Lh (H2.out.row b2 (by omega)); obtain ⟨k0, k1⟩ := HK2.out; have hs2 := b2.size; clear b2; dsimp only)
    | (go_at_call 93; refine (HS.out _ HB2.out).mono ?_; rintro e w3 ⟨lv, rfl, hx3, b3⟩; obtain ⟨A3, c3, rfl, _⟩ := hx3.len; have hone := hx3.one; have HX3 := Lh hx3; have HB3 := Lh (bTr HB2 b3); have HG3 := Lh (HG2.out.below b3 (by omega)); have HD3 := Lh b3; have hs3 := b3.size; clear b3 hx3; dsimp only)
    | (refine wpList_stg rfl (.tmp 8) (.tmp 31) rfl w3.heap.size rfl (gar_entry w3) (e := g.e) (lv := .slice A3 g.e.l.length c3) (p := (g.p : Int)) (r := g.r) rfl hone ?_; intro w4 hg4 hs4; have HG4 := Lh hs4; have HH4 := Lh hg4; have hs4' := hg4.size; simp only [row_size] at hs4'; obtain ⟨m0, m1, m2, m3, m4, m5, m6, m7⟩ := hs4.six; clear hg4 hs4)
    | fail)
   obtain ⟨K, hK⟩ : ∃ K, w3.heap.size = K := ⟨_, rfl⟩
   have HB4 : Hid (Below w.heap.size w w4) := Lh (bel_fr (HB3.out.alloc HB3.out.size _) HH4.out (by have := HB3.out.size; omega) (by simp; have := HB3.out.size; omega))
   have HX4 : Hid (Shx w4 (fun b => w2.heap.size ≤ b) (.slice A3 g.e.l.length c3) g.e.l) := Lh ((((HX3.out.weak (S' := fun b => w2.heap.size ≤ b ∧ b < w3.heap.size) (fun b h1 h2 => ⟨h1, h2⟩)).under bAl (fun b hb _ => hb.2)).grown HH4.out (by intro b hb _ e; injection e with e; omega)).weak fun b hb _ => hb.1)
   have hk0 : w4.cell? ⟨w.heap.size, 0, none⟩ = some (.string X.T) ∧ w4.cell? ⟨w.heap.size, 1, none⟩ = some (.slice X.A X.L.length X.c) := by
    have hbk : w4.heap[w.heap.size]? = w2.heap[w.heap.size]? := (HH4.out.block w.heap.size (by simp; omega) (by intro e; injection e; omega)).trans (((bAl : Below w3.heap.size w3 _).block w.heap.size (by omega)).trans (HD3.out.block w.heap.size (by omega)))
    exact ⟨(World.cell?_of_block (a := ⟨w.heap.size, 0, none⟩) hbk).trans k0, (World.cell?_of_block (a := ⟨w.heap.size, 1, none⟩) hbk).trans k1⟩
   rw [hK] at HG4 m0 m1 m2 m3 m4 m5 m6 m7 hs3 ⊢
   have HGA4 := Lh ((HG3.out.below ((Below.refl w3.heap.size w3).alloc nLe (.cells z8 99)) (by omega)).grown HH4.out (by intro e; injection e; omega))
   have hz4 := HG4.out.lt
   have KS : Hid (∀ W, Below w4.heap.size w4 W → W.cell? ⟨w.heap.size, 0, none⟩ = some (.string X.T) ∧ W.cell? ⟨w.heap.size, 1, none⟩ = some (.slice X.A X.L.length X.c) ∧ W.cell? ⟨K, 0, none⟩ = some (.int .i64 g.e.k) ∧ W.cell? ⟨K, 1, none⟩ = some (.int .i64 g.e.a) ∧ W.cell? ⟨K, 2, none⟩ = some (.int .i64 g.e.m) ∧ W.cell? ⟨K, 3, none⟩ = some (.string g.e.nm) ∧ W.cell? ⟨K, 4, none⟩ = some (.string g.e.lb) ∧ W.cell? ⟨K, 5, none⟩ = some (.slice A3 g.e.l.length c3) ∧ W.cell? ⟨K, 6, none⟩ = some (.int .i64 (g.p : Int))) := Lh fun W hW => by
    obtain ⟨a0, a1, a2, a3, a4, a5, a6, a7⟩ := (HG4.out.below hW hz4).six
    have hbk := hW.block w.heap.size (by omega)
    exact ⟨(World.cell?_of_block (a := ⟨w.heap.size, 0, none⟩) hbk).trans hk0.1, (World.cell?_of_block (a := ⟨w.heap.size, 1, none⟩) hbk).trans hk0.2, a0, a1, a2, a3, a4, a5, a6⟩
   have KT : Hid (∀ W0 W, Below w4.heap.size w4 W0 → W0.grownBy W (some (w.heap.size + 1)) → W.cell? ⟨w.heap.size, 0, none⟩ = some (.string X.T) ∧ W.cell? ⟨w.heap.size, 1, none⟩ = some (.slice X.A X.L.length X.c) ∧ W.cell? ⟨K, 0, none⟩ = some (.int .i64 g.e.k) ∧ W.cell? ⟨K, 1, none⟩ = some (.int .i64 g.e.a) ∧ W.cell? ⟨K, 2, none⟩ = some (.int .i64 g.e.m) ∧ W.cell? ⟨K, 3, none⟩ = some (.string g.e.nm) ∧ W.cell? ⟨K, 4, none⟩ = some (.string g.e.lb) ∧ W.cell? ⟨K, 5, none⟩ = some (.slice A3 g.e.l.length c3) ∧ W.cell? ⟨K, 6, none⟩ = some (.int .i64 (g.p : Int))) := Lh fun W0 W hW hg => by
    obtain ⟨b0, b1, a0, a1, a2, a3, a4, a5, a6⟩ := KS.out W0 hW
    have hs0 := hW.size
    have e1 := hg.block w.heap.size (by omega) (by intro e; injection e; omega)
    have e2 := hg.block K (by omega) (by intro e; injection e; omega)
    exact ⟨(World.cell?_of_block (a := ⟨w.heap.size, 0, none⟩) e1).trans b0, (World.cell?_of_block (a := ⟨w.heap.size, 1, none⟩) e1).trans b1, (World.cell?_of_block (a := ⟨K, 0, none⟩) e2).trans a0, (World.cell?_of_block (a := ⟨K, 1, none⟩) e2).trans a1, (World.cell?_of_block (a := ⟨K, 2, none⟩) e2).trans a2, (World.cell?_of_block (a := ⟨K, 3, none⟩) e2).trans a3, (World.cell?_of_block (a := ⟨K, 4, none⟩) e2).trans a4, (World.cell?_of_block (a := ⟨K, 5, none⟩) e2).trans a5, (World.cell?_of_block (a := ⟨K, 6, none⟩) e2).trans a6⟩
   have HBD := Lh (below_drew w4 w4.heap.size)
   have HBL : Hid (Below w4.heap.size w4 (w4.alloc (.cells #[.int .i64 g.e.k, .int .i64 g.e.a, .int .i64 g.e.m, .string g.e.nm, .string g.e.lb, .slice A3 g.e.l.length c3] 46)).drew) := Lh (((Below.refl w4.heap.size w4).alloc nLe (.cells #[.int .i64 g.e.k, .int .i64 g.e.a, .int .i64 g.e.m, .string g.e.nm, .string g.e.lb, .slice A3 g.e.l.length c3] 46)).trans (below_drew _ _))
   have HTL : Hid (Shx (w4.alloc (.cells #[.int .i64 g.e.k, .int .i64 g.e.a, .int .i64 g.e.m, .string g.e.nm, .string g.e.lb, .slice A3 g.e.l.length c3] 46)).drew (fun b => w2.heap.size ≤ b) (.slice (some ⟨w4.heap.size, 0, none⟩) 1 1) [g.e]) := Lh ((Shx.lit (w := w4) (S := fun b => w2.heap.size ≤ b) [(g.e, .slice A3 g.e.l.length c3)] (by simp) (by intro q hq; rw [List.mem_singleton.1 hq]; exact HX4.out) (by show w2.heap.size ≤ w4.heap.size; omega) rfl).under (below_drew _ (w4.heap.size + 1)) (by intro b _ h; simpa using h))
   clear k0 k1 m0 m1 m2 m3 m4 m5 m6 m7 hk0 HK2 HG2 HG3 HB2 HB3 HX3 HD3 HH4 H2 HW1 hK
   obtain ⟨k0, k1, m0, m1, m2, m3, m4, m5, m6⟩ := KS.out _ HBD.out
   go_region_held3 (fun W => W.cell? ⟨w.heap.size, 0, none⟩ = some (.string X.T) ∧ W.cell? ⟨w.heap.size, 1, none⟩ = some (.slice X.A X.L.length X.c) ∧ W.cell? ⟨K, 0, none⟩ = some (.int .i64 g.e.k) ∧ W.cell? ⟨K, 1, none⟩ = some (.int .i64 g.e.a) ∧ W.cell? ⟨K, 2, none⟩ = some (.int .i64 g.e.m) ∧ W.cell? ⟨K, 3, none⟩ = some (.string g.e.nm) ∧ W.cell? ⟨K, 4, none⟩ = some (.string g.e.lb) ∧ W.cell? ⟨K, 5, none⟩ = some (.slice A3 g.e.l.length c3) ∧ W.cell? ⟨K, 6, none⟩ = some (.int .i64 (g.p : Int))) (((try dsimp only); first | (with_reducible exact KS.out _ HBD.out) | (with_reducible exact KS.out _ HBL.out) | (with_reducible exact KS.out _ HB6.out) | (with_reducible exact KS.out _ HBS8.out) | (with_reducible exact KT.out _ _ HBS8.out (Gar.set8 HG8.out).2) | ((repeat' apply And.intro) <;> first | (with_reducible assumption) | go_keep))) (first
    | (go_at_call 23; with_reducible refine (HPO.out _ (HB4.out.trans (HBD.out.mono HB4.out.size))).mono ?_; rintro e w6 ⟨rfl, b6⟩; have HB6 := Lh (bTr HBD b6); clear b6; dsimp only)
    | (go_at_call 23; with_reducible refine (HPO.out _ (HB4.out.trans (HBL.out.mono HB4.out.size))).mono ?_; rintro e w6 ⟨rfl, b6⟩; have HB6 := Lh (bTr HBL b6); have HT7 := Lh (HTL.out.under b6 (by intro b _ h; exact h)); clear b6; dsimp only)
    | (go_at_call 95; have HX6 := Lh (HX4.out.under HB6.out (by intro b _ h; exact h)); have hge6 := HB6.out.size; have HT7 := Lh (show Shx (w6.alloc (.cells #[.int .i64 g.e.k, .int .i64 g.e.a, .int .i64 g.e.m, .string g.e.nm, .string g.e.lb, .slice A3 g.e.l.length c3] 46)) (fun b => w2.heap.size ≤ b) (.slice (some ⟨w6.heap.size, 0, none⟩) 1 1) [g.e] from Shx.lit (w := w6) (S := fun b => w2.heap.size ≤ b) [(g.e, .slice A3 g.e.l.length c3)] (by simp) (by intro q hq; rw [List.mem_singleton.1 hq]; exact HX6.out) (by show w2.heap.size ≤ w6.heap.size; omega) rfl); with_reducible refine (HX0.out _ _ _ HT7.out).mono ?_; rintro e w8 ⟨rfl, b8⟩; have HB8 := Lh (((HB4.out.trans (HB6.out.mono HB4.out.size)).alloc (by have := HB4.out.size; omega) _).trans (b8.mono (by simp; have := HB4.out.size; omega))); have HBS8 := Lh ((HB6.out.alloc (by omega) _).trans (b8.mono (by simp; omega))); have HT8 := Lh (HT7.out.under b8 (by intro b _ h; exact h)); have HG8 := Lh (HGA4.out.below HBS8.out HGA4.out.lt); obtain ⟨k0, k1, m0, m1, m2, m3, m4, m5, m6⟩ := KS.out _ HBS8.out; obtain ⟨z0, z1, z2, z3, z4, z5, z6, z7⟩ := HG8.out.six; have f0 := HG8.out.fz 0 (by omega); have f1 := HG8.out.fz 1 (by omega); have f2 := HG8.out.fz 2 (by omega); have f3 := HG8.out.fz 3 (by omega); have f4 := HG8.out.fz 4 (by omega); have f5 := HG8.out.fz 5 (by omega); have f6 := HG8.out.fz 6 (by omega); have f7 := HG8.out.fz 7 (by omega); clear b8; dsimp only)
    | (go_at_call 95; with_reducible refine (HX0.out _ _ _ HT7.out).mono ?_; rintro e w8 ⟨rfl, b8⟩; have hge6 := HB6.out.size; have HB8 := Lh ((HB4.out.trans (HB6.out.mono HB4.out.size)).trans (b8.mono (by have := HB4.out.size; omega))); have HBS8 := Lh (HB6.out.trans (b8.mono hge6)); have HT8 := Lh (HT7.out.under b8 (by intro b _ h; exact h)); have HG8 := Lh (HGA4.out.below HBS8.out HGA4.out.lt); obtain ⟨k0, k1, m0, m1, m2, m3, m4, m5, m6⟩ := KS.out _ HBS8.out; obtain ⟨z0, z1, z2, z3, z4, z5, z6, z7⟩ := HG8.out.six; have f0 := HG8.out.fz 0 (by omega); have f1 := HG8.out.fz 1 (by omega); have f2 := HG8.out.fz 2 (by omega); have f3 := HG8.out.fz 3 (by omega); have f4 := HG8.out.fz 4 (by omega); have f5 := HG8.out.fz 5 (by omega); have f6 := HG8.out.fz 6 (by omega); have f7 := HG8.out.fz 7 (by omega); clear b8; dsimp only)
    | fail)
   all_goals
    go_wp2
    refine g_ret (i := 6) (by kernel_rfl) rfl rfl (Gar.set8 (e := E5) (lv := .slice _ n5 n5) (p := (P5 : Int)) (r := R5) HG8.out).1 ?_
    refine ⟨_, rfl, ?_, bel_fr HB8.out (Gar.set8 HG8.out).2 (by omega) HB8.out.size⟩
    exact (HX5.out _ _ _ (HT8.out.grown (Gar.set8 HG8.out).2 (by intro b hb _ e; injection e with e; have hb : w2.heap.size ≤ b := hb; omega))).weak fun b hb _ => by have hb : w2.heap.size ≤ b := hb; show w.heap.size ≤ b; omega
 ·rw [if_neg hr]
  have hr2' : (g.r == 0) = false := by simp [hr]
  have hr2'' : decide (g.r = 0) = false := by simp [hr]
  have HNU := Lh (hnul hr)
  rcases hor with h' | ⟨h', h''⟩
  all_goals
   go_enter Tryz.func93, Tryz.ntmps93
   go_wp2_with (first
    | (go_at_call 14; rw [HW1.out]; refine (HA.out _ H2.out.be).mono ?_; rintro e w2 ⟨rfl, b2⟩; have HB2 := Lh (H2.out.be.trans (b2.mono H2.out.be.size)); have HG2 := Lh (H2.out.ga.below b2 (by omega)); obtain ⟨k0, k1⟩ := H2.out.row b2 (by omega); have hs2 := b2.size; clear b2; dsimp only)
    | (go_at_call 93; refine (HS.out _ HB2.out).mono ?_; rintro e w3 ⟨lv, rfl, hx3, b3⟩; obtain ⟨A3, c3, rfl, _⟩ := hx3.len; have hone := hx3.one; have HX3 := Lh hx3; have HB3 := Lh (bTr HB2 b3); have HG3 := Lh (HG2.out.below b3 (by omega)); have hs3 := b3.size; clear b3 hx3; dsimp only)
    | (refine wpList_stg rfl (.tmp 8) (.tmp 31) rfl w3.heap.size rfl (gar_entry w3) (e := g.e) (lv := .slice A3 g.e.l.length c3) (p := (g.p : Int)) (r := g.r) rfl hone ?_; intro w4 hg4 hs4; have HG4 := Lh hs4; have HH4 := Lh hg4; have hs4' := hg4.size; simp only [row_size] at hs4'; have HGA4 := Lh ((HG3.out.below ((Below.refl w3.heap.size w3).alloc nLe (.cells z8 99)) (by omega)).grown HH4.out (by intro e; injection e; omega)); have HB4 := Lh (bel_fr (HB3.out.alloc HB3.out.size (.cells z8 99)) HH4.out (by omega) (by simp; omega)); obtain ⟨m0, m1, m2, m3, m4, m5, m6, m7⟩ := hs4.six; clear hg4 hs4)
    | (refine wpList_ldg rfl (.tmp 8) rfl w3.heap.size rfl HG4.out ?_)
    | (refine wpList_stg rfl (.tmp 6) (.tmp 35) rfl (w.heap.size + 1) rfl HGA4.out (e := g.e) (lv := .slice A3 g.e.l.length c3) (p := (g.p : Int)) (r := g.r) rfl hone ?_; intro w5 hg5 hs5; have HG5 := Lh hs5; have HB5 := Lh (bel_fr HB4.out hg5 (by omega) HB4.out.size); clear hg5 hs5)
    | fail)
   refine g_ret (i := 6) (by kernel_rfl) rfl rfl HG5.out ⟨.slice A3 g.e.l.length c3, ?_, ?_, HB5.out⟩
   ·show Ending.returned (gV g.e _ (g.p : Int) g.r) = Ending.returned (gV Ex.nul _ (g.p : Int) g.r)
    rw [HNU.out]
   ·have h1 : g.e.l = [] := by rw [HNU.out]; rfl
    rw [h1]
    exact .emp _ _
set_option maxRecDepth 10000 in
theorem rSigned_deep (X : Ry) (f p : Nat) (w : World) (hp : p ≤ X.L.length) (h : X.In w w.heap.size) (hsg : (X.R.is p [33] || X.R.is p [45]) = true) :
  CP 93 #[X.val, .int .i64 (p : Int), .int .i64 32] w (RgTo w (rd X.R (f + 1) .sg p 32)) := by
 have hz := zeroGot
 have hln := h.2.len
 rw [rd_sg_deep hsg rfl]
 have HI := Lh h
 have H2 := Lh (two_entry X w)
 have HA : Hid (∀ W, Below w.heap.size w W → CP 14 #[X.val, .int .i64 (p : Int)] W fun e w' => e = .returned (.string (X.R.wd p)) ∧ Below W.heap.size W w') := Lh fun W hW => rAt_any X p W ((HI.out.up hW nLe).more hW.size) (by omega)
 have hor : ((X.R.wd p).toList == [33]) = true ∨ (((X.R.wd p).toList == [33]) = false ∧ ((X.R.wd p).toList == [45]) = true) := by
  rcases Bool.or_eq_true_iff.1 hsg with h | h
  ·exact .inl h
  ·cases h3 : X.R.is p [33] with
   | true => exact .inl h3
   | false => exact .inr ⟨h3, h⟩
 obtain ⟨s, hs⟩ : ∃ s, X.R.wd p = s := ⟨_, rfl⟩
 rw [hs] at HA hor
 clear h hs hsg
 obtain ⟨W1, hW1⟩ : ∃ W1, ((w.alloc (.cells #[.string X.T, .slice X.A X.L.length X.c] 26)).alloc (.cells z8 99)) = W1 := ⟨_, rfl⟩
 rw [hW1] at H2
 have HW1 := Lh hW1
 have hs1 := H2.out.sz
 clear hW1
 rcases hor with h' | ⟨h', h''⟩
 all_goals
  go_enter Tryz.func93, Tryz.ntmps93
  go_wp2_with (first
   | (go_at_call 14; rw [HW1.out]; refine (HA.out _ H2.out.be).mono ?_; rintro e w2 ⟨rfl, b2⟩; have HB2 := Lh (H2.out.be.trans (b2.mono H2.out.be.size)); have HG2 := Lh (H2.out.ga.below b2 (by omega)); obtain ⟨k0, k1⟩ := H2.out.row b2 (by omega); have hs2 := b2.size; clear b2; dsimp only)
   | (refine wpList_stg rfl (.tmp 6) (.tmp 25) rfl (w.heap.size + 1) rfl HG2.out (e := Ex.nul) (lv := .slice none 0 0) (p := (p : Int)) (r := 12) rfl rfl ?_; intro w5 hg5 hs5; have HG5 := Lh hs5; have HB5 := Lh (bel_fr HB2.out hg5 (by omega) HB2.out.size); clear hg5 hs5)
   | fail)
  exact g_ret (i := 6) (by kernel_rfl) rfl rfl HG5.out ⟨.slice none 0 0, rfl, .nil, HB5.out⟩
theorem rSigned_step (X : Ry) (f : Nat) (hS : RSgC X f) (hP : RPrC X f) : RSgC X (f + 1) := by
 intro d p w hd hp h hf
 cases hsg : (X.R.is p [33] || X.R.is p [45]) with
 | false => exact rSigned_no X f hP d p w hd hp h hf hsg
 | true =>
  by_cases h32 : d = 32
  ·subst h32
   exact rSigned_deep X f p w hp h hsg
  ·have hlt : p < X.L.length := by
    rcases Bool.or_eq_true_iff.1 hsg with h | h
    ·exact (row_ok X.T X.L).is_lt h
    ·exact (row_ok X.T X.L).is_lt h
   exact rSigned_yes X f hS d p w hd hlt h hf hsg h32
set_option maxRecDepth 10000 in
theorem rExpr6 (X : Ry) (f : Nat) (hS : RSgC X f) (d p : Nat) (w : World) (hd : d ≤ 32) (hp : p ≤ X.L.length) (h : X.In w w.heap.size) (hf : 16 * (X.L.length - p) + 4 ≤ f + 1) :
  CP 52 #[X.val, .int .i64 (p : Int), .int .i64 6, .int .i64 (d : Int)] w (RgTo w (rd X.R (f + 1) (.lev 6) p d)) := by
 have hz := zeroGot
 rw [rd_lev6 nLe]
 have HI := Lh h
 have H2 := Lh (two_entry X w)
 have HS : Hid (∀ W, Below w.heap.size w W → CP 93 #[X.val, .int .i64 (p : Int), .int .i64 (d : Int)] W (RgTo W (rd X.R f .sg p d))) := Lh fun W hW => hS d p W hd hp ((HI.out.up hW nLe).more hW.size) (by omega)
 obtain ⟨g, hg⟩ : ∃ g, rd X.R f .sg p d = g := ⟨_, rfl⟩
 rw [hg] at HS ⊢
 clear h hg
 obtain ⟨W1, hW1⟩ : ∃ W1, ((w.alloc (.cells #[.string X.T, .slice X.A X.L.length X.c] 26)).alloc (.cells z8 99)) = W1 := ⟨_, rfl⟩
 rw [hW1] at H2
 have HW1 := Lh hW1
 have hs1 := H2.out.sz
 clear hW1 hS
 go_enter Tryz.func52, Tryz.ntmps52
 go_wp2_with (first
  | (go_at_call 93; rw [HW1.out]; refine (HS.out _ H2.out.be).mono ?_; rintro e w3 ⟨lv, rfl, hx3, b3⟩; have hone := hx3.one; have HX3 := Lh hx3; have HB3 := Lh (H2.out.be.trans (b3.mono H2.out.be.size)); have HG3 := Lh (H2.out.ga.below b3 (by omega)); have hs3 := b3.size; clear b3 hx3; dsimp only)
  | (refine wpList_stg rfl (.tmp 8) (.tmp 16) rfl (w.heap.size + 1) rfl HG3.out (e := g.e) (lv := lv) (p := (g.p : Int)) (r := g.r) rfl hone ?_; intro w4 hg4 hs4; have HG4 := Lh hs4; have HB4 := Lh (bel_fr HB3.out hg4 (by omega) HB3.out.size); have HX4 := Lh (HX3.out.grown hg4 (by intro b hb _ e; injection e with e; have hb : W1.heap.size ≤ b := hb; omega)); clear hg4 hs4)
  | fail)
 refine g_ret (i := 8) (by kernel_rfl) rfl rfl HG4.out ⟨lv, rfl, ?_, HB4.out⟩
 exact HX4.out.weak fun b hb _ => by have hb : W1.heap.size ≤ b := hb; show w.heap.size ≤ b; omega
end Go.Proofs.YtmnggldejflooaaGreatDoor

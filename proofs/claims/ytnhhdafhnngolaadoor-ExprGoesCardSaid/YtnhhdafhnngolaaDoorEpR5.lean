/-
  CONTRACT OF (*expr.Cursor).open, from those of less fuel.
-/
import Derived.Test.YtnhhdafhnngolaaDoorEpR4
namespace Go.Proofs.YtnhhdafhnngolaaDoor
set_option linter.unusedVariables false
set_option linter.unusedSimpArgs false
open Go.RowKit

theorem must_one (R : Rw) (p : Nat) (s : ByteArray) (l : List UInt8) (hs : s.toList = l) : mustP R p [s] = if R.is p l = true then (p + 1, 0) else (p, 11) := by
  unfold mustP mustP
  rw [hs]
theorem must_two (R : Rw) (p : Nat) (s t : ByteArray) (l k : List UInt8) (hs : s.toList = l) (ht : t.toList = k) : mustP R p [s, t] = if R.is p l = true then (if R.is (p + 1) k = true then (p + 2, 0) else (p + 1, 11)) else (p, 11) := by
  unfold mustP
  rw [must_one R (p + 1) t k ht, hs]
theorem tl44 : (⟨#[44]⟩ : ByteArray).toList = [44] := by rw [ByteArray.toList_eq]
theorem tl64 : (⟨#[64]⟩ : ByteArray).toList = [64] := by rw [ByteArray.toList_eq]
theorem tl41 : (⟨#[41]⟩ : ByteArray).toList = [41] := by rw [ByteArray.toList_eq]
theorem tl40 : (⟨#[40]⟩ : ByteArray).toList = [40] := by rw [ByteArray.toList_eq]
theorem tl46 : (⟨#[46]⟩ : ByteArray).toList = [46] := by rw [ByteArray.toList_eq]
abbrev comAt : List ByteArray := [⟨#[44]⟩, ⟨#[64]⟩]
theorem rd_op {R : Rw} {f a d : Nat} {g W : Gt} (hg : rd R f .gr (a + 1) d = g) (hW : wiG R g comAt = W) : rd R (f + 1) .op a d =
    if W.r = 0 then (if R.idn W.p = true then (if R.is (W.p + 1) [41] = true then hld (eOpen (R.ps a) (R.wd W.p) W.e) (W.p + 2) a else bad (W.p + 1) 11) else bad W.p 11) else bad W.p W.r := by
  simp only [rd]
  rw [hg, ← hW]
  unfold wiG
  by_cases h0 : g.r = 0
  · rw [if_pos h0, if_pos h0, must_two R g.p _ _ _ _ tl44 tl64]
    by_cases h1 : R.is g.p [44] = true
    · rw [if_pos h1, if_pos h1]
      by_cases h2 : R.is (g.p + 1) [64] = true
      · rw [if_pos h2, if_pos h2]
        rfl
      · rw [if_neg h2, if_neg h2]
        rfl
    · rw [if_neg h1, if_neg h1]
      rfl
  · rw [if_neg h0, if_neg h0, if_neg (show ¬ (bad g.p g.r).r = 0 from h0)]
    rfl
theorem wi_in {R : Rw} (hR : R.Ok) {g : Gt} (hg : g.p ≤ R.n) : ∀ (ss : List ByteArray), (∀ s ∈ ss, s.size ≠ 0) → g.p ≤ (wiG R g ss).p ∧ (wiG R g ss).p ≤ R.n ∧ ((wiG R g ss).r = 0 → g.r = 0 ∧ (wiG R g ss).e = g.e) := by
  intro ss hss
  have hm : ∀ (ss : List ByteArray) (p : Nat), (∀ s ∈ ss, s.size ≠ 0) → p ≤ R.n → p ≤ (mustP R p ss).1 ∧ (mustP R p ss).1 ≤ R.n := by
    intro ss
    induction ss with
    | nil => intro p _ hp; exact ⟨Nat.le_refl _, hp⟩
    | cons s ss ih =>
      intro p hs hp
      unfold mustP
      by_cases h1 : R.is p s.toList = true
      · rw [if_pos h1]
        obtain ⟨c, l, hl⟩ : ∃ c l, s.toList = c :: l := by
          cases hh : s.toList with
          | nil => have := toList_ne (hs s (by simp)); rw [hh] at this; cases this
          | cons c l => exact ⟨c, l, rfl⟩
        rw [hl] at h1
        have := ih (p + 1) (fun t ht => hs t (by simp [ht])) (hR.is_lt h1)
        exact ⟨by omega, this.2⟩
      · rw [if_neg h1]; exact ⟨Nat.le_refl _, hp⟩
  have h2 := hm ss g.p hss hg
  unfold wiG
  by_cases h0 : g.r = 0
  · rw [if_pos h0]
    split
    · exact ⟨h2.1, h2.2, fun _ => ⟨h0, rfl⟩⟩
    · rename_i h3
      exact ⟨h2.1, h2.2, fun h => absurd h h3⟩
  · rw [if_neg h0]
    exact ⟨Nat.le_refl _, hg, fun h => absurd h h0⟩

set_option maxRecDepth 10000 in
set_option maxHeartbeats 1600000 in
theorem open_step (C : Cx) (hC : TokOk C.T C.L) (f : Nat) (hW : WiC C f) : OpC C (f + 1) := by
  intro d p w hd h hplt hf
  have hz := zeroEx'
  have hlt := h.lt
  have hle := h.le
  have hln := hC.len
  have HC0 := Lib.hid (h.under (entry_below w)).drew
  have HE := Lib.hid (entry_slot w).drew
  have HES := Lib.hid (show ((w.alloc (.cells #[.int .i64 0, .int .i64 0, .int .i64 0, .string ⟨#[]⟩, .string ⟨#[]⟩, .slice none 0 0] 27)).drew).heap.size = w.heap.size + 1 from entry_size w)
  have HEB := Lib.hid ((entry_below w).trans (below_drew _ _))
  have HPO : Hid (∀ W, Cur C W p → Calls Tryd.prog 23 #[C.ptr] W fun e w' => e = .returned (.int .i64 (C.R.ps p)) ∧ Below W.heap.size W w') := Lib.hid fun W h2 => pos_any C hC p W h2
  have c0 := HC0.out.pl
  obtain ⟨W0, hW0⟩ : ∃ W0, w.alloc (.cells #[.int .i64 0, .int .i64 0, .int .i64 0, .string ⟨#[]⟩, .string ⟨#[]⟩, .slice none 0 0] 27) = W0 := ⟨_, rfl⟩
  have HW := Lib.hid hW0
  rw [hW0] at HC0 HE HES HEB c0
  clear h hW0
  obtain ⟨g, hg⟩ : ∃ g, rd C.R f .gr (p + 1) d = g := ⟨_, rfl⟩
  obtain ⟨V, hV⟩ : ∃ V, wiG C.R g comAt = V := ⟨_, rfl⟩
  have hin := rd_in (row_ok C.T C.L) f .gr (p + 1) d hplt (fun h => by cases h)
  have hfi := rd_fine (row_ok C.T C.L) hC.len f .gr (p + 1) d hplt (fun h => by cases h) trivial
  have HRD := Lib.hid (rd_op hg hV)
  rw [hg] at hin hfi
  have hcom : ∀ s ∈ comAt, s.size ≠ 0 := by
    intro s hs
    simp [comAt] at hs
    rcases hs with rfl | rfl <;> decide
  have hwi := wi_in (row_ok C.T C.L) hin.2.1 comAt hcom
  rw [hV] at hwi
  have hVn : V.p ≤ C.L.length := hwi.2.1
  have hVf : V.r = 0 → Fine V.e ∧ V.e.cnt + (p + 1) ≤ V.p := fun h0 => by
    obtain ⟨h1, h2⟩ := hwi.2.2 h0
    have h3 := hfi h1
    rw [h2]
    exact ⟨h3.1, by have := h3.2; have := hwi.1; omega⟩
  have HVF := Lib.hid hVf
  have HWC : Hid (∀ W G, W.heap.size = G → Cur C W (p + 1) → Calls Tryd.prog 94 #[C.ptr, .int .i64 (d : Int), .slice (some ⟨G, 0, none⟩) 2 2] (W.alloc (.cells #[.string ⟨#[44]⟩, .string ⟨#[64]⟩] 9)) (RdTo C (W.alloc (.cells #[.string ⟨#[44]⟩, .string ⟨#[64]⟩] 9)) V)) := Lib.hid fun W G hG hc => by
    subst hG
    have h1 := hW d (p + 1) (W.alloc (.cells #[.string ⟨#[44]⟩, .string ⟨#[64]⟩] 9)) comAt (some ⟨W.heap.size, 0, none⟩) 2 2 hd (hc.under ((Below.refl _ _).alloc (Nat.le_refl _) _)) (by omega) hcom (by
      have := Sh.lit W [.string ⟨#[44]⟩, .string ⟨#[64]⟩] 9
      simpa using this) (by omega) (fun b off e => by cases e; have := hc.lt; omega)
    rw [hg, hV] at h1
    exact h1
  have HID : Hid (∀ W, Cur C W V.p → Calls Tryd.prog 28 #[C.ptr] W (IdTo C V.p W)) := Lib.hid fun W hc => identC_any C hC V.p W hc
  have HTK : Hid (∀ W, Cur C W (V.p + 1) → Calls Tryd.prog 27 #[C.ptr, .string ⟨#[41]⟩] W (TakeTo C (V.p + 1) (C.R.is (V.p + 1) [41]) W)) := Lib.hid fun W hc => by
    have := takeL C hC (V.p + 1) W hc ⟨#[41]⟩ (by decide)
    rwa [tl41] at this
  clear hW hg hV hin hfi hwi hVf hcom
  go_enter Tryd.func95, Tryd.ntmps95
  go_wp2_with fail
  rw [HW.out]
  go_region_held3 (fun w' => w'.cell? ⟨C.g, 2, none⟩ = some (.int .i64 (p : Int))) (((try dsimp only); first | assumption | go_keep)) (first
    | (go_at_call 23; refine (HPO.out _ HC0.out).mono ?_; rintro e w2 ⟨rfl, b2⟩; have HC2 := Lib.hid (HC0.out.under b2); have B2 := Lib.hid b2; have c2 := HC2.out.pl; clear b2)
    | fail)
  have hfr2 : w.grownBy w2 (some C.g) := gb_trans (below_fr HEB.out _) (below_fr B2.out _)
  have hsl2 : Slot w2 w.heap.size Ex.nul (.slice none 0 0) := HE.out.below B2.out (by have := HES.out; show w.heap.size < W0.drew.heap.size; omega)
  have hsz2 : w.heap.size + 1 ≤ w2.heap.size := by have := HES.out; have := B2.out.size; omega
  have f2 := HC2.out.fz
  have hm := HC2.out.move (q := p + 1) hplt
  have J1 := Lib.hid (gb_trans hfr2 hm.2)
  have J2 := Lib.hid (hsl2.grown hm.2 (by intro e; injection e; omega))
  have J3 := Lib.hid hm.1
  have J4 := Lib.hid (show (w2.setCell ⟨C.g, 2, none⟩ (.int .i64 ((p + 1 : Nat) : Int))).heap.size = w2.heap.size by simp)
  have hw1 : IntKind.i64.wrap ((p : Int) + 1) = ((p + 1 : Nat) : Int) := by rw [IntWalk.i64_in _ (by omega)]; omega
  clear hfr2 hsl2 hm c0 HC0 HE HES HEB HW B2 HPO
  by_cases hr : V.r = 0
  · have hr2' : (V.r == 0) = true := by simp [hr]
    have hr2'' : decide (V.r = 0) = true := by simp [hr]
    cases hid : C.R.idn V.p with
    | false =>
      have HX2 : Hid (rd C.R (f + 1) .op p d = bad V.p 11) := Lib.hid (by rw [HRD.out, if_pos hr, if_neg (by rw [hid]; decide)])
      go_wp2_with (first
        | (go_at_call 94; refine (HWC.out _ _ J4.out J3.out).mono ?_; rintro e w4 ⟨lv, rfl, hx4, hg4, hc4⟩; have hone4 := hx4.one; have HX4 := Lib.hid hx4; have HG4 := Lib.hid hg4; have HC4 := Lib.hid hc4; have hs4 := hg4.size; have hs4' : w2.heap.size + 1 ≤ w4.heap.size := (by have := J4.out; simp at hs4; omega); clear hx4 hg4 hc4 hs4; dsimp only [exV])
        | (refine wpList_stx rfl (.tmp 8) (.tmp 30) rfl w4.heap.size rfl (entry_slot w4) (e := V.e) (lv := lv) rfl hone4 ?_; intro w5 hg5 hs5; have HG5 := Lib.hid hg5; have HS5 := Lib.hid hs5; have hz5 := hg5.size; rw [entry_size] at hz5; have HF5 := Lib.hid (show w.grownBy w5 (some C.g) from fr_new (gb_trans (gb_trans (gb_trans J1.out (below_fr ((Below.refl _ _).alloc (Nat.le_refl _) _) _)) HG4.out) (below_fr (entry_below w4) _)) hg5 (by omega)); have HC5 := Lib.hid (show Cur C w5 V.p from (HC4.out.under (entry_below w4)).grown hg5 (by intro k e; cases e; omega)); have HE5 := Lib.hid (show Slot w5 w.heap.size Ex.nul (.slice none 0 0) from ((((J2.out.below ((Below.refl _ _).alloc (Nat.le_refl _) _) (by rw [J4.out]; omega)).grown HG4.out (by intro e; injection e; omega)).below (entry_below w4) (by omega)).grown hg5 (by intro e; injection e; omega))); have HX5 := Lib.hid (show Shx w5 (fun b => w.heap.size < b) lv V.e.l from ((((HX4.out.weak (S' := fun b => w.heap.size < b ∧ b < w4.heap.size) (by intro b h1 h2; simp at h1; omega)).under (entry_below w4) (by intro b _ hb; exact hb)).grown hg5 (by intro b hb _ e; injection e with e; omega)).weak (by intro b hb _; exact hb.1))); clear hg5 hs5)
        | (go_at_call 28; refine (HID.out _ HC5.out).mono ?_; rintro e w6 ⟨rfl, hc6, hg6⟩; have HC6 := Lib.hid (show Cur C w6 V.p from (by simpa [hid] using hc6)); have HG6 := Lib.hid hg6; have hs6 := hg6.size; clear hc6 hg6; rw [hid]; dsimp only)
        | (refine wpList_stx rfl (.tmp 4) (.tmp 48) rfl w.heap.size rfl (HE5.out.grown HG6.out (by intro e; injection e; omega)) (e := Ex.nul) (lv := .slice none 0 0) rfl rfl ?_; intro w8 hg8 hs8; have HG8 := Lib.hid hg8; have HS8 := Lib.hid hs8; clear hg8 hs8)
        | fail)
      rw [HX2.out]
      refine ex_done rfl rfl rfl rfl HS8.out ⟨.slice none 0 0, rfl, .nil, ?_, ?_⟩
      · exact fr_new (gb_trans HF5.out HG6.out) HG8.out (Nat.le_refl _)
      · exact HC6.out.grown HG8.out (fun k e => by cases e; omega)
    | true =>
      cases htk : C.R.is (V.p + 1) [41] with
      | false =>
        have HX2 : Hid (rd C.R (f + 1) .op p d = bad (V.p + 1) 11) := Lib.hid (by rw [HRD.out, if_pos hr, if_pos hid, if_neg (by rw [htk]; decide)])
        go_wp2_with (first
          | (go_at_call 94; refine (HWC.out _ _ J4.out J3.out).mono ?_; rintro e w4 ⟨lv, rfl, hx4, hg4, hc4⟩; have hone4 := hx4.one; have HX4 := Lib.hid hx4; have HG4 := Lib.hid hg4; have HC4 := Lib.hid hc4; have hs4 := hg4.size; have hs4' : w2.heap.size + 1 ≤ w4.heap.size := (by have := J4.out; simp at hs4; omega); clear hx4 hg4 hc4 hs4; dsimp only [exV])
          | (refine wpList_stx rfl (.tmp 8) (.tmp 30) rfl w4.heap.size rfl (entry_slot w4) (e := V.e) (lv := lv) rfl hone4 ?_; intro w5 hg5 hs5; have HG5 := Lib.hid hg5; have HS5 := Lib.hid hs5; have hz5 := hg5.size; rw [entry_size] at hz5; have HF5 := Lib.hid (show w.grownBy w5 (some C.g) from fr_new (gb_trans (gb_trans (gb_trans J1.out (below_fr ((Below.refl _ _).alloc (Nat.le_refl _) _) _)) HG4.out) (below_fr (entry_below w4) _)) hg5 (by omega)); have HC5 := Lib.hid (show Cur C w5 V.p from (HC4.out.under (entry_below w4)).grown hg5 (by intro k e; cases e; omega)); have HE5 := Lib.hid (show Slot w5 w.heap.size Ex.nul (.slice none 0 0) from ((((J2.out.below ((Below.refl _ _).alloc (Nat.le_refl _) _) (by rw [J4.out]; omega)).grown HG4.out (by intro e; injection e; omega)).below (entry_below w4) (by omega)).grown hg5 (by intro e; injection e; omega))); have HX5 := Lib.hid (show Shx w5 (fun b => w.heap.size < b) lv V.e.l from ((((HX4.out.weak (S' := fun b => w.heap.size < b ∧ b < w4.heap.size) (by intro b h1 h2; simp at h1; omega)).under (entry_below w4) (by intro b _ hb; exact hb)).grown hg5 (by intro b hb _ e; injection e with e; omega)).weak (by intro b hb _; exact hb.1))); clear hg5 hs5)
          | (go_at_call 28; refine (HID.out _ HC5.out).mono ?_; rintro e w6 ⟨rfl, hc6, hg6⟩; have HC6 := Lib.hid (show Cur C w6 (V.p + 1) from (by simpa [hid] using hc6)); have HG6 := Lib.hid hg6; have hs6 := hg6.size; clear hc6 hg6; rw [hid]; dsimp only)
          | (go_at_call 27; refine (HTK.out _ HC6.out).mono ?_; rintro e w7 ⟨rfl, hc7, hg7, _⟩; have HC7 := Lib.hid (show Cur C w7 (V.p + 1) from (by simpa [htk] using hc7)); have HG7 := Lib.hid hg7; have hs7 := hg7.size; clear hc7 hg7; rw [htk]; dsimp only)
          | (refine wpList_stx rfl (.tmp 4) (.tmp 48) rfl w.heap.size rfl ((HE5.out.grown HG6.out (by intro e; injection e; omega)).grown HG7.out (by intro e; injection e; omega)) (e := Ex.nul) (lv := .slice none 0 0) rfl rfl ?_; intro w8 hg8 hs8; have HG8 := Lib.hid hg8; have HS8 := Lib.hid hs8; clear hg8 hs8)
          | fail)
        rw [HX2.out]
        refine ex_done rfl rfl rfl rfl HS8.out ⟨.slice none 0 0, rfl, .nil, ?_, ?_⟩
        · exact fr_new (gb_trans (gb_trans HF5.out HG6.out) HG7.out) HG8.out (Nat.le_refl _)
        · exact HC7.out.grown HG8.out (fun k e => by cases e; omega)
      | true =>
        have hfg := HVF.out hr
        have hVp2 : V.p + 2 ≤ C.L.length := (row_ok C.T C.L).is_lt htk
        have hcnt : (eOpen (C.R.ps p) (C.R.wd V.p) V.e).cnt ≤ 1000000 := by rw [open_cnt]; have := hfg.2; omega
        obtain ⟨G2, hG2⟩ : ∃ G2, hld (eOpen (C.R.ps p) (C.R.wd V.p) V.e) (V.p + 2) p = G2 := ⟨_, rfl⟩
        have HPU : Hid (∀ W lv (S : Nat → Prop), Cur C W (V.p + 2) → Shx W S lv (eOpen (C.R.ps p) (C.R.wd V.p) V.e).l → (∀ b, S b → b ≠ C.g) → Calls Tryd.prog 69 #[C.ptr, .int .i64 (p : Int), exV (eOpen (C.R.ps p) (C.R.wd V.p) V.e) lv] W (PutTo C S W G2)) := Lib.hid fun W lv S h1 h2 h3 => by
          have := put_any C hC (V.p + 2) p W h1 hle (eOpen (C.R.ps p) (C.R.wd V.p) V.e) lv S (open_wfx hfg.1) hcnt h2 h3
          rwa [hG2] at this
        have HX2 : Hid (rd C.R (f + 1) .op p d = G2) := Lib.hid (by rw [HRD.out, if_pos hr, if_pos hid, if_pos htk, hG2])
        clear hfg hG2
        go_wp2_with (first
          | (go_at_call 94; refine (HWC.out _ _ J4.out J3.out).mono ?_; rintro e w4 ⟨lv, rfl, hx4, hg4, hc4⟩; have hone4 := hx4.one; have HX4 := Lib.hid hx4; have HG4 := Lib.hid hg4; have HC4 := Lib.hid hc4; have hs4 := hg4.size; have hs4' : w2.heap.size + 1 ≤ w4.heap.size := (by have := J4.out; simp at hs4; omega); clear hx4 hg4 hc4 hs4; dsimp only [exV])
          | (refine wpList_stx rfl (.tmp 8) (.tmp 30) rfl w4.heap.size rfl (entry_slot w4) (e := V.e) (lv := lv) rfl hone4 ?_; intro w5 hg5 hs5; have HG5 := Lib.hid hg5; have HS5 := Lib.hid hs5; have hz5 := hg5.size; rw [entry_size] at hz5; have HF5 := Lib.hid (show w.grownBy w5 (some C.g) from fr_new (gb_trans (gb_trans (gb_trans J1.out (below_fr ((Below.refl _ _).alloc (Nat.le_refl _) _) _)) HG4.out) (below_fr (entry_below w4) _)) hg5 (by omega)); have HC5 := Lib.hid (show Cur C w5 V.p from (HC4.out.under (entry_below w4)).grown hg5 (by intro k e; cases e; omega)); have HE5 := Lib.hid (show Slot w5 w.heap.size Ex.nul (.slice none 0 0) from ((((J2.out.below ((Below.refl _ _).alloc (Nat.le_refl _) _) (by rw [J4.out]; omega)).grown HG4.out (by intro e; injection e; omega)).below (entry_below w4) (by omega)).grown hg5 (by intro e; injection e; omega))); have HX5 := Lib.hid (show Shx w5 (fun b => w.heap.size < b) lv V.e.l from ((((HX4.out.weak (S' := fun b => w.heap.size < b ∧ b < w4.heap.size) (by intro b h1 h2; simp at h1; omega)).under (entry_below w4) (by intro b _ hb; exact hb)).grown hg5 (by intro b hb _ e; injection e with e; omega)).weak (by intro b hb _; exact hb.1))); clear hg5 hs5)
          | (go_at_call 28; refine (HID.out _ HC5.out).mono ?_; rintro e w6 ⟨rfl, hc6, hg6⟩; have HC6 := Lib.hid (show Cur C w6 (V.p + 1) from (by simpa [hid] using hc6)); have HG6 := Lib.hid hg6; have hs6 := hg6.size; clear hc6 hg6; rw [hid]; dsimp only)
          | (go_at_call 27; refine (HTK.out _ HC6.out).mono ?_; rintro e w7 ⟨rfl, hc7, hg7, _⟩; have HC7 := Lib.hid (show Cur C w7 (V.p + 2) from (by simpa [htk] using hc7)); have HG7 := Lib.hid hg7; have hs7 := hg7.size; clear hc7 hg7; rw [htk]; dsimp only)
          | (refine wpList_ldx' rfl (.tmp 8) rfl w4.heap.size 0 rfl ((HS5.out.grown HG6.out (by intro e; injection e; omega)).grown HG7.out (by intro e; injection e; omega)).cs ?_)
          | (go_at_call 69; have HXA : Hid (Shx w7 (fun b => w.heap.size < b) lv V.e.l) := Lib.hid ((HX5.out.grown HG6.out (by intro b hb _ e; injection e with e; omega)).grown HG7.out (by intro b hb _ e; injection e with e; omega)); have HLT := Lib.hid (Shx.lit (w := w7) (S := fun b => w.heap.size < b) [(V.e, lv)] (by simp) (by intro p hp; simp at hp; rcases hp with rfl; exact HXA.out) (by omega) (C := #[.int .i64 V.e.k, .int .i64 V.e.a, .int .i64 V.e.m, .string V.e.nm, .string V.e.lb, lv]) rfl); refine (HPU.out _ _ (fun b => w.heap.size < b) (HC7.out.under ((Below.refl _ _).alloc (Nat.le_refl _) _)) HLT.out (by intro b hb; omega)).mono ?_; rintro e w9 ⟨lv9, rfl, hx9, hg9, hc9⟩; have hone9 := hx9.one; have HX9 := Lib.hid hx9; have HG9 := Lib.hid hg9; have HC9 := Lib.hid hc9; have hs9 := hg9.size; clear hx9 hg9 hc9; dsimp only [exV])
          | (refine wpList_stx rfl (.tmp 4) (.tmp 57) rfl w.heap.size rfl ((((HE5.out.grown HG6.out (by intro e; injection e; omega)).grown HG7.out (by intro e; injection e; omega)).below ((Below.refl _ _).alloc (Nat.le_refl _) _) (by omega)).grown HG9.out (by intro e; injection e; omega)) (e := G2.e) (lv := lv9) rfl hone9 ?_; intro w8 hg8 hs8; have HG8 := Lib.hid hg8; have HS8 := Lib.hid hs8; clear hg8 hs8)
          | fail)
        rw [HX2.out]
        refine ex_done rfl rfl rfl rfl HS8.out ⟨lv9, rfl, ?_, ?_, ?_⟩
        · exact (HX9.out.grown HG8.out (fun b hb _ e => by injection e with e; omega)).weak (fun b hb _ => by omega)
        · exact fr_new (gb_trans (gb_trans (gb_trans (gb_trans HF5.out HG6.out) HG7.out) (below_fr ((Below.refl _ _).alloc (Nat.le_refl _) _) _)) HG9.out) HG8.out (Nat.le_refl _)
        · exact HC9.out.grown HG8.out (fun k e => by cases e; omega)
  · have hr2' : (V.r == 0) = false := by simp [hr]
    have hr2'' : decide (V.r = 0) = false := by simp [hr]
    have HX2 : Hid (rd C.R (f + 1) .op p d = bad V.p V.r) := Lib.hid (by rw [HRD.out, if_neg hr])
    go_wp2_with (first
      | (go_at_call 94; refine (HWC.out _ _ J4.out J3.out).mono ?_; rintro e w4 ⟨lv, rfl, hx4, hg4, hc4⟩; have hone4 := hx4.one; have HX4 := Lib.hid hx4; have HG4 := Lib.hid hg4; have HC4 := Lib.hid hc4; have hs4 := hg4.size; have hs4' : w2.heap.size + 1 ≤ w4.heap.size := (by have := J4.out; simp at hs4; omega); clear hx4 hg4 hc4 hs4; dsimp only [exV])
      | (refine wpList_stx rfl (.tmp 8) (.tmp 30) rfl w4.heap.size rfl (entry_slot w4) (e := V.e) (lv := lv) rfl hone4 ?_; intro w5 hg5 hs5; have HG5 := Lib.hid hg5; have HS5 := Lib.hid hs5; have hz5 := hg5.size; rw [entry_size] at hz5; have HF5 := Lib.hid (show w.grownBy w5 (some C.g) from fr_new (gb_trans (gb_trans (gb_trans J1.out (below_fr ((Below.refl _ _).alloc (Nat.le_refl _) _) _)) HG4.out) (below_fr (entry_below w4) _)) hg5 (by omega)); have HC5 := Lib.hid (show Cur C w5 V.p from (HC4.out.under (entry_below w4)).grown hg5 (by intro k e; cases e; omega)); have HE5 := Lib.hid (show Slot w5 w.heap.size Ex.nul (.slice none 0 0) from ((((J2.out.below ((Below.refl _ _).alloc (Nat.le_refl _) _) (by rw [J4.out]; omega)).grown HG4.out (by intro e; injection e; omega)).below (entry_below w4) (by omega)).grown hg5 (by intro e; injection e; omega))); have HX5 := Lib.hid (show Shx w5 (fun b => w.heap.size < b) lv V.e.l from ((((HX4.out.weak (S' := fun b => w.heap.size < b ∧ b < w4.heap.size) (by intro b h1 h2; simp at h1; omega)).under (entry_below w4) (by intro b _ hb; exact hb)).grown hg5 (by intro b hb _ e; injection e with e; omega)).weak (by intro b hb _; exact hb.1))); clear hg5 hs5)
      | (refine wpList_stx rfl (.tmp 4) (.tmp 34) rfl w.heap.size rfl HE5.out (e := Ex.nul) (lv := .slice none 0 0) rfl rfl ?_; intro w8 hg8 hs8; have HG8 := Lib.hid hg8; have HS8 := Lib.hid hs8; clear hg8 hs8)
      | fail)
    rw [HX2.out]
    refine ex_done rfl rfl rfl rfl HS8.out ⟨.slice none 0 0, rfl, .nil, ?_, ?_⟩
    · exact fr_new HF5.out HG8.out (Nat.le_refl _)
    · exact HC5.out.grown HG8.out (fun k e => by cases e; omega)
end Go.Proofs.YtnhhdafhnngolaaDoor

/-
  CONTRACT OF 'record.Get'.
-/
import Derived.Test.YthfhhgjjnpcmgaaRecord
import Derived.Deep.MidRow
namespace Go.Proofs.Ythfhhgjjnpcmgaa
set_option linter.unusedVariables false
set_option linter.unusedSimpArgs false
open Go.RowKit

theorem zeroRec (w : World) : (zeroValue 30).run Try.prog w = .ok (.agg #[.int .i64 0, .slice none 0 0]) w := by kernel_rfl
theorem rec_load (w : World) (G o : Nat) (x v : Value) (c0 : w.cell? ⟨G, o, none⟩ = some x) (c1 : w.cell? ⟨G, o + 1, none⟩ = some v) : (loadVar 30 ⟨G, o, none⟩).run Try.prog w = .ok (.agg #[x, v]) w :=
  run_loadVar_mid w G o 30 [x, v] _ (fun j u hj => by
    match j, hj with
    | 0, hj => cases hj; exact c0
    | 1, hj => cases hj; exact c1
    | j + 2, hj => simp at hj) Try.underlying30 rfl (by kernel_rfl)
theorem results_rec {tmps : Array Value} {w : World} {G : Nat} {x v y z : Value} (hp : tmps.getD 4 undef = .pointer (some ⟨G, 0, none⟩)) (hy : tmps.getD 5 undef = y) (hz : tmps.getD 6 undef = z)
    (c0 : w.cell? ⟨G, 0, none⟩ = some x) (c1 : w.cell? ⟨G, 1, none⟩ = some v) : (results Try.f13 tmps).run Try.prog w = .ok (.tuple #[.agg #[x, v], y, z]) w := by
  have hr : Try.f13.results = #[.cell 4 30, .tmp 5, .tmp 6] := rfl
  have hl := rec_load w G 0 x v c0 c1
  have hp' : tmps[4]?.getD undef = .pointer (some ⟨G, 0, none⟩) := by simpa using hp
  subst hy
  subst hz
  simp [results, hr, hp', asAddr, hl]
/-- Two cells that are stored. -/
theorem rec_set (w : World) (G : Nat) (x v : Value) (c0 : (w.cell? ⟨G, 0, none⟩).isSome = true) (c1 : (w.cell? ⟨G, 1, none⟩).isSome = true) :
    ((w.setCell ⟨G, 0, none⟩ x).setCell ⟨G, 1, none⟩ v).cell? ⟨G, 0, none⟩ = some x ∧ ((w.setCell ⟨G, 0, none⟩ x).setCell ⟨G, 1, none⟩ v).cell? ⟨G, 1, none⟩ = some v := by
  obtain ⟨a, ha⟩ := Option.isSome_iff_exists.1 c0
  obtain ⟨b, hb⟩ := Option.isSome_iff_exists.1 c1
  constructor
  · rw [World.cell?_setCell_other _ _ _ _ (off_ne (by omega))]
    exact World.cell?_setCell_same _ _ _ ha
  · have : (w.setCell ⟨G, 0, none⟩ x).cell? ⟨G, 1, none⟩ = some b := by rw [World.cell?_setCell_other _ _ _ _ (off_ne (by omega))]; exact hb
    exact World.cell?_setCell_same _ _ _ this

/-- What Get answers. -/
def GetsTo (g k : Nat) (w : World) (R : RG) (e : Ending) (w' : World) : Prop :=
  ∃ v d' k', e = .returned (.tuple #[.agg #[.int .i64 R.kind, v], .int .i64 (R.used : Int), .int .i64 R.err]) ∧ Own w' w.heap.size 5 1 v R.pay.length (by8 R.pay) ∧ Smr w' g d' k' ∧ k' ≤ k + 2 ∧ Upon g w w'

theorem getr_done {g k k' G : Nat} {d' : Bool} {w W : World} {R : RG} {v : Value} {a : Act} (hp : a.tmps.getD 4 undef = .pointer (some ⟨G, 0, none⟩)) (h5 : a.tmps.getD 5 undef = .int .i64 (R.used : Int)) (h6 : a.tmps.getD 6 undef = .int .i64 R.err)
    (hd : a.defers = []) (hs : Smr W g d' k') (hk : k' ≤ k + 2) (hu : Upon g w W) (hG : G = w.heap.size) (hg : g ≠ G) (c0 : (W.cell? ⟨G, 0, none⟩).isSome = true) (c1 : (W.cell? ⟨G, 1, none⟩).isSome = true)
    (hv : Own W (G + 1) 5 1 v R.pay.length (by8 R.pay)) :
    bodyPost Try.prog Try.f13 (GetsTo g k w R) Exit.ret a ((W.setCell ⟨G, 0, none⟩ (.int .i64 R.kind)).setCell ⟨G, 1, none⟩ v) := by
  obtain ⟨e0, e1⟩ := rec_set W G (.int .i64 R.kind) v c0 c1
  refine bodyPost_ret (results_rec hp h5 h6 e0 e1) hd ?_
  subst hG
  refine ⟨v, d', k', rfl, ((hv.set (by simp) _).set (by simp) _).lower (by omega), hs.only (((Only.refl w.heap.size W).setCell 0 _).setCell 1 _) hg, hk, (hu.setCell (by simp) _).setCell (by simp) _⟩

set_option maxRecDepth 10000 in
set_option maxHeartbeats 800000 in
theorem getr_short (g k : Nat) (d : Bool) (A : Option Addr) (n c : Nat) (bs : List Int) (w : World) (h : Smr w g d k) (hl : bs.length = n) (hn : n < 9) :
    Calls Try.prog 13 #[.pointer (some ⟨g, 0, none⟩), .slice A n c] w (GetsTo g k w (rget bs)) := by
  have hz := zeroRec
  have HS := Lib.hid h
  have HR : Hid (rget bs = ⟨0, [], 0, 2⟩) := Lib.hid (rget_short (by omega))
  rw [HR.out]
  clear h hl
  go_enter Try.func13, Try.ntmps13
  go_wp2
  refine bodyPost_ret (results_rec (G := w.heap.size) (x := .int .i64 0) (v := .slice none 0 0) rfl rfl rfl (by rw [World.cell?_alloc_at _ _ _ _ rfl]; rfl) (by rw [World.cell?_alloc_at _ _ _ _ rfl]; rfl)) rfl ?_
  exact ⟨_, d, k, rfl, Own.nil _ _ _ _ (by simp), HS.out.alloc _, by omega, (Upon.refl g w).alloc _⟩

/-- The result's block, as it was made. -/
theorem made_cell (w : World) (q j : Nat) (hj : j < 2) : ((((w.alloc (.cells #[.int .i64 0, .slice none 0 0] 30)).drewN q)).cell? ⟨w.heap.size, j, none⟩).isSome = true := by
  have : ((w.alloc (.cells #[.int .i64 0, .slice none 0 0] 30)).drewN q).cell? ⟨w.heap.size, j, none⟩ = (w.alloc (.cells #[.int .i64 0, .slice none 0 0] 30)).cell? ⟨w.heap.size, j, none⟩ := rfl
  rw [this, World.cell?_alloc_at _ _ _ _ rfl]
  match j, hj with
  | 0, _ => rfl
  | 1, _ => rfl

set_option maxRecDepth 10000 in
set_option maxHeartbeats 800000 in
theorem getr_long (g k : Nat) (d : Bool) (b off n c : Nat) (bs : List Int) (w : World) (U : Nat) (h : Smr w g d k) (hl : bs.length = n) (h9 : 9 ≤ n) (hnc : n ≤ c) (hn : n ≤ 1000000) (hb : Byt bs) (hU : U ≤ w.heap.size) (hx : Sh w U (some ⟨b, off, none⟩) n (by8 bs)) (hv : 65536 < val (bs.take 4)) :
    Calls Try.prog 13 #[.pointer (some ⟨g, 0, none⟩), .slice (some ⟨b, off, none⟩) n c] w (GetsTo g k w (rget bs)) := by
  have hz := zeroRec
  have HS := Lib.hid h
  have HG := Lib.hid (get4_any (some ⟨b, off, none⟩) n c bs _ U (hx.alloc hU (.cells #[.int .i64 0, .slice none 0 0] 30)) hn (by omega) hb.bytes)
  have HR : Hid (rget bs = ⟨0, [], 0, 3⟩) := Lib.hid (rget_long (by omega) hv)
  rw [HR.out]
  obtain ⟨L, hL⟩ : ∃ L, L = val (bs.take 4) := ⟨_, rfl⟩
  rw [← hL] at HG hv
  have hg := h.lt
  clear h hx hL hl
  go_enter Try.func13, Try.ntmps13
  go_wp2_with (first | (go_at_call 24; refine HG.out.mono ?_; rintro e w1 ⟨rfl, q1, rfl⟩) | fail)
  exact getr_done (R := ⟨0, [], 0, 3⟩) rfl rfl rfl rfl ((HS.out.alloc _).quiet (Quiet.one _ q1)) (by omega) (((Upon.refl g w).alloc _).quiet (Quiet.one _ q1)) rfl (by omega) (made_cell w q1 0 (by omega)) (made_cell w q1 1 (by omega)) (Own.nil _ _ _ _ (by simp))

set_option maxRecDepth 10000 in
set_option maxHeartbeats 800000 in
theorem getr_end (g k : Nat) (d : Bool) (b off n c : Nat) (bs : List Int) (w : World) (U : Nat) (h : Smr w g d k) (hl : bs.length = n) (h9 : 9 ≤ n) (hnc : n ≤ c) (hn : n ≤ 1000000) (hb : Byt bs) (hU : U ≤ w.heap.size) (hx : Sh w U (some ⟨b, off, none⟩) n (by8 bs)) (hv : ¬ 65536 < val (bs.take 4)) (hv2 : n < 9 + val (bs.take 4)) :
    Calls Try.prog 13 #[.pointer (some ⟨g, 0, none⟩), .slice (some ⟨b, off, none⟩) n c] w (GetsTo g k w (rget bs)) := by
  have hz := zeroRec
  have HS := Lib.hid h
  have HG := Lib.hid (get4_any (some ⟨b, off, none⟩) n c bs _ U (hx.alloc hU (.cells #[.int .i64 0, .slice none 0 0] 30)) hn (by omega) hb.bytes)
  have HR : Hid (rget bs = ⟨0, [], 0, 2⟩) := Lib.hid (rget_end (by omega) hv (by omega))
  rw [HR.out]
  obtain ⟨L, hL⟩ : ∃ L, L = val (bs.take 4) := ⟨_, rfl⟩
  rw [← hL] at HG hv hv2
  have hL2 : ((n - 9 : Nat) : Int) < (L : Int) := by omega
  have hg := h.lt
  clear h hx hL hl
  go_enter Try.func13, Try.ntmps13
  go_wp2_with (first | (go_at_call 24; refine HG.out.mono ?_; rintro e w1 ⟨rfl, q1, rfl⟩) | fail)
  all_goals exact getr_done (R := ⟨0, [], 0, 2⟩) rfl rfl rfl rfl ((HS.out.alloc _).quiet (Quiet.one _ q1)) (by omega) (((Upon.refl g w).alloc _).quiet (Quiet.one _ q1)) rfl (by omega) (made_cell w q1 0 (by omega)) (made_cell w q1 1 (by omega)) (Own.nil _ _ _ _ (by simp))

set_option maxRecDepth 10000 in
set_option maxHeartbeats 800000 in
/-- The same where the length is told: the sum isn't that of what stands there, or it is. -/
theorem getr_sum (g k : Nat) (d : Bool) (b off n c : Nat) (bs : List Int) (w : World) (U : Nat) (h : Smr w g d k) (hk : k ≤ 800000000) (hl : bs.length = n) (h9 : 9 ≤ n) (hnc : n ≤ c) (hn : n ≤ 1000000) (hb : Byt bs) (hU : U ≤ w.heap.size) (hx : Sh w U (some ⟨b, off, none⟩) n (by8 bs)) (hbg : b ≠ g)
    (hv : ¬ 65536 < val (bs.take 4)) (hv2 : ¬ n < 9 + val (bs.take 4)) :
    Calls Try.prog 13 #[.pointer (some ⟨g, 0, none⟩), .slice (some ⟨b, off, none⟩) n c] w (GetsTo g k w (rget bs)) := by
  have hz := zeroRec
  have hg := h.lt
  have h' := h
  have hx' := hx
  have HG := Lib.hid (get4_any (some ⟨b, off, none⟩) n c bs _ U (hx.alloc hU (.cells #[.int .i64 0, .slice none 0 0] 30)) hn (by omega) hb.bytes)
  obtain ⟨L, hL⟩ : ∃ L, L = val (bs.take 4) := ⟨_, rfl⟩
  have HR1 : Hid (¬ val ((bs.drop 4).take 4) = crcOf 0 (bs.getD 8 0 :: (bs.drop 9).take L) → rget bs = ⟨0, [], 0, 5⟩) := Lib.hid fun h => rget_sum (by omega) hv (by omega) (by rw [← hL]; exact h)
  have HR2 : Hid (val ((bs.drop 4).take 4) = crcOf 0 (bs.getD 8 0 :: (bs.drop 9).take L) → rget bs = ⟨bs.getD 8 0, (bs.drop 9).take L, 9 + L, 0⟩) := Lib.hid fun h => (rget_ok (by omega) hv (by omega) (by rw [← hL]; exact h)).trans (by rw [← hL])
  rw [← hL] at HG hv hv2
  have h8 := hb.at (k := 8) (by omega)
  obtain ⟨K, hK⟩ : ∃ K : Nat, bs.getD 8 0 = (K : Int) := ⟨(bs.getD 8 0).toNat, by omega⟩
  rw [hK] at HR1 HR2 h8
  have hc8 : w.cell? ⟨b, off + 8, none⟩ = some (.int .u8 (K : Int)) := by
    obtain ⟨_, _, e, _, hc⟩ := hx.byte (k := 8) (by omega)
    cases e
    rw [hK] at hc
    exact hc
  have hbl := World.block_lt_of_cell? _ _ hc8
  simp only at hbl
  have hc8' : ∀ q, ((w.alloc (.cells #[.int .i64 0, .slice none 0 0] 30)).drewN q).cell? ⟨b, off + 8, none⟩ = some (.int .u8 (K : Int)) := fun q => by
    have : ((w.alloc (.cells #[.int .i64 0, .slice none 0 0] 30)).drewN q).cell? ⟨b, off + 8, none⟩ = (w.alloc (.cells #[.int .i64 0, .slice none 0 0] 30)).cell? ⟨b, off + 8, none⟩ := rfl
    rw [this, World.cell?_alloc_past _ _ _ hbl]
    exact hc8
  have hL2 : ((L : Int) ≤ ((n - 9 : Nat) : Int)) := by omega
  obtain ⟨V, hV⟩ : ∃ V, V = val ((bs.drop 4).take 4) := ⟨_, rfl⟩
  obtain ⟨pay, hpay⟩ : ∃ pay, pay = (bs.drop 9).take L := ⟨_, rfl⟩
  rw [← hV, ← hpay] at HR1 HR2
  have hpl : pay.length = L := by rw [hpay, List.length_take, List.length_drop]; omega
  have HPL := Lib.hid hpl
  have hpb : Byt pay := by rw [hpay]; exact (hb.drop 9).take L
  obtain ⟨W0, hW0⟩ : ∃ W0, W0 = w.alloc (.cells #[.int .i64 0, .slice none 0 0] 30) := ⟨_, rfl⟩
  have hsz : W0.heap.size = w.heap.size + 1 := by rw [hW0]; simp
  have HW0 := Lib.hid hW0
  have HUW : Hid (Upon g w W0) := Lib.hid (by rw [hW0]; exact (Upon.refl g w).alloc _)
  have HSW : Hid (Smr W0 g d k) := Lib.hid (by rw [hW0]; exact h'.alloc _)
  have HX : ∀ w', Upon g W0 w' → Sh w' U (some ⟨b, off, none⟩) n (by8 bs) := fun w' u => (hx'.upon HUW.out hU (Off.some hbg)).upon u (by omega) (Off.some hbg)
  have HX4 : Hid (∀ w', Upon g W0 w' → Sh w' U (some ⟨b, off + 4, none⟩) (n - 4) (by8 (bs.drop 4))) := Lib.hid fun w' u => by
    have := (HX w' u).piece (lo := 4) (hi := n) (by omega) (Nat.le_refl _) (A' := some ⟨b, off + 4, none⟩) (fun b' off' e _ => by cases e; rfl)
    rwa [by8_take, by8_drop, List.take_of_length_le (by omega)] at this
  have HG4 : Hid (∀ w' c', Upon g W0 w' → Calls Try.prog 24 #[.slice (some ⟨b, off + 4, none⟩) (n - 4) c'] w' fun e w'' => e = .returned (.tuple #[.int .u32 (V : Int), .int .i64 0]) ∧ Quiet w' w'') := Lib.hid fun w' c' u => by
    have := get4_any (some ⟨b, off + 4, none⟩) (n - 4) c' (bs.drop 4) w' U (HX4.out w' u) (by omega) (by omega) (hb.drop 4).bytes
    rwa [← hV] at this
  have HXP : Hid (∀ w' T, Upon g W0 w' → (0 < L → T = some ⟨b, off + 9, none⟩) → Sh w' U T L (by8 pay)) := Lib.hid fun w' T u hT => by
    have := (HX w' u).piece (lo := 9) (hi := 9 + L) (by omega) (by omega) (A' := T) (fun b' off' e h => by cases e; exact hT (by omega))
    rw [by8_take, by8_drop, List.drop_take, show 9 + L - 9 = L by omega, ← hpay] at this
    exact this
  have HOP : Hid (∀ T : Option Addr, (0 < L → T = some ⟨b, off + 9, none⟩) → Off T L g) := Lib.hid fun T hT hn a ha => by
    rw [hT hn] at ha
    cases ha
    exact hbg
  have HM : Hid (∀ w', Upon g W0 w' → w'.heap[w.heap.size]? = W0.heap[w.heap.size]?) := Lib.hid fun w' u => u.block _ (by omega) (by omega)
  have HC0 : Hid (∀ w', Upon g W0 w' → w'.cell? ⟨w.heap.size, 0, none⟩ = some (.int .i64 0)) := Lib.hid fun w' u => (World.cell?_of_block (w := W0) (HM.out w' u)).trans (by rw [hW0, World.cell?_alloc_at _ _ _ _ rfl]; rfl)
  have HC1 : Hid (∀ w', Upon g W0 w' → w'.cell? ⟨w.heap.size, 1, none⟩ = some (.slice none 0 0)) := Lib.hid fun w' u => (World.cell?_of_block (w := W0) (HM.out w' u)).trans (by rw [hW0, World.cell?_alloc_at _ _ _ _ rfl]; rfl)
  have HF : Hid (∀ w', Upon g W0 w' → ∀ j, w'.frozen? ⟨w.heap.size, j, none⟩ = false) := Lib.hid fun w' u j => (World.frozen?_of_block (w := W0) (a := ⟨w.heap.size, j, none⟩) (HM.out w' u)).trans (by rw [hW0]; exact World.frozen?_alloc_at _ _ _ _ rfl)
  have hVlt : V < 4294967296 := by
    have := val_lt ((bs.drop 4).take 4) ((hb.drop 4).take 4).bytes
    rw [List.length_take, List.length_drop, Nat.min_eq_left (by omega)] at this
    have e : (256 : Nat) ^ 4 = 4294967296 := (by decide)
    omega
  have hclt := crc_lt 0 ((K : Int) :: pay)
  have HB := Lib.hid hb
  have HL := Lib.hid hL
  clear h h' hx hx' hL hl hK hc8 hV hpay hpl HX hW0 hbl
  obtain ⟨C, hC⟩ : ∃ C, C = crcOf 0 ((K : Int) :: pay) := ⟨_, rfl⟩
  rw [← hC] at HR1 HR2 hclt
  have HC := Lib.hid hC
  clear hC
  by_cases hVC : V = C
  · have hne : ((V : Int) != (C : Int)) = false := by simp; omega
    have HR := Lib.hid (HR2.out hVC)
    clear hVC
    rw [HR.out]
    go_enter Try.func13, Try.ntmps13
    go_wp2_with (first | (go_at_call 24; refine HG.out.mono ?_; rintro e w1 ⟨rfl, q1, rfl⟩) | fail)
    all_goals go_quiet (fail)
    all_goals rw [← HW0.out]
    all_goals go_wp2_with (first
      | (go_at_call 24; refine (HG4.out _ _ ((Upon.refl g _).quiet (Quiet.one _ _))).mono ?_; rintro e w2 ⟨rfl, hq2⟩; have U2 := Lib.hid (((Upon.refl g W0).quiet (Quiet.one _ _)).quiet hq2); have S2 := Lib.hid ((HSW.out.quiet (Quiet.one _ _)).quiet hq2); clear hq2)
      | (go_at_call 20; refine (sumOf_any g k d K _ L _ pay w2 U S2.out (by omega) (by omega) (HXP.out _ _ U2.out (by intro h; first | rfl | (exfalso; omega))) (by have := U2.out.size; omega) (HOP.out _ (by intro h; first | rfl | (exfalso; omega))) hpb (by omega)).mono ?_; rw [← HC.out]; rintro e w3 ⟨rfl, s3, u3⟩; have S3 := Lib.hid s3; have U3 := Lib.hid (U2.out.trans u3); clear s3 u3)
      | (go_at_call 18; refine (clone_any _ L _ pay w3 U (HXP.out _ _ U3.out (by intro h; first | rfl | (exfalso; omega))) (by have := U3.out.size; omega) (by omega)).mono ?_; rintro e w4 ⟨v4, rfl, ho4, hb4⟩; obtain ⟨A4, c4, rfl⟩ := ho4.form; have O4 := Lib.hid ho4; have U4 := Lib.hid (U3.out.below' hb4); have S4 := Lib.hid (S3.out.below_ hb4); clear ho4 hb4; have d0 := HC0.out _ U4.out; have d1 := HC1.out _ U4.out; have df := HF.out _ U4.out)
      | fail)
    all_goals refine getr_done (g := g) (k := k) (w := w) (G := w.heap.size) (k' := k + 2) (R := ⟨(K : Int), pay, 9 + L, 0⟩) rfl ?_ rfl rfl S4.out (by omega) (HUW.out.trans U4.out) rfl (by omega) (by rw [d0]; rfl) (by rw [d1]; rfl) ((O4.out.cast HPL.out.symm rfl).lower (by have := U3.out.size; omega))
    all_goals exact congrArg (Value.int .i64) (by simp only; omega)
  · have hne : ((V : Int) != (C : Int)) = true := by simp; omega
    have HR := Lib.hid (HR1.out hVC)
    clear hVC
    rw [HR.out]
    go_enter Try.func13, Try.ntmps13
    go_wp2_with (first | (go_at_call 24; refine HG.out.mono ?_; rintro e w1 ⟨rfl, q1, rfl⟩) | fail)
    all_goals go_quiet (fail)
    all_goals rw [← HW0.out]
    all_goals go_wp2_with (first
      | (go_at_call 24; refine (HG4.out _ _ ((Upon.refl g _).quiet (Quiet.one _ _))).mono ?_; rintro e w2 ⟨rfl, hq2⟩; have U2 := Lib.hid (((Upon.refl g W0).quiet (Quiet.one _ _)).quiet hq2); have S2 := Lib.hid ((HSW.out.quiet (Quiet.one _ _)).quiet hq2); clear hq2)
      | (go_at_call 20; refine (sumOf_any g k d K _ L _ pay w2 U S2.out (by omega) (by omega) (HXP.out _ _ U2.out (by intro h; first | rfl | (exfalso; omega))) (by have := U2.out.size; omega) (HOP.out _ (by intro h; first | rfl | (exfalso; omega))) hpb (by omega)).mono ?_; rw [← HC.out]; rintro e w3 ⟨rfl, s3, u3⟩; have S3 := Lib.hid s3; have U3 := Lib.hid (U2.out.trans u3); clear s3 u3; have d0 := HC0.out _ U3.out; have d1 := HC1.out _ U3.out; have df := HF.out _ U3.out)
      | fail)
    all_goals exact getr_done (G := w.heap.size) (k' := k + 2) (R := ⟨0, [], 0, 5⟩) rfl rfl rfl rfl S3.out (by omega) (HUW.out.trans U3.out) rfl (by omega) (by rw [d0]; rfl) (by rw [d1]; rfl) (Own.nil _ _ _ _ (by have := U3.out.size; omega))

/-- Get, of any bytes. -/
theorem getr_any (g k : Nat) (d : Bool) (A : Option Addr) (n c : Nat) (bs : List Int) (w : World) (U : Nat) (h : Smr w g d k) (hk : k ≤ 800000000) (hnc : n ≤ c) (hn : n ≤ 1000000) (hb : Byt bs) (hU : U ≤ w.heap.size) (hx : Sh w U A n (by8 bs)) (hA : Off A n g) :
    Calls Try.prog 13 #[.pointer (some ⟨g, 0, none⟩), .slice A n c] w (GetsTo g k w (rget bs)) := by
  have hl : bs.length = n := by have := hx.len; rwa [by8_len] at this
  by_cases h9 : n < 9
  · exact getr_short g k d A n c bs w h hl h9
  · obtain ⟨b, off, rfl, _⟩ := hx.2 (by omega)
    have hbg : b ≠ g := hA (by omega) ⟨b, off, none⟩ rfl
    by_cases hv : 65536 < val (bs.take 4)
    · exact getr_long g k d b off n c bs w U h hl (by omega) hnc hn hb hU hx hv
    · by_cases hv2 : n < 9 + val (bs.take 4)
      · exact getr_end g k d b off n c bs w U h hl (by omega) hnc hn hb hU hx hv hv2
      · exact getr_sum g k d b off n c bs w U h hk hl (by omega) hnc hn hb hU hx hbg hv hv2
end Go.Proofs.Ythfhhgjjnpcmgaa

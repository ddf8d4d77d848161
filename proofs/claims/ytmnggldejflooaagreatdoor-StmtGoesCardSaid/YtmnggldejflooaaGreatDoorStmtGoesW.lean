import Derived.Test.YtmnggldejflooaaGreatDoorSq
import Derived.Test.YtmnggldejflooaaGreatDoorRtP
import Derived.Test.YtmnggldejflooaaGreatDoorMDp
import Derived.Test.YtmnggldejflooaaGreatDoorPick
import Derived.Test.YtmnggldejflooaaGreatDoorMHd
namespace Go.Proofs.YtmnggldejflooaaGreatDoor
set_option linter.unusedVariables false
set_option linter.unusedSimpArgs false
open Go.RowKit
structure GS9 (X : Ry) (C : Cx) (w : World) (Rb p : Nat) (W : World) : Prop where
 b : Below w.heap.size w W
 r : Var W Rb (ryC X)
 t : ShT W C.g X.A X.L.length X.L
 c : Cur C W p
 o : w.heap.size ≤ Rb ∧ Rb < C.g
section
variable {X : Ry} {C : Cx} {w : World} {Rb p : Nat} {W W' : World}
theorem GS9.under (h : GS9 X C w Rb p W) (hb : Below W.heap.size W W') : GS9 X C w Rb p W' :=
 ⟨h.b.trans (hb.mono h.b.size), h.r.under hb, h.t.up hb (Nat.le_of_lt h.c.lt), h.c.under hb, h.o⟩
theorem GS9.move {q : Nat} (h : GS9 X C w Rb p W) (hc : Cur C W' q) (hg : W.grownBy W' (some C.g)) : GS9 X C w Rb q W' :=
 ⟨bel_own h.b hg (fun j e => by injection e with e; have := h.o; omega) h.b.size, h.r.keep (hg.block Rb h.r.lt (by intro e; injection e; have := h.o; omega)) hg.size, h.t.keep (fun b hb => hg.block b (Nat.lt_trans hb h.c.lt) (by intro e; injection e; omega)), hc, h.o⟩
theorem GS9.turn {q : Nat} (h : GS9 X C w Rb p W) (hc : Cur C W' q) (ht : Tn (fun k => k = C.g) W W') : GS9 X C w Rb q W' :=
 ⟨h.b.trans (ht.below h.b.size fun k hk e => by have := h.o; omega), h.r.turn ht (by have := h.o; omega), h.t.keep (fun b hb => ht.block b (Nat.lt_trans hb h.c.lt) (by omega)), hc, h.o⟩
theorem GS9.in_ (h : GS9 X C w Rb p W) (hok : TokOk X.T X.L) : X.In W W.heap.size := ⟨h.t.more (Nat.le_of_lt h.c.lt), hok⟩
end
theorem rs_st_nul {R : Rw} {F : Nat} : ∀ (f p : Nat) (d : Int), ¬ (rs R F f .st p d).r = 0 → (rs R F f .st p d).s = St.nul
 | 0, _, _, _ => rfl
 | f + 1, p, d, h => by
  have key : (rs R F (f + 1) .st p d).r = 0 ∨ (rs R F (f + 1) .st p d).s = St.nul := by
   rw [rs_st]
   repeat' split
   all_goals first | exact .inl rfl | exact .inr rfl
  exact key.resolve_left h
theorem ex_nul_wfx : Ex.nul.wfx := by
 rw [Ex.wfx_eq]
 exact ⟨fun _ => rfl, Nat.zero_le _, fun x hx => by cases hx⟩
theorem st_nul_wfs : St.nul.wfs := (St.wfs_eq _).2 ⟨ex_nul_wfx, Nat.zero_le _, Nat.zero_le _, fun x hx => (by cases hx), fun x hx => (by cases hx)⟩
theorem ShS.built {w : World} {S : Nat → Prop} {s : St} {v : Tv} (h : TrS w S s v) : ShS (w.alloc (.cells (stC s v).toArray 49)) (fun _ => True) (.slice (some ⟨w.heap.size, 0, none⟩) 1 1) [s] := by
 have hv := Var.new w (stC s v) 49 (c := (stC s v).toArray) rfl
 have hb : Below w.heap.size w (w.alloc (.cells (stC s v).toArray 49)) := bAl
 have hj : ∀ (j : Nat) (x : St), [s][j]? = some x → j = 0 ∧ x = s := fun j x hx => by
  cases j with
  | zero => exact ⟨rfl, by simpa using hx.symm⟩
  | succ j => simp at hx
 refine .row w.heap.size 0 1 1 [s] (fun _ => v) rfl (Nat.zero_lt_one) nLe trivial hv.lt ?_ ?_ ?_ ?_
 ·intro j x hx
  obtain ⟨rfl, rfl⟩ := hj j x hx
  exact hv.rg
 ·intro j x hx
  obtain ⟨rfl, rfl⟩ := hj j x hx
  exact h.e.keep (fun b _ hlt => ⟨trivial, Nat.lt_of_lt_of_le hlt hb.size, hb.block b hlt⟩)
 ·intro j x hx
  obtain ⟨rfl, rfl⟩ := hj j x hx
  exact h.l.keep (fun b _ hlt => ⟨trivial, Nat.lt_of_lt_of_le hlt hb.size, hb.block b hlt⟩)
 ·intro j x hx
  obtain ⟨rfl, rfl⟩ := hj j x hx
  exact h.r.keep (fun b _ hlt => ⟨trivial, Nat.lt_of_lt_of_le hlt hb.size, hb.block b hlt⟩)
theorem TrS.under9 {w w' : World} {S : Nat → Prop} {s : St} {v : Tv} (h : TrS w S s v) (hb : Below w.heap.size w w') : TrS w' S s v := h.keep fun b h1 h2 => ⟨h1, Nat.lt_of_lt_of_le h2 hb.size, hb.block b h2⟩
theorem live_word9 {T : ByteArray} {bs : List Int} (hb : bts T = bs) {i : Nat} (hi : i < (live bs 0).length) : ((rowT T (live bs 0)).wd i).size ≠ 0 := by
 have hs : T.size = bs.length := by rw [← hb, bts_len]
 have hp := List.getElem?_eq_getElem hi
 have hw : (rowT T (live bs 0)).wd i = T.extract ((live bs 0)[i]).2.1.toNat ((live bs 0)[i]).2.2.toNat := by
  show wdT T (live bs 0) i = _
  simp only [wdT, hp]
 rw [hw]
 obtain ⟨v, hv, he⟩ := mem_live (List.getElem_mem hi)
 rw [he]
 have h1 := tl_in hv
 have h2 := tl_pos (bs.drop v)
 show (T.extract v (v + tl (bs.drop v))).size ≠ 0
 rw [ByteArray.size_extract]
 omega
theorem rMark_any (X : Ry) (hm : ∀ i, (X.R.wd i).size ≤ 1000000) (p : Nat) (hp : p ≤ X.L.length) (w : World) (h : X.In w w.heap.size) :
  CP 18 #[.agg (ryC X).toArray, .int .i64 (p : Int)] w fun e w' => e = .returned (.agg (mkC (markS X.R p)).toArray) ∧ Below w.heap.size w w' := by
 cases p with
 | zero => exact rMark_z X hm w h
 | succ p => exact rMark_s X hm p hp w h
theorem stmtGoes_long (A : Option Addr) (n c : Nat) (z d y : Int) (w : World) (h : 1000 < n) (hm : n ≤ maxLen) (hv : Vars w) :
  CP 3 #[.slice A n c, .int .i64 z, .int .i64 d, .int .i64 y] w fun e w' => e = .returned (.bool true) ∧ Below w.heap.size w w' := by
 unfold maxLen at hm
 have hlt : (1000 : Int) < (n : Int) := by omega
 go_enter Tryz.func3, Tryz.ntmps3
 go_wp2_with (go_at_call 9; refine (awake9_any _ hv).mono ?_; rintro e w1 ⟨rfl, b1⟩)
 go_ret
 exact ⟨rfl, b1⟩
set_option maxRecDepth 100000 in
set_option maxHeartbeats 3200000 in
theorem stmtGoes_short (A : Option Addr) (m c : Nat) (z d y : Int) (hd : dOk d) (bs : List Int) (w : World) (h : ¬ 1000 < m) (hx : Sh w w.heap.size A m (by8 bs)) (hb : Byt8 bs) (hnc : m ≤ c) (hcm : c ≤ maxLen) (hv : Vars w) :
  CP 3 #[.slice A m c, .int .i64 z, .int .i64 d, .int .i64 y] w fun e w' => e = .returned (.bool true) ∧ Below w.heap.size w w' := by
 have hzr := zeroRow
 have hzg := zeroGs
 have hzs := zeroSt
 have hza := zeroAn
 have hzm := zeroMk
 have hl : bs.length = m := by have := hx.len; rwa [by8_len] at this
 have hlt : ¬ (1000 : Int) < (m : Int) := by omega
 have hvs := hv.size
 have HAW : Hid (∀ W, Below w.heap.size w W → CP 9 #[] W fun e w' => e = .returned (.bool true) ∧ Below W.heap.size W w') := Lh fun W hW => awake9_any W (hv.under hW hvs)
 have hsz : (strOfNums bs).size = m := by rw [strOfNums_size, hl]
 have hbt := bts_str hb
 have hll := live_len bs
 have hok : TokOk (strOfNums bs) (live bs 0) := live_ok hbt (by omega)
 have HNW : Hid (∀ W, CP 10 #[.string (strOfNums bs)] W (RNewTo (strOfNums bs) bs W)) := Lh fun W => rNew_any (strOfNums bs) bs W hbt (by omega)
 have HXN : Hid (∀ W, Below w.heap.size w W → CP 11 #[.slice A m c] W fun e w' => ∃ C : Cx, e = .returned C.ptr ∧ C.T = strOfNums bs ∧ C.L = live bs 0 ∧ Cur C w' 0 ∧ Below W.heap.size W w' ∧ W.heap.size ≤ C.g) := Lh fun W hW => (new_any A m c bs W ((hx.below hW).more hW.size) (by omega) hnc hcm (hv.under hW hvs)).mono fun e w' ⟨C, h1, h2, h3, h4, h5, h6, _⟩ => ⟨C, h1, h2, h3, h4, h5, h6⟩
 have HX := Lh (fun w' (b : Below w.heap.size w w') => hx.below b)
 have HFIT : Hid (∀ X : Ry, X.T = strOfNums bs → X.L = live bs 0 → X.Fit ∧ ∀ i, (X.R.wd i).size ≤ 1000000) := Lh fun X h1 h2 => Ry.fit9 h1 h2 hbt (by omega)
 have HDG : Hid (∀ C : Cx, C.T = strOfNums bs → C.L = live bs 0 → DigOk C) := Lh fun C h1 h2 p hp => by
  have hR : C.R = rowT (strOfNums bs) (live bs 0) := by show rowT C.T C.L = _; rw [h1, h2]
  rw [hR] at hp ⊢
  exact live_dig hbt p hp
 have HWS : Hid (∀ i, i < (live bs 0).length → ((rowT (strOfNums bs) (live bs 0)).wd i).size ≠ 0) := Lh fun i hi => live_word9 hbt hi
 have HOK := Lh hok
 have HLN : Hid ((live bs 0).length ≤ 1000) := Lh (by omega)
 have HCV : Hid (∀ w' c, Below w.heap.size w w' → (convert 22 9 (.slice A m c)).run Tryz.prog w' = .ok (.string (strOfNums bs)) w') := Lh fun w' c b => convert_sh (HX.out _ b) c
 have HPI3 : Hid (∀ W, CP 12 #[.int .i64 y, .int .i64 3] W (Picked 3 W)) := Lh fun W => pick_any y 3 W (by omega) (by omega)
 obtain ⟨T, hT⟩ : ∃ T, strOfNums bs = T := ⟨_, rfl⟩
 obtain ⟨Ls, hLs⟩ : ∃ Ls, live bs 0 = Ls := ⟨_, rfl⟩
 unfold RNewTo at HNW
 rw [hT, hLs] at HNW HXN HFIT HDG HWS HOK
 rw [hT] at HCV
 rw [hLs] at HLN
 have hcv := HCV.out w c bRf
 have HB := Lh (Below.refl w.heap.size w)
 have HD := Lh hd
 clear hl hx hb hv hsz hbt hll hok hT hLs HX HCV hd
 go_enter Tryz.func3, Tryz.ntmps3
 go_wp2_with (first
  | (go_at_call 10; (with_reducible refine (HNW.out _).mono ?_); rintro e w3 ⟨X, rfl, hXT, hXL, hXI, b⟩; have HB := Lh (bTr HB b); have JI := Lh hXI; clear b hXI; dsimp only; refine Hid.out ?_)
  | fail)
 have HZ : Hid (∀ u ∈ ryC X, u.oneCell' = true) := Lh (by
  intro u hu
  simp at hu
  rcases hu with rfl | rfl <;> rfl)
 have HLX : Hid (X.L.length ≤ 1000) := Lh (by rw [hXL]; exact HLN.out)
 have HPI : Hid (∀ W, CP 12 #[.int .i64 z, .int .i64 ((X.L.length : Int) + 1)] W (Picked (X.L.length + 1) W)) := Lh fun W => pick_any z (X.L.length + 1) W (by omega) (by have := HLX.out; omega)
 have hRX : X.R = rowT T Ls := by show rowT X.T X.L = _; rw [hXT, hXL]
 obtain ⟨hfit, hws⟩ := HFIT.out X hXT hXL
 have HFT := Lh hfit
 have HWZ : Hid (∀ i, (X.R.wd i).size ≤ 1000000) := Lh hws
 have HW0 : Hid (∀ i, i < X.L.length → (X.R.wd i).size ≠ 0) := Lh (by rw [hRX, hXL]; exact HWS.out)
 have HOX : Hid (TokOk X.T X.L) := Lh (by rw [hXT, hXL]; exact HOK.out)
 have HXT := Lh hXT
 have HXL := Lh hXL
 have hn1 := HLX.out
 clear hXT hXL hRX hfit hws HFIT HWS HOK HLN HNW
 refine Lh ?_
 go_wp2_with (first
  | (refine wpList_stV rfl 26 (.tmp 9) (.tmp 30) rfl (G := w3.heap.size) (off := 0) rfl (us := ryC X) (Var.new w3 [.string ⟨#[]⟩, .slice none 0 0] 26 rfl) rfl info_ry (Nat.le_refl 2) HZ.out ?_; intro w4 ht hs; have ta := Tn.alloc (fun k => k = w3.heap.size) w3 (.cells #[.string ⟨#[]⟩, .slice none 0 0] 26); have bb := (ta.trans ht).below nLe (by intro k hk e; omega); have hs3 := HB.out.size; have HB := Lh (bTr HB bb); have JI := Lh (JI.out.up bb nLe); have JR := Lh (show Var w4 w3.heap.size (ryC X) from hs); have hs4 := ht.size; rw [row_size] at hs4; clear ht hs ta bb)
  | (go_at_call 11; (with_reducible refine (HXN.out _ HB.out).mono ?_); rintro e w5 ⟨C, rfl, hCT, hCL, hc, b, hg⟩; have HB := Lh (bTr HB b); have JI := Lh (JI.out.up b (by omega)); have JR := Lh (JR.out.under b); have JC := Lh hc; clear b hc; dsimp only; refine Hid.out ?_)
  | fail)
 obtain ⟨Rb, hRb⟩ : ∃ Rb, w3.heap.size = Rb := ⟨_, rfl⟩
 rw [hRb] at JR JI hs4 ⊢
 have JR1 := JR.out.at 1 (v := .slice X.A X.L.length X.c) rfl
 have J : Hid (GS9 X C w Rb 0 w5) := Lh ⟨HB.out, JR.out, JI.out.1.more (by omega), JC.out, by omega⟩
 have hR : C.R = X.R := by show rowT C.T C.L = rowT X.T X.L; rw [hCT, hCL, HXT.out, HXL.out]
 have hCo : TokOk C.T C.L := by rw [hCT, hCL, ← HXT.out, ← HXL.out]; exact HOX.out
 have HDI := Lh (HDG.out C hCT hCL)
 have hCn : C.L.length = X.L.length := by rw [hCL, HXL.out]
 have HCE : Hid (∀ p W, GS9 X C w Rb p W → p ≤ X.L.length) := Lh fun p W h => by rw [← hCn]; exact h.c.le
 have HPK : Hid (∀ p W, GS9 X C w Rb p W → CP 24 #[C.ptr] W fun e w' => e = .returned (.string (X.R.wd p)) ∧ Below W.heap.size W w') := Lh fun p W h => by rw [← hR]; exact peek_any C hCo p W h.c
 have HPO : Hid (∀ p W, GS9 X C w Rb p W → CP 22 #[C.ptr] W fun e w' => e = .returned (.int .i64 (X.R.ps p)) ∧ Below W.heap.size W w') := Lh fun p W h => by rw [← hR]; exact pos_any C hCo p W h.c
 have HTK : Hid (∀ p W s, s.size ≠ 0 → GS9 X C w Rb p W → CP 13 #[C.ptr, .string s] W (TakeTo C p (X.R.is p s.toList) W)) := Lh fun p W s hs h => by rw [← hR]; exact takeL C hCo p W h.c s hs
 have HRA : Hid (∀ p q W, p ≤ X.L.length → GS9 X C w Rb q W → CP 14 #[.agg (ryC X).toArray, .int .i64 (p : Int)] W fun e w' => e = .returned (.string (X.R.wd p)) ∧ Below W.heap.size W w') := Lh fun p q W hp h => rAt_any X p W (h.in_ HOX.out) (by have := HLX.out; omega)
 have HRP : Hid (∀ p q W, p ≤ X.L.length → GS9 X C w Rb q W → CP 23 #[.agg (ryC X).toArray, .int .i64 (p : Int)] W fun e w' => e = .returned (.int .i64 (X.R.ps p)) ∧ Below W.heap.size W w') := Lh fun p q W hp h => rPos_any X p W (h.in_ HOX.out) (by have := HLX.out; omega)
 have HTY : Hid (∀ p W, GS9 X C w Rb p W → CP 15 #[C.ptr] W (PartTo C (.int .i64 (tyS X.R p).1) (tyS X.R p).2 W)) := Lh fun p W h => by rw [← hR]; exact type_any C hCo p W h.c
 have HRT : Hid (∀ p q W, p ≤ X.L.length → GS9 X C w Rb q W → CP 16 #[.agg (ryC X).toArray, .int .i64 (p : Int)] W fun e w' => e = .returned (.int .i64 (tyI X.R p)) ∧ Below W.heap.size W w') := Lh fun p q W hp h => rType_any X p W (h.in_ HOX.out) (by have := HLX.out; omega)
 have HMK : Hid (∀ p W, GS9 X C w Rb p W → CP 17 #[C.ptr] W (PartTo C (anV (markS X.R p).1) (markS X.R p).2 W)) := Lh fun p W h => by rw [← hR]; exact mark_any C hCo p W h.c
 have HRM : Hid (∀ p q W, p ≤ X.L.length → GS9 X C w Rb q W → CP 18 #[.agg (ryC X).toArray, .int .i64 (p : Int)] W fun e w' => e = .returned (.agg (mkC (markS X.R p)).toArray) ∧ Below W.heap.size W w') := Lh fun p q W hp h => rMark_any X HWZ.out p hp W (h.in_ HOX.out)
 have hRk : X.R.Ok := row_ok X.T X.L
 have HST : Hid (∀ p W, GS9 X C w Rb p W → CP 19 #[C.ptr, .int .i64 d] W fun e w' => ∃ v, e = .returned (.tuple #[.agg (stC (rs X.R 16100 3100 .st p d).s v).toArray, .int .i64 (rs X.R 16100 3100 .st p d).r]) ∧ Cur C w' (rs X.R 16100 3100 .st p d).p ∧ TrS w' (fun b => W.heap.size ≤ b) (rs X.R 16100 3100 .st p d).s v ∧ Tn (fun k => k = C.g) W w') := Lh fun p W h => by
  have hpn := HCE.out p W h
  have hn := HLX.out
  refine (stmt_any C hCo HDI.out (by rw [hR]; exact hRk) (by rw [hCn]; omega) 16100 (by rw [hCn]; omega) d p W h.c).mono ?_
  rintro e w' ⟨m, s, v, hm, rfl, hc, hok, hno, ht⟩
  rw [hR] at hm
  obtain ⟨h1, h2⟩ := st_rs hRk (f := 3100) (by show 3 * (X.L.length - p) + 2 ≤ 3100; omega) hpn hm
  have hnul := rs_st_nul (R := X.R) (F := 16100) 3100 p d
  obtain ⟨g, hg⟩ : ∃ g, rs X.R 16100 3100 .st p d = g := ⟨_, rfl⟩
  rw [hg] at h1 h2 hnul ⊢
  by_cases hr : g.r = 0
  ·obtain ⟨rfl, _⟩ := h1 hr
   obtain ⟨hh, htr⟩ := hok rfl
   have hs : g.s = s := by simpa using hh
   subst hs
   exact ⟨v, by rw [hr], hc, htr, ht⟩
  ·obtain ⟨e1, e2⟩ := h2 hr
   obtain ⟨rfl, rfl⟩ := hno (by rw [e2]; exact hr)
   exact ⟨Tv.nul, by rw [hnul hr, e2], by rw [← e1]; exact hc, by rw [hnul hr]; exact TrS.nul' _ _, ht⟩
 have HRS : Hid (∀ p q W, p ≤ X.L.length → GS9 X C w Rb q W → CP 20 #[.agg (ryC X).toArray, .int .i64 (p : Int), .int .i64 d] W (GsTo (rs X.R 16100 3100 .st p d) W)) := Lh fun p q W hp h => by
  have hn := HLX.out
  exact (rs_all X HFT.out HWZ.out 16100 (by omega) 3100).1 p d W hp (h.in_ HOX.out) HD.out (by omega)
 have HSM : Hid (∀ p, p ≤ X.L.length → SamS [(rs X.R 16100 3100 .st p d).s]) := Lh fun p hp => by
  refine sameS_any _ (by simp) fun x hx => ?_
  rw [List.mem_singleton.1 hx]
  by_cases hr : (rs X.R 16100 3100 .st p d).r = 0
  ·exact rs_wf hRk (by have := HLX.out; show X.L.length ≤ _; omega) 3100 .st p d hp hr
  ·rw [rs_st_nul 3100 p d hr]
   exact st_nul_wfs
 unfold SamS at HSM
 have KS : Hid (∀ W p, GS9 X C w Rb p W → (W.cell? ⟨Rb, 0, none⟩ = some (.string X.T) ∧ W.cell? ⟨Rb, 1, none⟩ = some (.slice X.A X.L.length X.c))) := Lh fun W p h => ⟨h.r.at 0 rfl, h.r.at 1 rfl⟩
 clear HXN HDG hCT hCL hCo hCn hRb JR JI JC HB hcv hs3 hs4 hg HDI hR hRk HXT HXL HFT
 refine Lh ?_
 go_wp2_with (first
  | (go_at_call 12; (with_reducible refine (HPI.out _).mono ?_); rintro e w6 ⟨k, hk, rfl, rfl⟩; dsimp only; refine Hid.out ?_)
  | fail)
 have hkn : k ≤ X.L.length := by omega
 clear hk JR1 HPI
 refine Lh ?_
 go_wp2_with fail
 go_loopw [12] (fun iv wr => ∃ i : Nat, iv = .int .i64 (i : Int) ∧ i ≤ k ∧ GS9 X C w Rb i wr) (fun iv _ => k - (intOf iv).toNat)
 case atStart => exact ⟨0, rfl, Nat.zero_le _, J.out⟩
 case round =>
  obtain ⟨i, rfl, hi, hJ⟩ := hrel
  clear J
  have J := Lh hJ
  clear hJ
  by_cases hik : i < k
  ·have hs0 := HW0.out i (by omega)
   have hRA := fun W => HRA.out i i W (by omega)
   have hTX := fun W s hs => HTK.out i W s hs
   obtain ⟨s, hs⟩ : ∃ s, X.R.wd i = s := ⟨_, rfl⟩
   have hss : (s.toList == s.toList) = true := by simp
   rw [hs] at hs0 hRA
   have HRAi := Lh hRA
   have HTSi : Hid (∀ W, GS9 X C w Rb i W → CP 13 #[C.ptr, .string s] W fun e w' => e = .returned (.bool true) ∧ Cur C w' (i + 1) ∧ W.grownBy w' (some C.g)) := Lh fun W h => by
    have h1 := hTX W s hs0 h
    have h2 : X.R.is i s.toList = true := by unfold Rw.is; rw [hs]; exact hss
    rw [h2] at h1
    exact h1.mono fun e w' hh => ⟨hh.1, hh.2.1, hh.2.2.1⟩
   have hik1 : (i : Int) < (k : Int) := by omega
   clear hs0 hRA hTX hs
   go_wp2_with (first
    | (refine wpList_ldW rfl 26 (.tmp 9) rfl Rb 0 rfl (ryC X) J.out.r.rg Tryz.underlying26 rfl info_ry ?_)
    | (go_at_call 14; (with_reducible refine (HRAi.out _ J.out).mono ?_); rintro e wt ⟨rfl, b⟩; have J := Lh (J.out.under b); clear b; dsimp only)
    | (go_at_call 13; (with_reducible refine (HTSi.out _ J.out).mono ?_); rintro e wt ⟨rfl, hc, hg⟩; have J := Lh (J.out.move (q := i + 1) hc hg); clear hc hg; dsimp only)
    | fail)
   go_roundw
   case rel => exact ⟨i + 1, by go_num, hik, J.out⟩
   case measure => simp [intOf]; omega
  ·obtain rfl : i = k := by omega
   clear hik hi
   go_wp2_with (first
    | (go_at_call 12; (with_reducible refine (HPI3.out _).mono ?_); rintro e w7 ⟨j, hj, rfl, rfl⟩; dsimp only; refine Hid.out ?_)
    | fail)
   obtain ⟨jz, hjz⟩ : ∃ jz : Int, (j : Int) = jz := ⟨_, rfl⟩
   have h3 : jz = 0 ∨ jz = 1 ∨ jz = 2 := by omega
   rw [hjz]
   clear hj hjz HPI3
   rcases h3 with rfl | rfl | rfl
   ·clear HMK HRM HST HRS HSM
    have hTY := HTY.out i
    have hRT := fun W => HRT.out i i W hkn
    have hRT1 := fun W => HRT.out i (i + 1) W hkn
    unfold PartTo at hTY
    have hc : (∃ t : Int, 0 ≤ t ∧ tyS X.R i = (t, (i + 1, 0)) ∧ tyI X.R i = t) ∨ (tyS X.R i = (0, (i, 11)) ∧ tyI X.R i = -1) := by
     unfold tyS tyI
     by_cases ht : X.R.is i lInt = true
     ·exact .inl ⟨0, by omega, by rw [if_pos ht], by rw [if_pos ht]⟩
     ·by_cases hu : X.R.is i lBool = true
      ·exact .inl ⟨1, by omega, by rw [if_neg ht, if_pos hu], by rw [if_neg ht, if_pos hu]⟩
      ·exact .inr ⟨by rw [if_neg ht, if_neg hu], by rw [if_neg ht, if_neg hu]⟩
    rcases hc with ⟨t, ht0, hc1, hc2⟩ | ⟨hc1, hc2⟩
    ·have ht1 : ¬ t < 0 := by omega
     have ht2 : (t != t) = false := by simp
     have HTYi : Hid (∀ W, GS9 X C w Rb i W → CP 15 #[C.ptr] W fun e w' => e = .returned (.tuple #[.int .i64 t, .int .i64 0]) ∧ Cur C w' (i + 1) ∧ W.grownBy w' (some C.g)) := Lh fun W h => by
      have h1 := hTY W h
      rw [hc1] at h1
      exact h1
     have HRTi : Hid (∀ q W, GS9 X C w Rb q W → CP 16 #[.agg (ryC X).toArray, .int .i64 (i : Int)] W fun e w' => e = .returned (.int .i64 (t)) ∧ Below W.heap.size W w') := Lh fun q W h => by
      have h1 := HRT.out i q W hkn h
      rw [hc2] at h1
      exact h1
     clear hTY hRT hRT1 hc1 hc2
     refine Lh ?_
     go_wp2_with (first
      | (refine wpList_ldW rfl 26 (.tmp 9) rfl Rb 0 rfl (ryC X) J.out.r.rg Tryz.underlying26 rfl info_ry ?_)
      | (go_at_call 15; (with_reducible refine (HTYi.out _ J.out).mono ?_); rintro e wt ⟨rfl, hc, hg⟩; have J := Lh (J.out.move (q := i + 1) hc hg); clear hc hg; dsimp only)
      | (go_at_call 16; (with_reducible refine (HRTi.out _ _ J.out).mono ?_); rintro e wu ⟨rfl, b⟩; have J := Lh (J.out.under b); clear b; dsimp only; refine Hid.out ?_)
      | fail)
     have hgp := HCE.out (i + 1) _ J.out
     have HPOk := Lh (HPO.out (i + 1))
     have HPKk := Lh (HPK.out (i + 1))
     have HRPk : Hid (∀ W, GS9 X C w Rb (i + 1) W → CP 23 #[.agg (ryC X).toArray, .int .i64 ((i : Int) + 1)] W fun e w' => e = .returned (.int .i64 (X.R.ps (i + 1))) ∧ Below W.heap.size W w') := Lh fun W h => HRP.out (i + 1) _ W (HCE.out _ _ h) h
     have HRAk : Hid (∀ W, GS9 X C w Rb (i + 1) W → CP 14 #[.agg (ryC X).toArray, .int .i64 ((i : Int) + 1)] W fun e w' => e = .returned (.string (X.R.wd (i + 1))) ∧ Below W.heap.size W w') := Lh fun W h => HRA.out (i + 1) _ W (HCE.out _ _ h) h
     obtain ⟨pp, hpp⟩ : ∃ pp, X.R.ps (i + 1) = pp := ⟨_, rfl⟩
     obtain ⟨sg, hsg⟩ : ∃ s, X.R.wd (i + 1) = s := ⟨_, rfl⟩
     rw [hpp] at HPOk HRPk
     rw [hsg] at HPKk HRAk
     have hss : (sg.toList == sg.toList) = true := by simp
     clear hpp hsg HPO HPK HRP HRA HTK
     have J := Lh (J.out.under (below_drew _ _))
     refine Lh ?_
     go_wp2_with fail
     obtain ⟨q0, q1⟩ := KS.out _ _ J.out
     go_region_held3 (fun W => (W.cell? ⟨Rb, 0, none⟩ = some (.string X.T) ∧ W.cell? ⟨Rb, 1, none⟩ = some (.slice X.A X.L.length X.c))) (((try dsimp only); first | (with_reducible exact KS.out _ _ J.out) | ((repeat' apply And.intro) <;> first | (with_reducible assumption) | go_keep))) (first
      | (go_at_call 22; (with_reducible refine (HPOk.out _ J.out).mono ?_); rintro e wt ⟨rfl, b⟩; have J := Lh (J.out.under b); clear b; obtain ⟨q0, q1⟩ := KS.out _ _ J.out)
      | (go_at_call 23; (with_reducible refine (HRPk.out _ J.out).mono ?_); rintro e wt ⟨rfl, b⟩; have J := Lh (J.out.under b); clear b; obtain ⟨q0, q1⟩ := KS.out _ _ J.out)
      | (go_at_call 24; (with_reducible refine (HPKk.out _ J.out).mono ?_); rintro e wt ⟨rfl, b⟩; have J := Lh (J.out.under b); clear b; obtain ⟨q0, q1⟩ := KS.out _ _ J.out)
      | (go_at_call 14; (with_reducible refine (HRAk.out _ J.out).mono ?_); rintro e wt ⟨rfl, b⟩; have J := Lh (J.out.under b); clear b; obtain ⟨q0, q1⟩ := KS.out _ _ J.out)
      | (go_at_call 9; (with_reducible refine (HAW.out _ J.out.b).mono ?_); rintro e wt ⟨rfl, b⟩; have J := Lh (J.out.under b); clear b; obtain ⟨q0, q1⟩ := KS.out _ _ J.out)
      | fail)
     go_wp2
     go_ret
     exact ⟨rfl, J.out.b⟩
    ·skip
     have HTYi : Hid (∀ W, GS9 X C w Rb i W → CP 15 #[C.ptr] W fun e w' => e = .returned (.tuple #[.int .i64 0, .int .i64 11]) ∧ Cur C w' (i) ∧ W.grownBy w' (some C.g)) := Lh fun W h => by
      have h1 := hTY W h
      rw [hc1] at h1
      exact h1
     have HRTi : Hid (∀ q W, GS9 X C w Rb q W → CP 16 #[.agg (ryC X).toArray, .int .i64 (i : Int)] W fun e w' => e = .returned (.int .i64 (-1)) ∧ Below W.heap.size W w') := Lh fun q W h => by
      have h1 := HRT.out i q W hkn h
      rw [hc2] at h1
      exact h1
     clear hTY hRT hRT1 hc1 hc2
     refine Lh ?_
     go_wp2_with (first
      | (refine wpList_ldW rfl 26 (.tmp 9) rfl Rb 0 rfl (ryC X) J.out.r.rg Tryz.underlying26 rfl info_ry ?_)
      | (go_at_call 15; (with_reducible refine (HTYi.out _ J.out).mono ?_); rintro e wt ⟨rfl, hc, hg⟩; have J := Lh (J.out.move (q := i) hc hg); clear hc hg; dsimp only)
      | (go_at_call 16; (with_reducible refine (HRTi.out _ _ J.out).mono ?_); rintro e wu ⟨rfl, b⟩; have J := Lh (J.out.under b); clear b; dsimp only; refine Hid.out ?_)
      | fail)
     have hgp := HCE.out (i) _ J.out
     have HPOk := Lh (HPO.out (i))
     have HPKk := Lh (HPK.out (i))
     have HRPk : Hid (∀ W, GS9 X C w Rb (i) W → CP 23 #[.agg (ryC X).toArray, .int .i64 (i : Int)] W fun e w' => e = .returned (.int .i64 (X.R.ps (i))) ∧ Below W.heap.size W w') := Lh fun W h => HRP.out (i) _ W (HCE.out _ _ h) h
     have HRAk : Hid (∀ W, GS9 X C w Rb (i) W → CP 14 #[.agg (ryC X).toArray, .int .i64 (i : Int)] W fun e w' => e = .returned (.string (X.R.wd (i))) ∧ Below W.heap.size W w') := Lh fun W h => HRA.out (i) _ W (HCE.out _ _ h) h
     obtain ⟨pp, hpp⟩ : ∃ pp, X.R.ps (i) = pp := ⟨_, rfl⟩
     obtain ⟨sg, hsg⟩ : ∃ s, X.R.wd (i) = s := ⟨_, rfl⟩
     rw [hpp] at HPOk HRPk
     rw [hsg] at HPKk HRAk
     have hss : (sg.toList == sg.toList) = true := by simp
     clear hpp hsg HPO HPK HRP HRA HTK
     have J := Lh (J.out.under (below_drew _ _))
     refine Lh ?_
     go_wp2_with fail
     obtain ⟨q0, q1⟩ := KS.out _ _ J.out
     go_region_held3 (fun W => (W.cell? ⟨Rb, 0, none⟩ = some (.string X.T) ∧ W.cell? ⟨Rb, 1, none⟩ = some (.slice X.A X.L.length X.c))) (((try dsimp only); first | (with_reducible exact KS.out _ _ J.out) | ((repeat' apply And.intro) <;> first | (with_reducible assumption) | go_keep))) (first
      | (go_at_call 22; (with_reducible refine (HPOk.out _ J.out).mono ?_); rintro e wt ⟨rfl, b⟩; have J := Lh (J.out.under b); clear b; obtain ⟨q0, q1⟩ := KS.out _ _ J.out)
      | (go_at_call 23; (with_reducible refine (HRPk.out _ J.out).mono ?_); rintro e wt ⟨rfl, b⟩; have J := Lh (J.out.under b); clear b; obtain ⟨q0, q1⟩ := KS.out _ _ J.out)
      | (go_at_call 24; (with_reducible refine (HPKk.out _ J.out).mono ?_); rintro e wt ⟨rfl, b⟩; have J := Lh (J.out.under b); clear b; obtain ⟨q0, q1⟩ := KS.out _ _ J.out)
      | (go_at_call 14; (with_reducible refine (HRAk.out _ J.out).mono ?_); rintro e wt ⟨rfl, b⟩; have J := Lh (J.out.under b); clear b; obtain ⟨q0, q1⟩ := KS.out _ _ J.out)
      | (go_at_call 9; (with_reducible refine (HAW.out _ J.out.b).mono ?_); rintro e wt ⟨rfl, b⟩; have J := Lh (J.out.under b); clear b; obtain ⟨q0, q1⟩ := KS.out _ _ J.out)
      | fail)
     go_wp2
     go_ret
     exact ⟨rfl, J.out.b⟩
   ·clear HTY HRT HST HRS HSM
    obtain ⟨M, hM⟩ : ∃ M, markS X.R i = M := ⟨_, rfl⟩
    have HMKi : Hid (∀ W, GS9 X C w Rb i W → CP 17 #[C.ptr] W fun e w' => e = .returned (.tuple #[anV M.1, .int .i64 M.2.2]) ∧ Cur C w' M.2.1 ∧ W.grownBy w' (some C.g)) := Lh fun W h => by rw [← hM]; exact HMK.out i W h
    have HRMi : Hid (∀ q W, GS9 X C w Rb q W → CP 18 #[.agg (ryC X).toArray, .int .i64 (i : Int)] W fun e w' => e = .returned (.agg (mkC M).toArray) ∧ Below W.heap.size W w') := Lh fun q W h => by rw [← hM]; exact HRM.out i q W hkn h
    obtain ⟨x, mp, mr⟩ := M
    have HAO : Hid (∀ u ∈ anC x, u.oneCell' = true) := Lh (anC_one x)
    clear hM
    dsimp only at HMKi
    unfold anV at HMKi
    refine Lh ?_
    go_wp2_with (first
     | (go_at_call 17; (with_reducible refine (HMKi.out _ J.out).mono ?_); rintro e w8 ⟨rfl, hc, hg⟩; have J := Lh (J.out.move (q := mp) hc hg); clear hc hg; dsimp only; refine Hid.out ?_)
     | fail)
    refine Lh ?_
    go_wp2_with (first
     | (refine wpList_stV rfl 38 (.tmp 18) (.tmp 104) rfl (G := w8.heap.size) (off := 0) rfl (us := anC x) (Var.new w8 (anC An.nul) 38 rfl) rfl info_an (Nat.le_refl 5) HAO.out ?_; intro w9 ht hs; have bb := ((Tn.alloc (fun k => k = w8.heap.size) w8 (.cells #[.bool false, .bool false, .string ⟨#[]⟩, .int .i64 0, .int .i64 0] 38)).trans ht).below nLe (by intro k hk e; omega); have J := Lh (J.out.under bb); have JA := Lh (show Var w9 w8.heap.size (anC x) from hs); clear ht hs bb)
     | (refine wpList_ldW rfl 26 (.tmp 9) rfl Rb 0 rfl (ryC X) J.out.r.rg Tryz.underlying26 rfl info_ry ?_)
     | (go_at_call 18; (with_reducible refine (HRMi.out _ _ J.out).mono ?_); rintro e wu ⟨rfl, b⟩; have J := Lh (J.out.under b); have JA := Lh (JA.out.under b); clear b; dsimp only; refine Hid.out ?_)
     | fail)
    obtain ⟨G1, hG1⟩ : ∃ G, w8.heap.size = G := ⟨_, rfl⟩
    rw [hG1] at JA ⊢
    clear hG1
    refine Lh ?_
    go_wp2_with (first
     | (refine wpList_stV rfl 42 (.tmp 20) (.tmp 108) rfl (G := wu.heap.size) (off := 0) rfl (us := mkC (x, (mp, mr))) (Var.new wu (mkC (An.nul, (0, 0))) 42 rfl) rfl info_mk (Nat.le_refl 7) (mkC_one _) ?_; intro w10 ht hs; have bb := ((Tn.alloc (fun k => k = wu.heap.size) wu (.cells #[.bool false, .bool false, .string ⟨#[]⟩, .int .i64 0, .int .i64 0, .int .i64 0, .int .i64 0] 42)).trans ht).below nLe (by intro k hk e; omega); have J := Lh (J.out.under bb); have JA := Lh (JA.out.under bb); have JM := Lh (show Var w10 wu.heap.size (mkC (x, (mp, mr))) from hs); clear ht hs bb; refine Hid.out ?_)
     | fail)
    obtain ⟨G2, hG2⟩ : ∃ G, wu.heap.size = G := ⟨_, rfl⟩
    rw [hG2] at JM ⊢
    clear hG2
    have k5 : w10.cell? ⟨G2, 5, none⟩ = some (.int .i64 (mp : Int)) := JM.out.at 5 rfl
    have k6 : w10.cell? ⟨G2, 6, none⟩ = some (.int .i64 mr) := JM.out.at 6 rfl
    have elb : (x.lb.toList == x.lb.toList) = true := by simp
    have hgp := HCE.out mp _ J.out
    have HPOk := Lh (HPO.out mp)
    have HPKk := Lh (HPK.out mp)
    have HRPk : Hid (∀ W, GS9 X C w Rb mp W → CP 23 #[.agg (ryC X).toArray, .int .i64 (mp : Int)] W fun e w' => e = .returned (.int .i64 (X.R.ps mp)) ∧ Below W.heap.size W w') := Lh fun W h => HRP.out mp _ W (HCE.out _ _ h) h
    have HRAk : Hid (∀ W, GS9 X C w Rb mp W → CP 14 #[.agg (ryC X).toArray, .int .i64 (mp : Int)] W fun e w' => e = .returned (.string (X.R.wd mp)) ∧ Below W.heap.size W w') := Lh fun W h => HRA.out mp _ W (HCE.out _ _ h) h
    obtain ⟨pp, hpp⟩ : ∃ pp, X.R.ps mp = pp := ⟨_, rfl⟩
    obtain ⟨sg, hsg⟩ : ∃ s, X.R.wd mp = s := ⟨_, rfl⟩
    rw [hpp] at HPOk HRPk
    rw [hsg] at HPKk HRAk
    have hss : (sg.toList == sg.toList) = true := by simp
    clear hpp hsg HPO HPK HRP HRA HTK
    have J := Lh (J.out.under (below_drew _ _))
    refine Lh ?_
    go_wp2_with (first
     | (refine wpList_ldW rfl 38 (.tmp 18) rfl G1 0 rfl (anC x) JA.out.rg Tryz.underlying38 rfl info_an ?_)
     | (refine wpList_ldW rfl 38 (.tmp 110) rfl G2 0 rfl (anC x) (rg_pre (a := anC x) (b := [.int .i64 (mp : Int), .int .i64 mr]) JM.out.rg) Tryz.underlying38 rfl info_an ?_; simp only [anC])
     | fail)
    obtain ⟨q0, q1⟩ := KS.out _ _ J.out
    go_region_held3 (fun W => (W.cell? ⟨Rb, 0, none⟩ = some (.string X.T) ∧ W.cell? ⟨Rb, 1, none⟩ = some (.slice X.A X.L.length X.c))) (((try dsimp only); first | (with_reducible exact KS.out _ _ J.out) | ((repeat' apply And.intro) <;> first | (with_reducible assumption) | go_keep))) (first
     | (go_at_call 22; (with_reducible refine (HPOk.out _ J.out).mono ?_); rintro e wt ⟨rfl, b⟩; have J := Lh (J.out.under b); clear b; obtain ⟨q0, q1⟩ := KS.out _ _ J.out)
     | (go_at_call 23; (with_reducible refine (HRPk.out _ J.out).mono ?_); rintro e wt ⟨rfl, b⟩; have J := Lh (J.out.under b); clear b; obtain ⟨q0, q1⟩ := KS.out _ _ J.out)
     | (go_at_call 24; (with_reducible refine (HPKk.out _ J.out).mono ?_); rintro e wt ⟨rfl, b⟩; have J := Lh (J.out.under b); clear b; obtain ⟨q0, q1⟩ := KS.out _ _ J.out)
     | (go_at_call 14; (with_reducible refine (HRAk.out _ J.out).mono ?_); rintro e wt ⟨rfl, b⟩; have J := Lh (J.out.under b); clear b; obtain ⟨q0, q1⟩ := KS.out _ _ J.out)
     | (go_at_call 9; (with_reducible refine (HAW.out _ J.out.b).mono ?_); rintro e wt ⟨rfl, b⟩; have J := Lh (J.out.under b); clear b; obtain ⟨q0, q1⟩ := KS.out _ _ J.out)
     | fail)
    go_wp2
    go_ret
    exact ⟨rfl, J.out.b⟩
   ·clear HTY HRT HMK HRM
    obtain ⟨g, hg⟩ : ∃ g, rs X.R 16100 3100 .st i d = g := ⟨_, rfl⟩
    have HSTi : Hid (∀ W, GS9 X C w Rb i W → CP 19 #[C.ptr, .int .i64 d] W fun e w' => ∃ v, e = .returned (.tuple #[.agg (stC g.s v).toArray, .int .i64 g.r]) ∧ Cur C w' g.p ∧ TrS w' (fun b => W.heap.size ≤ b) g.s v ∧ Tn (fun k => k = C.g) W w') := Lh fun W h => by rw [← hg]; exact HST.out i W h
    have HRSi : Hid (∀ q W, GS9 X C w Rb q W → CP 20 #[.agg (ryC X).toArray, .int .i64 (i : Int), .int .i64 d] W (GsTo g W)) := Lh fun q W h => by rw [← hg]; exact HRS.out i q W hkn h
    have HSMi : Hid (∀ (lv kv : Value) (w : World) (S K : Nat → Prop), ShS w S lv [g.s] → ShS w K kv [g.s] → CP 21 #[lv, kv] w fun r w' => r = .returned (.bool true) ∧ Below w.heap.size w w') := Lh (by rw [← hg]; exact HSM.out i hkn)
    unfold GsTo at HRSi
    clear hg
    refine Lh ?_
    go_wp2_with (first
     | (go_at_call 19; (with_reducible refine (HSTi.out _ J.out).mono ?_); rintro e w8 ⟨v, rfl, hc, htr, ht⟩; have J := Lh (J.out.turn (q := g.p) hc ht); have hto := htr.tv1; have JT := Lh (htr.weak (S' := fun b => b < w8.heap.size) (fun b _ h2 => h2)); clear hc ht htr; dsimp only; refine Hid.out ?_)
     | fail)
    refine Lh ?_
    go_wp2_with (first
     | (refine wpList_stV rfl 49 (.tmp 21) (.tmp 56) rfl (G := w8.heap.size) (off := 0) rfl (us := stC g.s v) (Var.new w8 (stC St.nul Tv.nul) 49 rfl) rfl info_st (Nat.le_refl 17) (hto.st _) ?_; intro w9 ht hs; have bb := ((Tn.alloc (fun k => k = w8.heap.size) w8 (.cells z17 49)).trans ht).below nLe (by intro k hk e; omega); have J := Lh (J.out.under bb); have JA := Lh (show Var w9 w8.heap.size (stC g.s v) from hs); have JT := Lh (JT.out.under9 bb); clear ht hs bb)
     | (refine wpList_ldW rfl 26 (.tmp 9) rfl Rb 0 rfl (ryC X) J.out.r.rg Tryz.underlying26 rfl info_ry ?_)
     | (go_at_call 20; (with_reducible refine (HRSi.out _ _ J.out).mono ?_); rintro e wu ⟨tv, lv, rfl, htr, hsh, b⟩; have J := Lh (J.out.under b); have JA := Lh (JA.out.under b); have JT := Lh (JT.out.under9 b); have hto2 := htr.tv1; have hone := hsh.one; obtain ⟨A5, c5, rfl, _⟩ := hsh.len; have JU := Lh (htr.weak (S' := fun b => b < wu.heap.size) (fun b _ h2 => h2)); clear b htr hsh; dsimp only; refine Hid.out ?_)
     | fail)
    obtain ⟨G1, hG1⟩ : ∃ G, w8.heap.size = G := ⟨_, rfl⟩
    rw [hG1] at JA ⊢
    have JT := Lh (JT.out.weak (S' := fun _ => True) (fun _ _ _ => trivial))
    clear hG1
    refine Lh ?_
    go_wp2_with (first
     | (refine wpList_stV rfl 53 (.tmp 23) (.tmp 61) rfl (G := wu.heap.size) (off := 0) rfl (us := gsC g.s tv (.slice A5 g.l.length c5) (g.p : Int) g.r) (Var.new wu (gsC St.nul Tv.nul nilS 0 0) 53 rfl) rfl info_gs (Nat.le_refl 20) (hto2.gs _ hone _ _) ?_; intro w10 ht hs; have bb := ((Tn.alloc (fun k => k = wu.heap.size) wu (.cells z20 53)).trans ht).below nLe (by intro k hk e; omega); have J := Lh (J.out.under bb); have JA := Lh (JA.out.under bb); have JT := Lh (JT.out.under9 bb); have JM := Lh (show Var w10 wu.heap.size (gsC g.s tv (.slice A5 g.l.length c5) (g.p : Int) g.r) from hs); have JU := Lh ((JU.out.under9 bb).weak (S' := fun _ => True) (fun _ _ _ => trivial)); clear ht hs bb; refine Hid.out ?_)
     | fail)
    obtain ⟨G2, hG2⟩ : ∃ G, wu.heap.size = G := ⟨_, rfl⟩
    rw [hG2] at JM ⊢
    clear hG2
    have k19 : w10.cell? ⟨G2, 19, none⟩ = some (.int .i64 g.r) := JM.out.at 19 rfl
    have hrr : (g.r != g.r) = false := by simp
    have HBA : Hid (Below w10.heap.size w10 ((w10.alloc (.cells (stC g.s v).toArray 49)).alloc (.cells (stC g.s tv).toArray 49))) := Lh (bAl.alloc (by simp) _)
    have HS1 : Hid (ShS ((w10.alloc (.cells (stC g.s v).toArray 49)).alloc (.cells (stC g.s tv).toArray 49)) (fun _ => True) (.slice (some ⟨w10.heap.size, 0, none⟩) 1 1) [g.s]) := Lh ((ShS.built JT.out).under bAl)
    have HS2 : Hid (ShS ((w10.alloc (.cells (stC g.s v).toArray 49)).alloc (.cells (stC g.s tv).toArray 49)) (fun _ => True) (.slice (some ⟨w10.heap.size + 1, 0, none⟩) 1 1) [g.s]) := Lh (by have h9 := ShS.built (JU.out.under9 (bRf.alloc nLe (.cells (stC g.s v).toArray 49))); rwa [show (w10.alloc (.cells (stC g.s v).toArray 49)).heap.size = w10.heap.size + 1 by simp] at h9)
    refine Lh ?_
    go_wp2_with (first
     | (refine wpList_ldW rfl 49 (.tmp 21) rfl G1 0 rfl (stC g.s v) JA.out.rg Tryz.underlying49 rfl info_st ?_)
     | (refine wpList_build1 rfl 47 49 (.tmp 67) rfl (stC g.s v) rfl (by show 0 < 17; omega) (by show 17 ≤ 2 ^ 24; decide) Tryz.underlying47 info_st (by kernel_rfl) ?_)
     | (refine wpList_ldW rfl 49 (.tmp 69) rfl G2 0 rfl (stC g.s tv) (rg_pre (a := stC g.s tv) (b := [.slice A5 g.l.length c5, .int .i64 (g.p : Int), .int .i64 g.r]) ((JM.out.under bAl).rg)) Tryz.underlying49 rfl info_st ?_)
     | (refine wpList_build1 rfl 47 49 (.tmp 70) rfl (stC g.s tv) rfl (by show 0 < 17; omega) (by show 17 ≤ 2 ^ 24; decide) Tryz.underlying47 info_st (by kernel_rfl) ?_)
     | (go_at_call 21; (with_reducible refine (HSMi.out _ _ _ _ _ HS1.out HS2.out).mono ?_); rintro e w11 ⟨rfl, b⟩; have hbx := bTr HBA b; have J := Lh (J.out.under hbx); have JM := Lh (JM.out.under hbx); clear b hbx; dsimp only; refine Hid.out ?_)
     | fail)
    have k18 : w11.cell? ⟨G2, 18, none⟩ = some (.int .i64 (g.p : Int)) := JM.out.at 18 rfl
    have hgp := HCE.out g.p _ J.out
    have HPOk := Lh (HPO.out g.p)
    have HPKk := Lh (HPK.out g.p)
    have HRPk : Hid (∀ W, GS9 X C w Rb g.p W → CP 23 #[.agg (ryC X).toArray, .int .i64 (g.p : Int)] W fun e w' => e = .returned (.int .i64 (X.R.ps g.p)) ∧ Below W.heap.size W w') := Lh fun W h => HRP.out g.p _ W (HCE.out _ _ h) h
    have HRAk : Hid (∀ W, GS9 X C w Rb g.p W → CP 14 #[.agg (ryC X).toArray, .int .i64 (g.p : Int)] W fun e w' => e = .returned (.string (X.R.wd g.p)) ∧ Below W.heap.size W w') := Lh fun W h => HRA.out g.p _ W (HCE.out _ _ h) h
    obtain ⟨pp, hpp⟩ : ∃ pp, X.R.ps g.p = pp := ⟨_, rfl⟩
    obtain ⟨sg, hsg⟩ : ∃ s, X.R.wd g.p = s := ⟨_, rfl⟩
    rw [hpp] at HPOk HRPk
    rw [hsg] at HPKk HRAk
    have hss : (sg.toList == sg.toList) = true := by simp
    clear hpp hsg HPO HPK HRP HRA HTK
    have J := Lh (J.out.under (below_drew _ _))
    refine Lh ?_
    go_wp2_with fail
    obtain ⟨q0, q1⟩ := KS.out _ _ J.out
    go_region_held3 (fun W => (W.cell? ⟨Rb, 0, none⟩ = some (.string X.T) ∧ W.cell? ⟨Rb, 1, none⟩ = some (.slice X.A X.L.length X.c))) (((try dsimp only); first | (with_reducible exact KS.out _ _ J.out) | ((repeat' apply And.intro) <;> first | (with_reducible assumption) | go_keep))) (first
     | (go_at_call 22; (with_reducible refine (HPOk.out _ J.out).mono ?_); rintro e wt ⟨rfl, b⟩; have J := Lh (J.out.under b); clear b; obtain ⟨q0, q1⟩ := KS.out _ _ J.out)
     | (go_at_call 23; (with_reducible refine (HRPk.out _ J.out).mono ?_); rintro e wt ⟨rfl, b⟩; have J := Lh (J.out.under b); clear b; obtain ⟨q0, q1⟩ := KS.out _ _ J.out)
     | (go_at_call 24; (with_reducible refine (HPKk.out _ J.out).mono ?_); rintro e wt ⟨rfl, b⟩; have J := Lh (J.out.under b); clear b; obtain ⟨q0, q1⟩ := KS.out _ _ J.out)
     | (go_at_call 14; (with_reducible refine (HRAk.out _ J.out).mono ?_); rintro e wt ⟨rfl, b⟩; have J := Lh (J.out.under b); clear b; obtain ⟨q0, q1⟩ := KS.out _ _ J.out)
     | (go_at_call 9; (with_reducible refine (HAW.out _ J.out.b).mono ?_); rintro e wt ⟨rfl, b⟩; have J := Lh (J.out.under b); clear b; obtain ⟨q0, q1⟩ := KS.out _ _ J.out)
     | fail)
    go_wp2
    go_ret
    exact ⟨rfl, J.out.b⟩
theorem stmtGoes_walk (A : Option Addr) (n c : Nat) (zs : List Int) (z d y : Int) (w : World) (hr : IsRow .u8 w A n c zs) (wz : (Lit.int .i64 z).wf) (wd : (Lit.int .i64 d).wf) (wy : (Lit.int .i64 y).wf) (hv : Vars w) :
  CP 3 #[.slice A n c, .int .i64 z, .int .i64 d, .int .i64 y] w fun e w' => e = .returned (.bool true) ∧ Below w.heap.size w w' := by
 obtain ⟨hnc, hcm, _, hx, hwf⟩ := hr.sh
 have hd : dOk d := by
  simp [Lit.wf, IntKind.min, IntKind.max, IntKind.signed, IntKind.bits] at wd
  exact ⟨by omega, by omega⟩
 by_cases h : 1000 < n
 ·exact stmtGoes_long A n c z d y w h (Nat.le_trans hnc hcm) hv
 ·exact stmtGoes_short A n c z d y hd (zs.take n) w h hx (byt8_of hwf) hnc hcm hv
end Go.Proofs.YtmnggldejflooaaGreatDoor

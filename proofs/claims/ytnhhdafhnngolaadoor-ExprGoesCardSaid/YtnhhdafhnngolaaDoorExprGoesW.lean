/-
  blazonlaw08.ExprGoes is true for every input: from any token of any bytes on, a cursor reads the expression there, and stands behind it, or at the error, as the document says.
  Conditions: package-level variables start as the program's text lays them; none beyond.
-/
import Derived.Test.YtnhhdafhnngolaaDoorEqT
import Derived.Test.YtnhhdafhnngolaaDoorStM
import Derived.Test.YtnhhdafhnngolaaDoorEpX
import Derived.Test.YtnhhdafhnngolaaDoorEpI
import Derived.Test.YtnhhdafhnngolaaDoorEpS
import Derived.Test.YtnhhdafhnngolaaDoorPick
import Derived.Test.YtnhhdafhnngolaaDoorHeldS
import Derived.Laws.Concat
namespace Go.Proofs.YtnhhdafhnngolaaDoor
set_option linter.unusedVariables false
set_option linter.unusedSimpArgs false
open Go.RowKit

/-- A row and a cursor over the same words. -/
structure GS (T : ByteArray) (Ls : List Tk) (XA : Option Addr) (Xc : Nat) (C : Cx) (w : World) (Rb p : Nat) (W : World) : Prop where
  b : Below w.heap.size w W
  r : Var W Rb [.string T, .slice XA Ls.length Xc]
  t : ShT W C.g XA Ls.length Ls
  c : Cur C W p
  o : w.heap.size ≤ Rb ∧ Rb < C.g
section
variable {T : ByteArray} {Ls : List Tk} {XA : Option Addr} {Xc : Nat} {C : Cx} {w : World} {Rb p : Nat} {W W' : World}
theorem GS.under (h : GS T Ls XA Xc C w Rb p W) (hb : Below W.heap.size W W') : GS T Ls XA Xc C w Rb p W' :=
  ⟨h.b.trans (hb.mono h.b.size), h.r.under hb, h.t.up hb (Nat.le_of_lt h.c.lt), h.c.under hb, h.o⟩
theorem GS.move {q : Nat} (h : GS T Ls XA Xc C w Rb p W) (hc : Cur C W' q) (hg : W.grownBy W' (some C.g)) : GS T Ls XA Xc C w Rb q W' :=
  ⟨bel_own h.b hg (fun j e => by injection e with e; have := h.o; omega) h.b.size, h.r.keep (hg.block Rb h.r.lt (by intro e; injection e; have := h.o; omega)) hg.size, h.t.keep (fun b hb => hg.block b (Nat.lt_trans hb h.c.lt) (by intro e; injection e; omega)), hc, h.o⟩
theorem GS.in_ (h : GS T Ls XA Xc C w Rb p W) (hok : TokOk T Ls) : (⟨T, XA, Xc, Ls⟩ : Ry).In W W.heap.size := ⟨h.t.more (Nat.le_of_lt h.c.lt), hok⟩
end
structure GT2 (T : ByteArray) (Ls : List Tk) (XA : Option Addr) (Xc : Nat) (C : Cx) (w : World) (Rb gp : Nat) (ge : Ex) (lv kv : Value) (gr : Int) (G1 G2 : Nat) (W : World) : Prop where
  g : GS T Ls XA Xc C w Rb gp W
  s1 : Var W G1 (exC ge lv)
  s2 : Var W G2 (gC ge kv (gp : Int) gr)
  x1 : Shx W (fun _ => True) lv ge.l
  x2 : Shx W (fun _ => True) kv ge.l
theorem GT2.under {T : ByteArray} {Ls : List Tk} {XA : Option Addr} {Xc : Nat} {C : Cx} {w : World} {Rb gp : Nat} {ge : Ex} {lv kv : Value} {gr : Int} {G1 G2 : Nat} {W W' : World} (h : GT2 T Ls XA Xc C w Rb gp ge lv kv gr G1 G2 W) (hb : Below W.heap.size W W') : GT2 T Ls XA Xc C w Rb gp ge lv kv gr G1 G2 W' :=
  ⟨h.g.under hb, h.s1.under hb, h.s2.under hb, h.x1.under hb (fun b _ h => by assumption), h.x2.under hb (fun b _ h => by assumption)⟩
theorem info_rw2 : (Tryd.prog.info? 39).map (·.size) = some 2 := by kernel_rfl
theorem app_ne (s : ByteArray) : (s.toList == (s ++ ⟨#[120]⟩).toList) = false := by
  rw [beq_eq_false_iff_ne]
  intro h
  have := congrArg List.length h
  rw [ByteArray.toList_eq, ByteArray.toList_eq] at this
  simp at this
theorem live_word {T : ByteArray} {bs : List Int} (hb : bts T = bs) {i : Nat} (hi : i < (live bs 0).length) : ((rowT T (live bs 0)).wd i).size ≠ 0 := by
  have hs : T.size = bs.length := by rw [← hb, bts_len]
  have hp := List.getElem?_eq_getElem hi
  have hw : (rowT T (live bs 0)).wd i = T.extract ((live bs 0)[i]).2.1.toNat ((live bs 0)[i]).2.2.toNat := by
    show wdT T (live bs 0) i = _
    simp only [wdT, hp]
  rw [hw]
  obtain ⟨v, hv, he⟩ := mem_live (List.getElem_mem hi)
  rw [he]
  have h1 := tl_in hv
  have h2 := tl_pos (bs.drop v)
  show (T.extract v (v + tl (bs.drop v))).size ≠ 0
  rw [ByteArray.size_extract]
  omega

set_option maxRecDepth 100000 in
theorem exprGoes_long (A : Option Addr) (n c : Nat) (z : Int) (w : World) (h : 1000 < n) (hm : n ≤ maxLen) (hv : Vars w) :
    Calls Tryd.prog 4 #[.slice A n c, .int .i64 z] w fun e w' => e = .returned (.bool true) ∧ Below w.heap.size w w' := by
  unfold maxLen at hm
  have hlt : (1000 : Int) < (n : Int) := by omega
  go_enter Tryd.func4, Tryd.ntmps4
  go_wp2_with (go_at_call 10; refine (awake_any _ hv).mono ?_; rintro e w1 ⟨rfl, b1⟩)
  go_ret
  exact ⟨rfl, b1⟩

set_option maxRecDepth 100000 in
set_option maxHeartbeats 3200000 in
theorem exprGoes_short (A : Option Addr) (m c : Nat) (z : Int) (bs : List Int) (w : World) (h : ¬ 1000 < m) (hx : Sh w w.heap.size A m (by8 bs)) (hb : Byt8 bs) (hnc : m ≤ c) (hcm : c ≤ maxLen) (hv : Vars w) :
    Calls Tryd.prog 4 #[.slice A m c, .int .i64 z] w fun e w' => e = .returned (.bool true) ∧ Below w.heap.size w w' := by
  have hz := zeroEx'
  have hzr := zeroRow
  have hzg := zeroGot
  have hl : bs.length = m := by have := hx.len; rwa [by8_len] at this
  have hlt : ¬ (1000 : Int) < (m : Int) := by omega
  have hvs := hv.size
  have HAW : Hid (∀ W, Below w.heap.size w W → Calls Tryd.prog 10 #[] W fun e w' => e = .returned (.bool true) ∧ Below W.heap.size W w') := Lib.hid fun W hW => awake_any W (hv.under hW hvs)
  have hsz : (strOfNums bs).size = m := by rw [strOfNums_size, hl]
  have hbt := bts_str hb
  have hll := live_len bs
  have hok : TokOk (strOfNums bs) (live bs 0) := live_ok hbt (by omega)
  obtain ⟨n, hn⟩ : ∃ n, (live bs 0).length = n := ⟨_, rfl⟩
  have hnm : n ≤ m := by omega
  have HNW : Hid (∀ W, Calls Tryd.prog 18 #[.string (strOfNums bs)] W fun e w' => ∃ XA Xc, e = .returned (.agg #[.string (strOfNums bs), .slice XA n Xc]) ∧ ShT w' w'.heap.size XA n (live bs 0) ∧ Below W.heap.size W w') := Lib.hid fun W => (rNew_any (strOfNums bs) bs W hbt (by omega)).mono fun e w' ⟨X, h1, h2, h3, h4, h5⟩ => by
    obtain ⟨T, XA, Xc, Ls⟩ := X
    dsimp only at h2 h3
    subst h2
    subst h3
    rw [← hn]
    exact ⟨XA, Xc, h1, h4.1, h5⟩
  have HXN : Hid (∀ W, Below w.heap.size w W → Calls Tryd.prog 19 #[.slice A m c] W fun e w' => ∃ C : Cx, e = .returned C.ptr ∧ C.T = strOfNums bs ∧ C.L = live bs 0 ∧ Cur C w' 0 ∧ Below W.heap.size W w' ∧ W.heap.size ≤ C.g) := Lib.hid fun W hW => (new_any A m c bs W ((hx.below hW).more hW.size) (by omega) hnc hcm (hv.under hW hvs)).mono fun e w' ⟨C, h1, h2, h3, h4, h5, h6, _⟩ => ⟨C, h1, h2, h3, h4, h5, h6⟩
  have HPI : Hid (∀ W, Calls Tryd.prog 20 #[.int .i64 z, .int .i64 ((n : Int) + 1)] W (Picked (n + 1) W)) := Lib.hid fun W => pick_any z (n + 1) W (by omega) (by omega)
  have HX := Lib.hid (fun w' (b : Below w.heap.size w w') => hx.below b)
  have HFIT : Hid (∀ XA Xc, (⟨strOfNums bs, XA, Xc, live bs 0⟩ : Ry).Fit) := Lib.hid fun XA Xc => ⟨fun i => wd_size hok i, fun i hi => live_dig hbt i hi⟩
  have HDG : Hid (∀ C : Cx, C.T = strOfNums bs → C.L = live bs 0 → DigOk C) := Lib.hid fun C h1 h2 p hp => by
    have hR : C.R = rowT (strOfNums bs) (live bs 0) := by show rowT C.T C.L = _; rw [h1, h2]
    rw [hR] at hp ⊢
    exact live_dig hbt p hp
  have HWS : Hid (∀ i, i < n → ((rowT (strOfNums bs) (live bs 0)).wd i).size ≠ 0) := Lib.hid fun i hi => live_word hbt (by omega)
  have HOK := Lib.hid hok
  have HN := Lib.hid hn
  obtain ⟨T, hT⟩ : ∃ T, strOfNums bs = T := ⟨_, rfl⟩
  have HCV : Hid (∀ w' c, Below w.heap.size w w' → (convert 22 9 (.slice A m c)).run Tryd.prog w' = .ok (.string T) w') := Lib.hid fun w' c b => by
    rw [← hT]
    exact convert_sh (HX.out _ b) c
  obtain ⟨Ls, hLs⟩ : ∃ Ls, live bs 0 = Ls := ⟨_, rfl⟩
  rw [hT, hLs] at HNW HXN HFIT HDG HWS HOK
  rw [hLs] at HN
  have hcv := HCV.out w c (Below.refl _ _)
  have HB := Lib.hid (Below.refl w.heap.size w)
  have hzst : ∀ XA Xc, ∀ u ∈ [Value.string T, .slice XA n Xc], u.oneCell' = true := by
    intro XA Xc u hu
    simp at hu
    rcases hu with rfl | rfl <;> rfl
  have HZ := Lib.hid hzst
  have HTS := Lib.hid (show T.size = m by rw [← hT]; exact hsz)
  clear hl hx hb hv hsz hbt hll hok hn hT hLs hzst HX HCV
  go_enter Tryd.func4, Tryd.ntmps4
  go_wp2_with (first
    | (go_at_call 18; refine (HNW.out _).mono ?_; rintro e w3 ⟨XA, Xc, rfl, hXt, b⟩; have HB := Lib.hid (HB.out.trans (b.mono HB.out.size)); have JI := Lib.hid hXt; clear b hXt; dsimp only; refine Hid.out ?_)
    | fail)
  refine Lib.hid ?_
  go_wp2_with (first
    | (refine wpList_stV rfl 39 (.tmp 5) (.tmp 21) rfl (G := w3.heap.size) (off := 0) rfl (us := [.string T, .slice XA n Xc]) (Var.new w3 [.string ⟨#[]⟩, .slice none 0 0] 39 rfl) rfl info_rw2 (Nat.le_refl 2) (HZ.out _ _) ?_; intro w4 ht hs; have ta := Tn.alloc (fun k => k = w3.heap.size) w3 (.cells #[.string ⟨#[]⟩, .slice none 0 0] 39); have bb := (ta.trans ht).below (Nat.le_refl _) (by intro k hk e; omega); have hs3 := HB.out.size; have HB := Lib.hid (HB.out.trans (bb.mono HB.out.size)); have JI := Lib.hid (JI.out.up bb (Nat.le_refl _)); have JR := Lib.hid (show Var w4 w3.heap.size [.string T, .slice XA n Xc] from hs); have hs4 := ht.size; rw [row_size] at hs4; clear ht hs ta bb)
    | (go_at_call 19; refine (HXN.out _ HB.out).mono ?_; rintro e w5 ⟨C, rfl, hCT, hCL, hc, b, hg⟩; have HB := Lib.hid (HB.out.trans (b.mono HB.out.size)); have JI := Lib.hid (JI.out.up b (by omega)); have JR := Lib.hid (JR.out.under b); have JC := Lib.hid hc; clear b hc; dsimp only; refine Hid.out ?_)
    | fail)
  obtain ⟨Rb, hRb⟩ : ∃ Rb, w3.heap.size = Rb := ⟨_, rfl⟩
  rw [hRb] at JR JI hs4 ⊢
  have JR1 := JR.out.at 1 (v := .slice XA n Xc) rfl
  have J : Hid (GS T Ls XA Xc C w Rb 0 w5) := Lib.hid ⟨HB.out, by rw [HN.out]; exact JR.out, by rw [HN.out]; exact JI.out.more (by omega), JC.out, by omega⟩
  have hR : C.R = rowT T Ls := by show rowT C.T C.L = _; rw [hCT, hCL]
  have hCo : TokOk C.T C.L := by rw [hCT, hCL]; exact HOK.out
  have HDI := Lib.hid (HDG.out C hCT hCL)
  have hCn : C.L.length = n := by rw [hCL]; exact HN.out
  have HPK : Hid (∀ p W, GS T Ls XA Xc C w Rb p W → Calls Tryd.prog 22 #[C.ptr] W fun e w' => e = .returned (.string ((rowT T Ls).wd p)) ∧ Below W.heap.size W w') := Lib.hid fun p W h => by rw [← hR]; exact peek_any C hCo p W h.c
  have HPO : Hid (∀ p W, GS T Ls XA Xc C w Rb p W → Calls Tryd.prog 23 #[C.ptr] W fun e w' => e = .returned (.int .i64 ((rowT T Ls).ps p)) ∧ Below W.heap.size W w') := Lib.hid fun p W h => by rw [← hR]; exact pos_any C hCo p W h.c
  have HKD : Hid (∀ p W, GS T Ls XA Xc C w Rb p W → Calls Tryd.prog 25 #[C.ptr] W fun e w' => e = .returned (.int .i64 ((rowT T Ls).kd p)) ∧ Below W.heap.size W w') := Lib.hid fun p W h => by rw [← hR]; exact kind_any C hCo p W h.c
  have HDN : Hid (∀ p W, GS T Ls XA Xc C w Rb p W → Calls Tryd.prog 26 #[C.ptr] W fun e w' => e = .returned (.bool (decide (p = n))) ∧ Below W.heap.size W w') := Lib.hid fun p W h => by rw [← hCn]; exact (done_any C hCo p W h.c).mono fun e w' hh => ⟨hh.1, hh.2.below _⟩
  have HEN : Hid (∀ p W, GS T Ls XA Xc C w Rb p W → Calls Tryd.prog 30 #[C.ptr] W fun e w' => e = .returned (.int .i64 ((rowT T Ls).en p)) ∧ Below W.heap.size W w') := Lib.hid fun p W h => by rw [← hR]; exact en_any C hCo p W h.c
  have HTK : Hid (∀ p W s, s.size ≠ 0 → GS T Ls XA Xc C w Rb p W → Calls Tryd.prog 27 #[C.ptr, .string s] W (TakeTo C p ((rowT T Ls).is p s.toList) W)) := Lib.hid fun p W s hs h => by rw [← hR]; exact takeL C hCo p W h.c s hs
  have HTN : Hid (∀ p W, GS T Ls XA Xc C w Rb p W → Calls Tryd.prog 27 #[C.ptr, .string ⟨#[]⟩] W fun e w' => e = .returned (.bool false) ∧ Below W.heap.size W w') := Lib.hid fun p W h => (takeNone_any C hCo p W h.c).mono fun e w' hh => ⟨hh.1, by rw [hh.2]; exact Below.refl _ _⟩
  have HIC : Hid (∀ p W, GS T Ls XA Xc C w Rb p W → Calls Tryd.prog 28 #[C.ptr] W fun e w' => e = .returned (.tuple #[.string (if (rowT T Ls).idn p = true then (rowT T Ls).wd p else ⟨#[]⟩), .bool ((rowT T Ls).idn p)]) ∧ Cur C w' (if (rowT T Ls).idn p = true then p + 1 else p) ∧ W.grownBy w' (some C.g)) := Lib.hid fun p W h => by rw [← hR]; exact identC_any C hCo p W h.c
  have HRA : Hid (∀ p W, p ≤ n → GS T Ls XA Xc C w Rb p W → Calls Tryd.prog 21 #[.agg #[.string T, .slice XA n Xc], .int .i64 (p : Int)] W fun e w' => e = .returned (.string ((rowT T Ls).wd p)) ∧ Below W.heap.size W w') := Lib.hid fun p W hp h => by
    have := rAt_any ⟨T, XA, Xc, Ls⟩ p W (h.in_ HOK.out) (by omega)
    rw [show (⟨T, XA, Xc, Ls⟩ : Ry).val = .agg #[.string T, .slice XA n Xc] by show Value.agg #[.string T, .slice XA Ls.length Xc] = _; rw [HN.out]] at this
    exact this
  have HRP : Hid (∀ p W, p ≤ n → GS T Ls XA Xc C w Rb p W → Calls Tryd.prog 24 #[.agg #[.string T, .slice XA n Xc], .int .i64 (p : Int)] W fun e w' => e = .returned (.int .i64 ((rowT T Ls).ps p)) ∧ Below W.heap.size W w') := Lib.hid fun p W hp h => by
    have := rPos_any ⟨T, XA, Xc, Ls⟩ p W (h.in_ HOK.out) (by omega)
    rw [show (⟨T, XA, Xc, Ls⟩ : Ry).val = .agg #[.string T, .slice XA n Xc] by show Value.agg #[.string T, .slice XA Ls.length Xc] = _; rw [HN.out]] at this
    exact this
  have HRE : Hid (∀ p q W, p ≤ n → GS T Ls XA Xc C w Rb q W → Calls Tryd.prog 32 #[.agg #[.string T, .slice XA n Xc], .int .i64 (p : Int), .int .i64 1, .int .i64 0] W (RgTo W (rd (rowT T Ls) (16 * n + 9) (.lev 1) p 0))) := Lib.hid fun p q W hp h => by
    have := (rall_step ⟨T, XA, Xc, Ls⟩ (HFIT.out XA Xc) (16 * n + 9)).1 1 0 p W (by omega) (by omega) (by omega) (by show p ≤ Ls.length; rw [HN.out]; exact hp) (h.in_ HOK.out) (by show 16 * (Ls.length - p) + (10 - 1) ≤ _; rw [HN.out]; omega)
    rw [show (⟨T, XA, Xc, Ls⟩ : Ry).val = .agg #[.string T, .slice XA n Xc] by show Value.agg #[.string T, .slice XA Ls.length Xc] = _; rw [HN.out]] at this
    exact this
  have HXE : Hid (∀ p W, p ≤ n → GS T Ls XA Xc C w Rb p W → Calls Tryd.prog 31 #[C.ptr] W (RdTo C W (rd (rowT T Ls) (16 * n + 9) (.lev 1) p 0))) := Lib.hid fun p W hp h => by
    rw [← hR]
    exact expr_any C hCo HDI.out (16 * n + 9) p W h.c (by omega)
  have HWZ : Hid (∀ i, ((rowT T Ls).wd i).size ≤ 1000000) := Lib.hid fun i => wd_size HOK.out i
  have HEQ : Hid (∀ i t, Ls[i]? = some t → (rowT T Ls).en (i + 1) = t.2.2 ∧ (rowT T Ls).kd i = t.1) := Lib.hid fun i t ht => by
    rw [← hCL] at ht
    have h1 := C.en_eq hCo i ht
    have h2 := (C.tok_ps i).2
    rw [hR] at h1 h2
    refine ⟨h1, ?_⟩
    rw [← h2]
    unfold Cx.tok
    rw [ht]
  clear HNW HXN HFIT HDG hCT hCL hCo hCn hRb JR JI JC HB hcv hs3 hs4 hg HDI
  refine Lib.hid ?_
  go_wp2_with (first
    | (go_at_call 20; refine (HPI.out _).mono ?_; rintro e w6 ⟨k, hk, rfl, rfl⟩; dsimp only; refine Hid.out ?_)
    | fail)
  have hkn : k ≤ n := by omega
  clear hk JR1
  refine Lib.hid ?_
  go_wp2_with fail
  go_loopw [8] (fun iv wr => ∃ i : Nat, iv = .int .i64 (i : Int) ∧ i ≤ k ∧ GS T Ls XA Xc C w Rb i wr) (fun iv _ => k - (intOf iv).toNat)
  case atStart => exact ⟨0, rfl, Nat.zero_le _, J.out⟩
  case round =>
    obtain ⟨i, rfl, hi, hJ⟩ := hrel
    clear J
    have J := Lib.hid hJ
    clear hJ
    by_cases hik : i < k
    · obtain ⟨tb, to_, t, hA, htb, ht, d0, d1, d2⟩ := J.out.t.at (k := i) (by rw [HN.out]; omega)
      obtain ⟨hte, htk⟩ := HEQ.out i t ht
      have HA := Lib.hid hA
      have KS : Hid (∀ W p, GS T Ls XA Xc C w Rb p W → (W.cell? ⟨Rb, 0, none⟩ = some (.string T) ∧ W.cell? ⟨Rb, 1, none⟩ = some (.slice (some ⟨tb, to_, none⟩) n Xc) ∧ W.cell? ⟨tb, to_ + i * 3, none⟩ = some (.int .i64 t.1) ∧ W.cell? ⟨tb, to_ + i * 3 + 1, none⟩ = some (.int .i64 t.2.1) ∧ W.cell? ⟨tb, to_ + i * 3 + 2, none⟩ = some (.int .i64 t.2.2))) := Lib.hid fun W p h => by
        obtain ⟨b', o', e, hb', hc⟩ := h.t.2 (by rw [HN.out]; omega)
        rw [HA.out] at e
        injection e with e
        injection e with e1 e2
        subst e1
        subst e2
        obtain ⟨c0, c1, c2⟩ := hc i t ht
        have h1 := h.r.at 1 (v := .slice XA Ls.length Xc) rfl
        rw [HN.out, HA.out] at h1
        exact ⟨h.r.at 0 rfl, h1, c0, c1, c2⟩
      obtain ⟨s, hs⟩ : ∃ s, (rowT T Ls).wd i = s := ⟨_, rfl⟩
      have hss : (s.toList == s.toList) = true := by simp
      have hsz := HWZ.out i
      have hs0 := HWS.out i (by omega)
      have hPK := HPK.out i
      have hRA := HRA.out i
      have hPO := HPO.out i
      have hRP := HRP.out i
      have hKD := HKD.out i
      have hDN := HDN.out i
      have hEN1 := HEN.out (i + 1)
      have hTX := HTK.out i
      have hIC := HIC.out i
      rw [show decide (i = n) = false by simp; omega] at hDN
      rw [htk] at hKD
      rw [hte] at hEN1
      rw [hs] at hPK hRA hsz hs0 hIC
      have HPKi := Lib.hid hPK
      have HRAi : Hid (∀ W, GS T Ls XA Xc C w Rb i W → Calls Tryd.prog 21 #[.agg #[.string T, .slice XA n Xc], .int .i64 (i : Int)] W fun e w' => e = .returned (.string s) ∧ Below W.heap.size W w') := Lib.hid fun W h => hRA W (by omega) h
      have HPOi := Lib.hid hPO
      have HRPi : Hid (∀ W, GS T Ls XA Xc C w Rb i W → Calls Tryd.prog 24 #[.agg #[.string T, .slice XA n Xc], .int .i64 (i : Int)] W fun e w' => e = .returned (.int .i64 ((rowT T Ls).ps i)) ∧ Below W.heap.size W w') := Lib.hid fun W h => hRP W (by omega) h
      have HKDi := Lib.hid hKD
      have HDNi := Lib.hid hDN
      have HENi := Lib.hid hEN1
      have HTNi := Lib.hid (HTN.out i)
      have HTXi : Hid (∀ W, GS T Ls XA Xc C w Rb i W → Calls Tryd.prog 27 #[C.ptr, .string (s ++ ⟨#[120]⟩)] W fun e w' => e = .returned (.bool false) ∧ Below W.heap.size W w') := Lib.hid fun W h => by
        have h1 := hTX W (s ++ ⟨#[120]⟩) (by rw [ByteArray.size_append]; show s.size + 1 ≠ 0; omega) h
        have h2 : (rowT T Ls).is i (s ++ ⟨#[120]⟩).toList = false := by unfold Rw.is; rw [hs]; exact app_ne s
        rw [h2] at h1
        exact h1.mono fun e w' hh => ⟨hh.1, hh.2.2.2 rfl⟩
      have HTSi : Hid (∀ W, GS T Ls XA Xc C w Rb i W → Calls Tryd.prog 27 #[C.ptr, .string s] W fun e w' => e = .returned (.bool true) ∧ Cur C w' (i + 1) ∧ W.grownBy w' (some C.g)) := Lib.hid fun W h => by
        have h1 := hTX W s hs0 h
        have h2 : (rowT T Ls).is i s.toList = true := by unfold Rw.is; rw [hs]; exact hss
        rw [h2] at h1
        exact h1.mono fun e w' hh => ⟨hh.1, hh.2.1, hh.2.2.1⟩
      have HICi := Lib.hid hIC
      have HRIi : Hid (∀ W, Calls Tryd.prog 29 #[.string s] W fun e w' => e = .returned (.bool ((rowT T Ls).idn i)) ∧ Below W.heap.size W w') := Lib.hid fun W => by
        have := rident_any s W hsz
        rwa [show idB s = (rowT T Ls).idn i by rw [← hs]; rfl] at this
      have hin : (i : Int) < (n : Int) := by omega
      obtain ⟨pp, hpp⟩ : ∃ pp, (rowT T Ls).ps i = pp := ⟨_, rfl⟩
      obtain ⟨bi, hbi⟩ : ∃ bi, (rowT T Ls).idn i = bi := ⟨_, rfl⟩
      rw [hpp] at HPOi HRPi
      rw [hbi] at HICi HRIi
      subst hA
      clear hs hs0 hPK hRA hPO hRP hKD hDN hEN1 hTX hIC htk hte ht hpp hbi d0 d1 d2 HA htb
      have q0 := J.out.r.at 0 (v := .string T) rfl
      have q1 : wr.cell? ⟨Rb, 1, none⟩ = some (.slice (some ⟨tb, to_, none⟩) n Xc) := (KS.out _ _ J.out).2.1
      have HD3 := Lib.hid (J.out.under (below_drew wr wr.heap.size))
      have htm : (i : Int).tmod 2 = (i : Int) % 2 := Int.tmod_eq_emod_of_nonneg (by omega)
      have hcat1 : ¬ 9223372036854775807 < s.size + 1 := by omega
      have hcat2 : ¬ 9223372036854775807 ≤ s.size := by omega
      have hcat : ∀ W : World, (Op.stringOp .add s ⟨#[120]⟩).run Tryd.prog W = .ok (.string (s ++ ⟨#[120]⟩)) W := fun W => run_string_add_sum W s ⟨#[120]⟩ (by show s.size + 1 ≤ _; omega)
      have hwr : IntKind.i64.wrap ((i : Int) % 2) = (i : Int) % 2 := IntWalk.i64_in _ (by omega)
      by_cases he : (i : Int) % 2 = 0
      · have he1 : ((i : Int) % 2 == 0) = true := by simp [he]
        have he2 : decide ((i : Int) % 2 = 0) = true := by simp [he]
        cases bi with
        | true =>
          have HICi : Hid (∀ W, GS T Ls (some ⟨tb, to_, none⟩) Xc C w Rb i W → Calls Tryd.prog 28 #[C.ptr] W fun e w' => e = .returned (.tuple #[.string s, .bool true]) ∧ Cur C w' (i + 1) ∧ W.grownBy w' (some C.g)) := Lib.hid fun W h => (HICi.out W h).mono fun e w' hh => by simpa using hh
          go_wp2_with (first
            | (refine wpList_ldV rfl 39 (.tmp 5) rfl Rb 0 rfl [.string T, .slice (some ⟨tb, to_, none⟩) n Xc] (by have h := J.out.r.rg; rwa [HN.out] at h) Tryd.underlying39 rfl info_rw2 ?_)
            | (go_at_call 21; (with_reducible refine (HRAi.out _ J.out).mono ?_); rintro e wt ⟨rfl, b⟩; have J := Lib.hid (J.out.under b); clear b; dsimp only)
            | fail)
          have J := Lib.hid (J.out.under (below_drew _ _))
          obtain ⟨q0, q1, q2, q3, q4⟩ := KS.out _ _ J.out
          go_region_held3 (fun W => (W.cell? ⟨Rb, 0, none⟩ = some (.string T) ∧ W.cell? ⟨Rb, 1, none⟩ = some (.slice (some ⟨tb, to_, none⟩) n Xc) ∧ W.cell? ⟨tb, to_ + i * 3, none⟩ = some (.int .i64 t.1) ∧ W.cell? ⟨tb, to_ + i * 3 + 1, none⟩ = some (.int .i64 t.2.1) ∧ W.cell? ⟨tb, to_ + i * 3 + 2, none⟩ = some (.int .i64 t.2.2))) (((try dsimp only); first | (with_reducible exact KS.out _ _ J.out) | ((repeat' apply And.intro) <;> first | (with_reducible assumption) | go_keep))) (first
            | (go_at_call 22; (with_reducible refine (HPKi.out _ J.out).mono ?_); rintro e wt ⟨rfl, b⟩; have J := Lib.hid (J.out.under b); clear b; obtain ⟨q0, q1, q2, q3, q4⟩ := KS.out _ _ J.out)
            | (go_at_call 23; (with_reducible refine (HPOi.out _ J.out).mono ?_); rintro e wt ⟨rfl, b⟩; have J := Lib.hid (J.out.under b); clear b; obtain ⟨q0, q1, q2, q3, q4⟩ := KS.out _ _ J.out)
            | (go_at_call 24; (with_reducible refine (HRPi.out _ J.out).mono ?_); rintro e wt ⟨rfl, b⟩; have J := Lib.hid (J.out.under b); clear b; obtain ⟨q0, q1, q2, q3, q4⟩ := KS.out _ _ J.out)
            | (go_at_call 25; (with_reducible refine (HKDi.out _ J.out).mono ?_); rintro e wt ⟨rfl, b⟩; have J := Lib.hid (J.out.under b); clear b; obtain ⟨q0, q1, q2, q3, q4⟩ := KS.out _ _ J.out)
            | (go_at_call 26; (with_reducible refine (HDNi.out _ J.out).mono ?_); rintro e wt ⟨rfl, b⟩; have J := Lib.hid (J.out.under b); clear b; obtain ⟨q0, q1, q2, q3, q4⟩ := KS.out _ _ J.out)
            | (go_at_call 27; (with_reducible refine (HTNi.out _ J.out).mono ?_); rintro e wt ⟨rfl, b⟩; have J := Lib.hid (J.out.under b); clear b; obtain ⟨q0, q1, q2, q3, q4⟩ := KS.out _ _ J.out)
            | (go_at_call 27; (with_reducible refine (HTXi.out _ J.out).mono ?_); rintro e wt ⟨rfl, b⟩; have J := Lib.hid (J.out.under b); clear b; obtain ⟨q0, q1, q2, q3, q4⟩ := KS.out _ _ J.out)
            | fail)
          go_wp2_with (first
            | (go_at_call 28; (with_reducible refine (HICi.out _ J.out).mono ?_); rintro e wt ⟨rfl, hc, hg⟩; have J := Lib.hid (J.out.move (q := i + 1) hc hg); clear hc hg; dsimp only)
            | fail)
          have J := Lib.hid (J.out.under (below_drew _ _))
          obtain ⟨q0, q1, q2, q3, q4⟩ := KS.out _ _ J.out
          obtain ⟨S, hSd⟩ : ∃ S : World → Prop, S = fun W => (W.cell? ⟨Rb, 0, none⟩ = some (.string T) ∧ W.cell? ⟨Rb, 1, none⟩ = some (.slice (some ⟨tb, to_, none⟩) n Xc) ∧ W.cell? ⟨tb, to_ + i * 3, none⟩ = some (.int .i64 t.1) ∧ W.cell? ⟨tb, to_ + i * 3 + 1, none⟩ = some (.int .i64 t.2.1) ∧ W.cell? ⟨tb, to_ + i * 3 + 2, none⟩ = some (.int .i64 t.2.2)) := ⟨_, rfl⟩
          have HS : Hid (∀ W p, GS T Ls (some ⟨tb, to_, none⟩) Xc C w Rb p W → S W) := Lib.hid fun W p h => by rw [hSd]; exact KS.out W p h
          have hSF : ∀ W, S W → (W.cell? ⟨Rb, 0, none⟩ = some (.string T) ∧ W.cell? ⟨Rb, 1, none⟩ = some (.slice (some ⟨tb, to_, none⟩) n Xc) ∧ W.cell? ⟨tb, to_ + i * 3, none⟩ = some (.int .i64 t.1) ∧ W.cell? ⟨tb, to_ + i * 3 + 1, none⟩ = some (.int .i64 t.2.1) ∧ W.cell? ⟨tb, to_ + i * 3 + 2, none⟩ = some (.int .i64 t.2.2)) := by rw [hSd]; exact fun W h => h
          have s0 : ∀ s : SW S, s.w.cell? ⟨Rb, 0, none⟩ = some (.string T) := fun s => (hSF _ s.h).1
          have s1 : ∀ s : SW S, s.w.cell? ⟨Rb, 1, none⟩ = some (.slice (some ⟨tb, to_, none⟩) n Xc) := fun s => (hSF _ s.h).2.1
          have s2 : ∀ s : SW S, s.w.cell? ⟨tb, to_ + i * 3, none⟩ = some (.int .i64 t.1) := fun s => (hSF _ s.h).2.2.1
          have s3 : ∀ s : SW S, s.w.cell? ⟨tb, to_ + i * 3 + 1, none⟩ = some (.int .i64 t.2.1) := fun s => (hSF _ s.h).2.2.2.1
          have s4 : ∀ s : SW S, s.w.cell? ⟨tb, to_ + i * 3 + 2, none⟩ = some (.int .i64 t.2.2) := fun s => (hSF _ s.h).2.2.2.2
          have hS0 := HS.out _ _ J.out
          clear hSd hSF q0 q1 q2 q3 q4
          refine regionH_start (by kernel_rfl) 38 rfl S 37 ?_
          refine wpL_next 0 6 32 (by kernel_rfl) (fun _ _ d _ _ h => by cases d <;> exact h) hS0 (fun hne => ?_)
          simp only [List.drop_succ_cons, List.drop_zero, List.take_succ_cons, List.take_zero]
          repeat (go_big_quiet_step (fail))
          refine wpQuiet_nil ?_
          refine wpL_one (i := 6) (fuel := 31) (by kernel_rfl) rfl (fun KK hKK => ?_)
          go_simp
          refine (HRIi.out _).mono ?_
          rintro e wt ⟨rfl, b⟩
          have J := Lib.hid (J.out.under b)
          clear b hS0
          have hS0 := HS.out _ _ J.out
          refine hKK _ _ hS0 ?_
          clear hKK KK
          refine wpL_next 7 16 15 (by kernel_rfl) (fun _ _ d _ _ h => by cases d <;> exact h) hS0 (fun hne => ?_)
          simp only [List.drop_succ_cons, List.drop_zero, List.take_succ_cons, List.take_zero]
          repeat (go_big_quiet_step (fail))
          refine wpQuiet_nil ?_
          refine wpL_one (i := 23) (fuel := 14) (by kernel_rfl) rfl (fun KK hKK => ?_)
          go_simp
          have hS0 := HS.out _ _ J.out
          refine hKK _ _ hS0 ?_
          clear hKK KK
          refine wpL_next 24 5 9 (by kernel_rfl) (fun _ _ d _ _ h => by cases d <;> exact h) hS0 (fun hne => ?_)
          simp only [List.drop_succ_cons, List.drop_zero, List.take_succ_cons, List.take_zero]
          repeat (go_big_quiet_step (fail))
          refine wpQuiet_nil ?_
          refine wpL_next 30 6 3 (by kernel_rfl) (fun _ _ d _ _ h => by cases d <;> exact h) hS0 (fun hne => ?_)
          simp only [List.drop_succ_cons, List.drop_zero, List.take_succ_cons, List.take_zero]
          repeat (go_big_quiet_step (fail))
          refine wpQuiet_nil ?_
          refine wpL_one (i := 29) (fuel := 2) (by kernel_rfl) rfl (fun KK hKK => ?_)
          go_simp
          refine (HENi.out _ J.out).mono ?_
          rintro e wt ⟨rfl, b⟩
          have J := Lib.hid (J.out.under b)
          clear b hS0
          have hS0 := HS.out _ _ J.out
          refine hKK _ _ hS0 ?_
          clear hKK KK
          refine wpL_next 36 1 1 (by kernel_rfl) (fun _ _ d _ _ h => by cases d <;> exact h) hS0 (fun hne => ?_)
          simp only [List.drop_succ_cons, List.drop_zero, List.take_succ_cons, List.take_zero]
          repeat (go_big_quiet_step (fail))
          refine wpQuiet_nil ?_
          refine wpL_last (fuel := 0) (by kernel_rfl) (by kernel_rfl) rfl (fun KK hKK => ?_)
          go_simp
          refine hKK _ _ ?_
          clear hKK KK s0 s1 s2 s3 s4 HS hS0
          go_wp2
          go_roundw
          case rel => exact ⟨i + 1, by go_num, hik, J.out⟩
          case measure => simp [intOf]; omega
        | false =>
          have HICi : Hid (∀ W, GS T Ls (some ⟨tb, to_, none⟩) Xc C w Rb i W → Calls Tryd.prog 28 #[C.ptr] W fun e w' => e = .returned (.tuple #[.string ⟨#[]⟩, .bool false]) ∧ Cur C w' (i) ∧ W.grownBy w' (some C.g)) := Lib.hid fun W h => (HICi.out W h).mono fun e w' hh => by simpa using hh
          go_wp2_with (first
            | (refine wpList_ldV rfl 39 (.tmp 5) rfl Rb 0 rfl [.string T, .slice (some ⟨tb, to_, none⟩) n Xc] (by have h := J.out.r.rg; rwa [HN.out] at h) Tryd.underlying39 rfl info_rw2 ?_)
            | (go_at_call 21; (with_reducible refine (HRAi.out _ J.out).mono ?_); rintro e wt ⟨rfl, b⟩; have J := Lib.hid (J.out.under b); clear b; dsimp only)
            | fail)
          have J := Lib.hid (J.out.under (below_drew _ _))
          obtain ⟨q0, q1, q2, q3, q4⟩ := KS.out _ _ J.out
          go_region_held3 (fun W => (W.cell? ⟨Rb, 0, none⟩ = some (.string T) ∧ W.cell? ⟨Rb, 1, none⟩ = some (.slice (some ⟨tb, to_, none⟩) n Xc) ∧ W.cell? ⟨tb, to_ + i * 3, none⟩ = some (.int .i64 t.1) ∧ W.cell? ⟨tb, to_ + i * 3 + 1, none⟩ = some (.int .i64 t.2.1) ∧ W.cell? ⟨tb, to_ + i * 3 + 2, none⟩ = some (.int .i64 t.2.2))) (((try dsimp only); first | (with_reducible exact KS.out _ _ J.out) | ((repeat' apply And.intro) <;> first | (with_reducible assumption) | go_keep))) (first
            | (go_at_call 22; (with_reducible refine (HPKi.out _ J.out).mono ?_); rintro e wt ⟨rfl, b⟩; have J := Lib.hid (J.out.under b); clear b; obtain ⟨q0, q1, q2, q3, q4⟩ := KS.out _ _ J.out)
            | (go_at_call 23; (with_reducible refine (HPOi.out _ J.out).mono ?_); rintro e wt ⟨rfl, b⟩; have J := Lib.hid (J.out.under b); clear b; obtain ⟨q0, q1, q2, q3, q4⟩ := KS.out _ _ J.out)
            | (go_at_call 24; (with_reducible refine (HRPi.out _ J.out).mono ?_); rintro e wt ⟨rfl, b⟩; have J := Lib.hid (J.out.under b); clear b; obtain ⟨q0, q1, q2, q3, q4⟩ := KS.out _ _ J.out)
            | (go_at_call 25; (with_reducible refine (HKDi.out _ J.out).mono ?_); rintro e wt ⟨rfl, b⟩; have J := Lib.hid (J.out.under b); clear b; obtain ⟨q0, q1, q2, q3, q4⟩ := KS.out _ _ J.out)
            | (go_at_call 26; (with_reducible refine (HDNi.out _ J.out).mono ?_); rintro e wt ⟨rfl, b⟩; have J := Lib.hid (J.out.under b); clear b; obtain ⟨q0, q1, q2, q3, q4⟩ := KS.out _ _ J.out)
            | (go_at_call 27; (with_reducible refine (HTNi.out _ J.out).mono ?_); rintro e wt ⟨rfl, b⟩; have J := Lib.hid (J.out.under b); clear b; obtain ⟨q0, q1, q2, q3, q4⟩ := KS.out _ _ J.out)
            | (go_at_call 27; (with_reducible refine (HTXi.out _ J.out).mono ?_); rintro e wt ⟨rfl, b⟩; have J := Lib.hid (J.out.under b); clear b; obtain ⟨q0, q1, q2, q3, q4⟩ := KS.out _ _ J.out)
            | fail)
          go_wp2_with (first
            | (go_at_call 28; (with_reducible refine (HICi.out _ J.out).mono ?_); rintro e wt ⟨rfl, hc, hg⟩; have J := Lib.hid (J.out.move (q := i) hc hg); clear hc hg; dsimp only)
            | fail)
          have J := Lib.hid (J.out.under (below_drew _ _))
          obtain ⟨q0, q1, q2, q3, q4⟩ := KS.out _ _ J.out
          obtain ⟨S, hSd⟩ : ∃ S : World → Prop, S = fun W => (W.cell? ⟨Rb, 0, none⟩ = some (.string T) ∧ W.cell? ⟨Rb, 1, none⟩ = some (.slice (some ⟨tb, to_, none⟩) n Xc) ∧ W.cell? ⟨tb, to_ + i * 3, none⟩ = some (.int .i64 t.1) ∧ W.cell? ⟨tb, to_ + i * 3 + 1, none⟩ = some (.int .i64 t.2.1) ∧ W.cell? ⟨tb, to_ + i * 3 + 2, none⟩ = some (.int .i64 t.2.2)) := ⟨_, rfl⟩
          have HS : Hid (∀ W p, GS T Ls (some ⟨tb, to_, none⟩) Xc C w Rb p W → S W) := Lib.hid fun W p h => by rw [hSd]; exact KS.out W p h
          have hSF : ∀ W, S W → (W.cell? ⟨Rb, 0, none⟩ = some (.string T) ∧ W.cell? ⟨Rb, 1, none⟩ = some (.slice (some ⟨tb, to_, none⟩) n Xc) ∧ W.cell? ⟨tb, to_ + i * 3, none⟩ = some (.int .i64 t.1) ∧ W.cell? ⟨tb, to_ + i * 3 + 1, none⟩ = some (.int .i64 t.2.1) ∧ W.cell? ⟨tb, to_ + i * 3 + 2, none⟩ = some (.int .i64 t.2.2)) := by rw [hSd]; exact fun W h => h
          have s0 : ∀ s : SW S, s.w.cell? ⟨Rb, 0, none⟩ = some (.string T) := fun s => (hSF _ s.h).1
          have s1 : ∀ s : SW S, s.w.cell? ⟨Rb, 1, none⟩ = some (.slice (some ⟨tb, to_, none⟩) n Xc) := fun s => (hSF _ s.h).2.1
          have s2 : ∀ s : SW S, s.w.cell? ⟨tb, to_ + i * 3, none⟩ = some (.int .i64 t.1) := fun s => (hSF _ s.h).2.2.1
          have s3 : ∀ s : SW S, s.w.cell? ⟨tb, to_ + i * 3 + 1, none⟩ = some (.int .i64 t.2.1) := fun s => (hSF _ s.h).2.2.2.1
          have s4 : ∀ s : SW S, s.w.cell? ⟨tb, to_ + i * 3 + 2, none⟩ = some (.int .i64 t.2.2) := fun s => (hSF _ s.h).2.2.2.2
          have hS0 := HS.out _ _ J.out
          clear hSd hSF q0 q1 q2 q3 q4
          refine regionH_start (by kernel_rfl) 38 rfl S 37 ?_
          refine wpL_next 0 6 32 (by kernel_rfl) (fun _ _ d _ _ h => by cases d <;> exact h) hS0 (fun hne => ?_)
          simp only [List.drop_succ_cons, List.drop_zero, List.take_succ_cons, List.take_zero]
          repeat (go_big_quiet_step (fail))
          refine wpQuiet_nil ?_
          refine wpL_one (i := 6) (fuel := 31) (by kernel_rfl) rfl (fun KK hKK => ?_)
          go_simp
          refine (HRIi.out _).mono ?_
          rintro e wt ⟨rfl, b⟩
          have J := Lib.hid (J.out.under b)
          clear b hS0
          have hS0 := HS.out _ _ J.out
          refine hKK _ _ hS0 ?_
          clear hKK KK
          refine wpL_next 7 16 15 (by kernel_rfl) (fun _ _ d _ _ h => by cases d <;> exact h) hS0 (fun hne => ?_)
          simp only [List.drop_succ_cons, List.drop_zero, List.take_succ_cons, List.take_zero]
          repeat (go_big_quiet_step (fail))
          refine wpQuiet_nil ?_
          refine wpL_one (i := 23) (fuel := 14) (by kernel_rfl) rfl (fun KK hKK => ?_)
          go_simp
          refine (HTSi.out _ J.out).mono ?_
          rintro e wt ⟨rfl, hc, hg⟩
          have J := Lib.hid (J.out.move (q := i + 1) hc hg)
          clear hc hg hS0
          have hS0 := HS.out _ _ J.out
          refine hKK _ _ hS0 ?_
          clear hKK KK
          refine wpL_next 24 5 9 (by kernel_rfl) (fun _ _ d _ _ h => by cases d <;> exact h) hS0 (fun hne => ?_)
          simp only [List.drop_succ_cons, List.drop_zero, List.take_succ_cons, List.take_zero]
          repeat (go_big_quiet_step (fail))
          refine wpQuiet_nil ?_
          refine wpL_next 30 6 3 (by kernel_rfl) (fun _ _ d _ _ h => by cases d <;> exact h) hS0 (fun hne => ?_)
          simp only [List.drop_succ_cons, List.drop_zero, List.take_succ_cons, List.take_zero]
          repeat (go_big_quiet_step (fail))
          refine wpQuiet_nil ?_
          refine wpL_one (i := 29) (fuel := 2) (by kernel_rfl) rfl (fun KK hKK => ?_)
          go_simp
          refine (HENi.out _ J.out).mono ?_
          rintro e wt ⟨rfl, b⟩
          have J := Lib.hid (J.out.under b)
          clear b hS0
          have hS0 := HS.out _ _ J.out
          refine hKK _ _ hS0 ?_
          clear hKK KK
          refine wpL_next 36 1 1 (by kernel_rfl) (fun _ _ d _ _ h => by cases d <;> exact h) hS0 (fun hne => ?_)
          simp only [List.drop_succ_cons, List.drop_zero, List.take_succ_cons, List.take_zero]
          repeat (go_big_quiet_step (fail))
          refine wpQuiet_nil ?_
          refine wpL_last (fuel := 0) (by kernel_rfl) (by kernel_rfl) rfl (fun KK hKK => ?_)
          go_simp
          refine hKK _ _ ?_
          clear hKK KK s0 s1 s2 s3 s4 HS hS0
          go_wp2
          go_roundw
          case rel => exact ⟨i + 1, by go_num, hik, J.out⟩
          case measure => simp [intOf]; omega
      · have he1 : ((i : Int) % 2 == 0) = false := by simp [he]
        have he2 : decide ((i : Int) % 2 = 0) = false := by simp [he]
        go_wp2_with (first
          | (refine wpList_ldV rfl 39 (.tmp 5) rfl Rb 0 rfl [.string T, .slice (some ⟨tb, to_, none⟩) n Xc] (by have h := J.out.r.rg; rwa [HN.out] at h) Tryd.underlying39 rfl info_rw2 ?_)
          | (go_at_call 21; (with_reducible refine (HRAi.out _ J.out).mono ?_); rintro e wt ⟨rfl, b⟩; have J := Lib.hid (J.out.under b); clear b; dsimp only)
          | fail)
        have J := Lib.hid (J.out.under (below_drew _ _))
        obtain ⟨q0, q1, q2, q3, q4⟩ := KS.out _ _ J.out
        go_region_held3 (fun W => (W.cell? ⟨Rb, 0, none⟩ = some (.string T) ∧ W.cell? ⟨Rb, 1, none⟩ = some (.slice (some ⟨tb, to_, none⟩) n Xc) ∧ W.cell? ⟨tb, to_ + i * 3, none⟩ = some (.int .i64 t.1) ∧ W.cell? ⟨tb, to_ + i * 3 + 1, none⟩ = some (.int .i64 t.2.1) ∧ W.cell? ⟨tb, to_ + i * 3 + 2, none⟩ = some (.int .i64 t.2.2))) (((try dsimp only); first | (with_reducible exact KS.out _ _ J.out) | ((repeat' apply And.intro) <;> first | (with_reducible assumption) | go_keep))) (first
          | (go_at_call 22; (with_reducible refine (HPKi.out _ J.out).mono ?_); rintro e wt ⟨rfl, b⟩; have J := Lib.hid (J.out.under b); clear b; obtain ⟨q0, q1, q2, q3, q4⟩ := KS.out _ _ J.out)
          | (go_at_call 23; (with_reducible refine (HPOi.out _ J.out).mono ?_); rintro e wt ⟨rfl, b⟩; have J := Lib.hid (J.out.under b); clear b; obtain ⟨q0, q1, q2, q3, q4⟩ := KS.out _ _ J.out)
          | (go_at_call 24; (with_reducible refine (HRPi.out _ J.out).mono ?_); rintro e wt ⟨rfl, b⟩; have J := Lib.hid (J.out.under b); clear b; obtain ⟨q0, q1, q2, q3, q4⟩ := KS.out _ _ J.out)
          | (go_at_call 25; (with_reducible refine (HKDi.out _ J.out).mono ?_); rintro e wt ⟨rfl, b⟩; have J := Lib.hid (J.out.under b); clear b; obtain ⟨q0, q1, q2, q3, q4⟩ := KS.out _ _ J.out)
          | (go_at_call 26; (with_reducible refine (HDNi.out _ J.out).mono ?_); rintro e wt ⟨rfl, b⟩; have J := Lib.hid (J.out.under b); clear b; obtain ⟨q0, q1, q2, q3, q4⟩ := KS.out _ _ J.out)
          | (go_at_call 27; (with_reducible refine (HTNi.out _ J.out).mono ?_); rintro e wt ⟨rfl, b⟩; have J := Lib.hid (J.out.under b); clear b; obtain ⟨q0, q1, q2, q3, q4⟩ := KS.out _ _ J.out)
          | (go_at_call 27; (with_reducible refine (HTXi.out _ J.out).mono ?_); rintro e wt ⟨rfl, b⟩; have J := Lib.hid (J.out.under b); clear b; obtain ⟨q0, q1, q2, q3, q4⟩ := KS.out _ _ J.out)
          | fail)
        go_wp2_with fail
        have J := Lib.hid (J.out.under (below_drew _ _))
        obtain ⟨q0, q1, q2, q3, q4⟩ := KS.out _ _ J.out
        obtain ⟨S, hSd⟩ : ∃ S : World → Prop, S = fun W => (W.cell? ⟨Rb, 0, none⟩ = some (.string T) ∧ W.cell? ⟨Rb, 1, none⟩ = some (.slice (some ⟨tb, to_, none⟩) n Xc) ∧ W.cell? ⟨tb, to_ + i * 3, none⟩ = some (.int .i64 t.1) ∧ W.cell? ⟨tb, to_ + i * 3 + 1, none⟩ = some (.int .i64 t.2.1) ∧ W.cell? ⟨tb, to_ + i * 3 + 2, none⟩ = some (.int .i64 t.2.2)) := ⟨_, rfl⟩
        have HS : Hid (∀ W p, GS T Ls (some ⟨tb, to_, none⟩) Xc C w Rb p W → S W) := Lib.hid fun W p h => by rw [hSd]; exact KS.out W p h
        have hSF : ∀ W, S W → (W.cell? ⟨Rb, 0, none⟩ = some (.string T) ∧ W.cell? ⟨Rb, 1, none⟩ = some (.slice (some ⟨tb, to_, none⟩) n Xc) ∧ W.cell? ⟨tb, to_ + i * 3, none⟩ = some (.int .i64 t.1) ∧ W.cell? ⟨tb, to_ + i * 3 + 1, none⟩ = some (.int .i64 t.2.1) ∧ W.cell? ⟨tb, to_ + i * 3 + 2, none⟩ = some (.int .i64 t.2.2)) := by rw [hSd]; exact fun W h => h
        have s0 : ∀ s : SW S, s.w.cell? ⟨Rb, 0, none⟩ = some (.string T) := fun s => (hSF _ s.h).1
        have s1 : ∀ s : SW S, s.w.cell? ⟨Rb, 1, none⟩ = some (.slice (some ⟨tb, to_, none⟩) n Xc) := fun s => (hSF _ s.h).2.1
        have s2 : ∀ s : SW S, s.w.cell? ⟨tb, to_ + i * 3, none⟩ = some (.int .i64 t.1) := fun s => (hSF _ s.h).2.2.1
        have s3 : ∀ s : SW S, s.w.cell? ⟨tb, to_ + i * 3 + 1, none⟩ = some (.int .i64 t.2.1) := fun s => (hSF _ s.h).2.2.2.1
        have s4 : ∀ s : SW S, s.w.cell? ⟨tb, to_ + i * 3 + 2, none⟩ = some (.int .i64 t.2.2) := fun s => (hSF _ s.h).2.2.2.2
        have hS0 := HS.out _ _ J.out
        clear hSd hSF q0 q1 q2 q3 q4
        refine regionH_start (by kernel_rfl) 38 rfl S 37 ?_
        refine wpL_next 0 6 32 (by kernel_rfl) (fun _ _ d _ _ h => by cases d <;> exact h) hS0 (fun hne => ?_)
        simp only [List.drop_succ_cons, List.drop_zero, List.take_succ_cons, List.take_zero]
        repeat (go_big_quiet_step (fail))
        refine wpQuiet_nil ?_
        refine wpL_one (i := 6) (fuel := 31) (by kernel_rfl) rfl (fun KK hKK => ?_)
        go_simp
        have hS0 := HS.out _ _ J.out
        refine hKK _ _ hS0 ?_
        clear hKK KK
        refine wpL_next 7 16 15 (by kernel_rfl) (fun _ _ d _ _ h => by cases d <;> exact h) hS0 (fun hne => ?_)
        simp only [List.drop_succ_cons, List.drop_zero, List.take_succ_cons, List.take_zero]
        repeat (go_big_quiet_step (fail))
        refine wpQuiet_nil ?_
        refine wpL_one (i := 23) (fuel := 14) (by kernel_rfl) rfl (fun KK hKK => ?_)
        go_simp
        refine (HTSi.out _ J.out).mono ?_
        rintro e wt ⟨rfl, hc, hg⟩
        have J := Lib.hid (J.out.move (q := i + 1) hc hg)
        clear hc hg hS0
        have hS0 := HS.out _ _ J.out
        refine hKK _ _ hS0 ?_
        clear hKK KK
        refine wpL_next 24 5 9 (by kernel_rfl) (fun _ _ d _ _ h => by cases d <;> exact h) hS0 (fun hne => ?_)
        simp only [List.drop_succ_cons, List.drop_zero, List.take_succ_cons, List.take_zero]
        repeat (go_big_quiet_step (fail))
        refine wpQuiet_nil ?_
        refine wpL_next 30 6 3 (by kernel_rfl) (fun _ _ d _ _ h => by cases d <;> exact h) hS0 (fun hne => ?_)
        simp only [List.drop_succ_cons, List.drop_zero, List.take_succ_cons, List.take_zero]
        repeat (go_big_quiet_step (fail))
        refine wpQuiet_nil ?_
        refine wpL_one (i := 29) (fuel := 2) (by kernel_rfl) rfl (fun KK hKK => ?_)
        go_simp
        refine (HENi.out _ J.out).mono ?_
        rintro e wt ⟨rfl, b⟩
        have J := Lib.hid (J.out.under b)
        clear b hS0
        have hS0 := HS.out _ _ J.out
        refine hKK _ _ hS0 ?_
        clear hKK KK
        refine wpL_next 36 1 1 (by kernel_rfl) (fun _ _ d _ _ h => by cases d <;> exact h) hS0 (fun hne => ?_)
        simp only [List.drop_succ_cons, List.drop_zero, List.take_succ_cons, List.take_zero]
        repeat (go_big_quiet_step (fail))
        refine wpQuiet_nil ?_
        refine wpL_last (fuel := 0) (by kernel_rfl) (by kernel_rfl) rfl (fun KK hKK => ?_)
        go_simp
        refine hKK _ _ ?_
        clear hKK KK s0 s1 s2 s3 s4 HS hS0
        go_wp2
        go_roundw
        case rel => exact ⟨i + 1, by go_num, hik, J.out⟩
        case measure => simp [intOf]; omega
    · obtain rfl : i = k := by omega
      obtain ⟨g, hg⟩ : ∃ g, rd (rowT T Ls) (16 * n + 9) (.lev 1) i 0 = g := ⟨_, rfl⟩
      have HXEk : Hid (∀ W, GS T Ls XA Xc C w Rb i W → Calls Tryd.prog 31 #[C.ptr] W (RdTo C W g)) := Lib.hid fun W h => by rw [← hg]; exact HXE.out i W hkn h
      have HREk : Hid (∀ q W, GS T Ls XA Xc C w Rb q W → Calls Tryd.prog 32 #[.agg #[.string T, .slice XA n Xc], .int .i64 (i : Int), .int .i64 1, .int .i64 0] W (RgTo W g)) := Lib.hid fun q W h => by rw [← hg]; exact HRE.out i q W hkn h
      have hin := rd_in (row_ok T Ls) (16 * n + 9) (.lev 1) i 0 (by show i ≤ Ls.length; rw [HN.out]; exact hkn) (fun h => by cases h)
      have hfi := rd_fine (row_ok T Ls) (by show Ls.length ≤ 1000000; rw [HN.out]; omega) (16 * n + 9) (.lev 1) i 0 (by show i ≤ Ls.length; rw [HN.out]; exact hkn) (fun h => by cases h) trivial
      have hnul := rd_nul (R := rowT T Ls) (16 * n + 9) (.lev 1) i 0
      rw [hg] at hin hfi hnul
      have hgp : g.p ≤ n := by have h : g.p ≤ Ls.length := hin.2.1; rwa [HN.out] at h
      obtain ⟨ge, gp, gr⟩ := g
      dsimp only at hgp hnul
      have hfi' : gr = 0 → ge.wfx := fun h => ((hfi h).1).1
      obtain ⟨bd, hbd⟩ : ∃ bd, decide (gp = n) = bd := ⟨_, rfl⟩
      have hdd : decide ((n : Int) ≤ (gp : Int)) = bd := by rw [← hbd]; exact decide_eq_decide.2 (by omega)
      have hdn : decide (n ≤ gp) = bd := by rw [← hbd]; exact decide_eq_decide.2 (by omega)
      have HPOk := Lib.hid (HPO.out gp)
      have HPKk := Lib.hid (HPK.out gp)
      have HRPk : Hid (∀ W, GS T Ls XA Xc C w Rb gp W → Calls Tryd.prog 24 #[.agg #[.string T, .slice XA n Xc], .int .i64 (gp : Int)] W fun e w' => e = .returned (.int .i64 ((rowT T Ls).ps gp)) ∧ Below W.heap.size W w') := Lib.hid fun W h => HRP.out gp W hgp h
      have HRAk : Hid (∀ W, GS T Ls XA Xc C w Rb gp W → Calls Tryd.prog 21 #[.agg #[.string T, .slice XA n Xc], .int .i64 (gp : Int)] W fun e w' => e = .returned (.string ((rowT T Ls).wd gp)) ∧ Below W.heap.size W w') := Lib.hid fun W h => HRA.out gp W hgp h
      have hDN := HDN.out gp
      rw [hbd] at hDN
      have HDNk := Lib.hid hDN
      obtain ⟨pp, hpp⟩ : ∃ pp, (rowT T Ls).ps gp = pp := ⟨_, rfl⟩
      obtain ⟨s, hs⟩ : ∃ s, (rowT T Ls).wd gp = s := ⟨_, rfl⟩
      rw [hpp] at HPOk HRPk
      rw [hs] at HPKk HRAk
      have hss : (s.toList == s.toList) = true := by simp
      clear hg hin hfi hDN hbd hpp hs
      by_cases hr : gr = 0
      · subst hr
        have HSC : Hid (SameC ge) := Lib.hid (sameX_any ge (hfi' rfl))
        clear hfi' hnul
        go_wp2_with (first
          | (go_at_call 31; (with_reducible refine (HXEk.out _ J.out).mono ?_); rintro e w5 ⟨lv, rfl, hx, hgb, hc⟩; have hx : Shx w5 (fun b => wr.heap.size ≤ b) lv ge.l := hx; obtain ⟨A3, c3, rfl, _⟩ := hx.len; have hone := hx.one; have JX := Lib.hid (hx.weak (S' := fun b => b < w5.heap.size) (fun b _ h => h)); have J := Lib.hid (J.out.move (q := gp) hc hgb); clear hx hgb hc; dsimp only; refine Hid.out ?_)
          | fail)
        refine Lib.hid ?_
        go_wp2_with (first
          | (refine wpList_stV rfl 27 (.tmp 12) (.tmp 124) rfl (G := w5.heap.size) (off := 0) rfl (us := exC ge (.slice A3 ge.l.length c3)) (Var.new w5 (exC Ex.nul (.slice none 0 0)) 27 rfl) rfl info_ex (Nat.le_refl 6) (exC_one _ hone) ?_; intro w6 ht hs; have bb := ((Tn.alloc (fun k => k = w5.heap.size) w5 (.cells #[.int .i64 0, .int .i64 0, .int .i64 0, .string ⟨#[]⟩, .string ⟨#[]⟩, .slice none 0 0] 27)).trans ht).below (Nat.le_refl _) (by intro k hk e; omega); have J := Lib.hid (J.out.under bb); have JX := Lib.hid (JX.out.under bb (fun b hb _ => hb)); have JS := Lib.hid (show Var w6 w5.heap.size (exC ge (.slice A3 ge.l.length c3)) from hs); clear ht hs bb)
          | (refine wpList_ldV rfl 39 (.tmp 5) rfl Rb 0 rfl [.string T, .slice XA n Xc] (by have h := J.out.r.rg; rwa [HN.out] at h) Tryd.underlying39 rfl info_rw2 ?_)
          | (go_at_call 32; (with_reducible refine (HREk.out _ _ J.out).mono ?_); rintro e w7 ⟨kv, rfl, hx, bb⟩; have hx : Shx w7 (fun b => w6.heap.size ≤ b) kv ge.l := hx; obtain ⟨A4, c4, rfl, _⟩ := hx.len; have hone4 := hx.one; have JX2 := Lib.hid (hx.weak (S' := fun b => b < w7.heap.size) (fun b _ h => h)); have J := Lib.hid (J.out.under bb); have JX := Lib.hid (JX.out.under bb (fun b _ h => h)); have JS := Lib.hid (JS.out.under bb); clear hx bb; dsimp only; refine Hid.out ?_)
          | fail)
        obtain ⟨G1, hG1⟩ : ∃ G1, w5.heap.size = G1 := ⟨_, rfl⟩
        rw [hG1] at JS ⊢
        have JX := Lib.hid (JX.out.weak (S' := fun _ => True) (fun _ _ _ => trivial))
        clear hG1
        refine Lib.hid ?_
        go_wp2_with (first
          | (refine wpList_stV rfl 56 (.tmp 14) (.tmp 128) rfl (G := w7.heap.size) (off := 0) rfl (us := gC ge (.slice A4 ge.l.length c4) (gp : Int) 0) (Var.new w7 (gC Ex.nul (.slice none 0 0) 0 0) 56 rfl) rfl info_got (Nat.le_refl 8) (gC_one hone4) ?_; intro w8 ht hs; have bb := ((Tn.alloc (fun k => k = w7.heap.size) w7 (.cells #[.int .i64 0, .int .i64 0, .int .i64 0, .string ⟨#[]⟩, .string ⟨#[]⟩, .slice none 0 0, .int .i64 0, .int .i64 0] 56)).trans ht).below (Nat.le_refl _) (by intro k hk e; omega); have J2 : Hid (GT2 T Ls XA Xc C w Rb gp ge (.slice A3 ge.l.length c3) (.slice A4 ge.l.length c4) 0 G1 w7.heap.size w8) := Lib.hid ⟨J.out.under bb, JS.out.under bb, hs, JX.out.under bb (fun b _ h => h), (JX2.out.under bb (fun b _ h => h)).weak (fun _ _ _ => trivial)⟩; clear ht hs bb; refine Hid.out ?_)
          | fail)
        obtain ⟨G2, hG2⟩ : ∃ G2, w7.heap.size = G2 := ⟨_, rfl⟩
        rw [hG2] at J2 ⊢
        have KS2 : Hid (∀ W, GT2 T Ls XA Xc C w Rb gp ge (.slice A3 ge.l.length c3) (.slice A4 ge.l.length c4) 0 G1 G2 W → (W.cell? ⟨Rb, 0, none⟩ = some (.string T) ∧ W.cell? ⟨Rb, 1, none⟩ = some (.slice XA n Xc) ∧ W.cell? ⟨G2, 6, none⟩ = some (.int .i64 (gp : Int)) ∧ W.cell? ⟨G2, 7, none⟩ = some (.int .i64 0))) := Lib.hid fun W h => by
          have h1 := h.g.r.at 1 (v := .slice XA Ls.length Xc) rfl
          rw [HN.out] at h1
          exact ⟨h.g.r.at 0 rfl, h1, h.s2.at 6 rfl, h.s2.at 7 rfl⟩
        have HSCk : Hid (∀ W, GT2 T Ls XA Xc C w Rb gp ge (.slice A3 ge.l.length c3) (.slice A4 ge.l.length c4) 0 G1 G2 W → Calls Tryd.prog 14 #[.agg (exC ge (.slice A3 ge.l.length c3)).toArray, .agg (exC ge (.slice A4 ge.l.length c4)).toArray] W fun r w' => r = .returned (.bool true) ∧ Below W.heap.size W w') := Lib.hid fun W h => HSC.out _ _ W _ _ h.x1 h.x2
        clear hG2 JX JX2 JS J
        have J2 := Lib.hid (J2.out.under (below_drew _ _))
        refine Lib.hid ?_
        go_wp2_with fail
        obtain ⟨q0, q1, q2, q3⟩ := KS2.out _ J2.out
        go_region_held3 (fun W => (W.cell? ⟨Rb, 0, none⟩ = some (.string T) ∧ W.cell? ⟨Rb, 1, none⟩ = some (.slice XA n Xc) ∧ W.cell? ⟨G2, 6, none⟩ = some (.int .i64 (gp : Int)) ∧ W.cell? ⟨G2, 7, none⟩ = some (.int .i64 0))) (((try dsimp only); first | (with_reducible exact KS2.out _ J2.out) | ((repeat' apply And.intro) <;> first | (with_reducible assumption) | go_keep))) (first
          | (go_at_call 23; (with_reducible refine (HPOk.out _ J2.out.g).mono ?_); rintro e wt ⟨rfl, b⟩; have J2 := Lib.hid (J2.out.under b); clear b; obtain ⟨q0, q1, q2, q3⟩ := KS2.out _ J2.out)
          | (go_at_call 24; (with_reducible refine (HRPk.out _ J2.out.g).mono ?_); rintro e wt ⟨rfl, b⟩; have J2 := Lib.hid (J2.out.under b); clear b; obtain ⟨q0, q1, q2, q3⟩ := KS2.out _ J2.out)
          | (go_at_call 22; (with_reducible refine (HPKk.out _ J2.out.g).mono ?_); rintro e wt ⟨rfl, b⟩; have J2 := Lib.hid (J2.out.under b); clear b; obtain ⟨q0, q1, q2, q3⟩ := KS2.out _ J2.out)
          | (go_at_call 21; (with_reducible refine (HRAk.out _ J2.out.g).mono ?_); rintro e wt ⟨rfl, b⟩; have J2 := Lib.hid (J2.out.under b); clear b; obtain ⟨q0, q1, q2, q3⟩ := KS2.out _ J2.out)
          | (go_at_call 26; (with_reducible refine (HDNk.out _ J2.out.g).mono ?_); rintro e wt ⟨rfl, b⟩; have J2 := Lib.hid (J2.out.under b); clear b; obtain ⟨q0, q1, q2, q3⟩ := KS2.out _ J2.out)
          | fail)
        go_wp2_with (first
          | (refine wpList_ldV rfl 27 (.tmp 12) rfl G1 0 rfl (exC ge (.slice A3 ge.l.length c3)) J2.out.s1.rg Tryd.underlying27 rfl info_ex ?_)
          | (refine wpList_ldV rfl 27 _ rfl G2 0 rfl (exC ge (.slice A4 ge.l.length c4)) (fun i u hu => J2.out.s2.rg i u (by unfold gC; rw [List.getElem?_append_left (List.getElem?_eq_some_iff.1 hu).1]; exact hu)) Tryd.underlying27 rfl info_ex ?_)
          | (go_at_call 14; (with_reducible refine (HSCk.out _ J2.out).mono ?_); rintro e wt ⟨rfl, b⟩; have J2 := Lib.hid (J2.out.under b); clear b; dsimp only)
          | (go_at_call 10; refine (HAW.out _ J2.out.g.b).mono ?_; rintro e wt ⟨rfl, b⟩; have J2 := Lib.hid (J2.out.under b); clear b; dsimp only)
          | fail)
        go_ret
        exact ⟨rfl, J2.out.g.b⟩
      · have hr1 : (gr == 0) = false := by simp [hr]
        have hr2 : decide (gr = 0) = false := by simp [hr]
        have hr3 : (gr != 0) = true := by simp [hr]
        obtain rfl : ge = Ex.nul := hnul hr
        have HSC : Hid (SameC Ex.nul) := Lib.hid (sameX_any Ex.nul (by rw [Ex.wfx_eq]; exact ⟨fun _ => rfl, Nat.zero_le _, fun x hx => by cases hx⟩))
        clear hfi' hnul
        go_wp2_with (first
          | (go_at_call 31; (with_reducible refine (HXEk.out _ J.out).mono ?_); rintro e w5 ⟨lv, rfl, hx, hgb, hc⟩; have hx : Shx w5 (fun b => wr.heap.size ≤ b) lv Ex.nul.l := hx; obtain ⟨A3, c3, rfl, _⟩ := hx.len; have hone := hx.one; have JX := Lib.hid (hx.weak (S' := fun b => b < w5.heap.size) (fun b _ h => h)); have J := Lib.hid (J.out.move (q := gp) hc hgb); clear hx hgb hc; dsimp only; refine Hid.out ?_)
          | fail)
        refine Lib.hid ?_
        go_wp2_with (first
          | (refine wpList_stV rfl 27 (.tmp 12) (.tmp 124) rfl (G := w5.heap.size) (off := 0) rfl (us := exC Ex.nul (.slice A3 Ex.nul.l.length c3)) (Var.new w5 (exC Ex.nul (.slice none 0 0)) 27 rfl) rfl info_ex (Nat.le_refl 6) (exC_one _ hone) ?_; intro w6 ht hs; have bb := ((Tn.alloc (fun k => k = w5.heap.size) w5 (.cells #[.int .i64 0, .int .i64 0, .int .i64 0, .string ⟨#[]⟩, .string ⟨#[]⟩, .slice none 0 0] 27)).trans ht).below (Nat.le_refl _) (by intro k hk e; omega); have J := Lib.hid (J.out.under bb); have JX := Lib.hid (JX.out.under bb (fun b hb _ => hb)); have JS := Lib.hid (show Var w6 w5.heap.size (exC Ex.nul (.slice A3 Ex.nul.l.length c3)) from hs); clear ht hs bb)
          | (refine wpList_ldV rfl 39 (.tmp 5) rfl Rb 0 rfl [.string T, .slice XA n Xc] (by have h := J.out.r.rg; rwa [HN.out] at h) Tryd.underlying39 rfl info_rw2 ?_)
          | (go_at_call 32; (with_reducible refine (HREk.out _ _ J.out).mono ?_); rintro e w7 ⟨kv, rfl, hx, bb⟩; have hx : Shx w7 (fun b => w6.heap.size ≤ b) kv Ex.nul.l := hx; obtain ⟨A4, c4, rfl, _⟩ := hx.len; have hone4 := hx.one; have JX2 := Lib.hid (hx.weak (S' := fun b => b < w7.heap.size) (fun b _ h => h)); have J := Lib.hid (J.out.under bb); have JX := Lib.hid (JX.out.under bb (fun b _ h => h)); have JS := Lib.hid (JS.out.under bb); clear hx bb; dsimp only; refine Hid.out ?_)
          | fail)
        obtain ⟨G1, hG1⟩ : ∃ G1, w5.heap.size = G1 := ⟨_, rfl⟩
        rw [hG1] at JS ⊢
        have JX := Lib.hid (JX.out.weak (S' := fun _ => True) (fun _ _ _ => trivial))
        clear hG1
        refine Lib.hid ?_
        go_wp2_with (first
          | (refine wpList_stV rfl 56 (.tmp 14) (.tmp 128) rfl (G := w7.heap.size) (off := 0) rfl (us := gC Ex.nul (.slice A4 Ex.nul.l.length c4) (gp : Int) gr) (Var.new w7 (gC Ex.nul (.slice none 0 0) 0 0) 56 rfl) rfl info_got (Nat.le_refl 8) (gC_one hone4) ?_; intro w8 ht hs; have bb := ((Tn.alloc (fun k => k = w7.heap.size) w7 (.cells #[.int .i64 0, .int .i64 0, .int .i64 0, .string ⟨#[]⟩, .string ⟨#[]⟩, .slice none 0 0, .int .i64 0, .int .i64 0] 56)).trans ht).below (Nat.le_refl _) (by intro k hk e; omega); have J2 : Hid (GT2 T Ls XA Xc C w Rb gp Ex.nul (.slice A3 Ex.nul.l.length c3) (.slice A4 Ex.nul.l.length c4) gr G1 w7.heap.size w8) := Lib.hid ⟨J.out.under bb, JS.out.under bb, hs, JX.out.under bb (fun b _ h => h), (JX2.out.under bb (fun b _ h => h)).weak (fun _ _ _ => trivial)⟩; clear ht hs bb; refine Hid.out ?_)
          | fail)
        obtain ⟨G2, hG2⟩ : ∃ G2, w7.heap.size = G2 := ⟨_, rfl⟩
        rw [hG2] at J2 ⊢
        have KS2 : Hid (∀ W, GT2 T Ls XA Xc C w Rb gp Ex.nul (.slice A3 Ex.nul.l.length c3) (.slice A4 Ex.nul.l.length c4) gr G1 G2 W → (W.cell? ⟨Rb, 0, none⟩ = some (.string T) ∧ W.cell? ⟨Rb, 1, none⟩ = some (.slice XA n Xc) ∧ W.cell? ⟨G2, 6, none⟩ = some (.int .i64 (gp : Int)) ∧ W.cell? ⟨G2, 7, none⟩ = some (.int .i64 gr))) := Lib.hid fun W h => by
          have h1 := h.g.r.at 1 (v := .slice XA Ls.length Xc) rfl
          rw [HN.out] at h1
          exact ⟨h.g.r.at 0 rfl, h1, h.s2.at 6 rfl, h.s2.at 7 rfl⟩
        have HSCk : Hid (∀ W, GT2 T Ls XA Xc C w Rb gp Ex.nul (.slice A3 Ex.nul.l.length c3) (.slice A4 Ex.nul.l.length c4) gr G1 G2 W → Calls Tryd.prog 14 #[.agg (exC Ex.nul (.slice A3 Ex.nul.l.length c3)).toArray, .agg #[.int .i64 0, .int .i64 0, .int .i64 0, .string ⟨#[]⟩, .string ⟨#[]⟩, .slice none 0 0]] W fun r w' => r = .returned (.bool true) ∧ Below W.heap.size W w') := Lib.hid fun W h => HSC.out _ (.slice none 0 0) W _ (fun _ => True) h.x1 .nil
        clear hG2 JX JX2 JS J
        have J2 := Lib.hid (J2.out.under (below_drew _ _))
        refine Lib.hid ?_
        go_wp2_with fail
        obtain ⟨q0, q1, q2, q3⟩ := KS2.out _ J2.out
        go_region_held3 (fun W => (W.cell? ⟨Rb, 0, none⟩ = some (.string T) ∧ W.cell? ⟨Rb, 1, none⟩ = some (.slice XA n Xc) ∧ W.cell? ⟨G2, 6, none⟩ = some (.int .i64 (gp : Int)) ∧ W.cell? ⟨G2, 7, none⟩ = some (.int .i64 gr))) (((try dsimp only); first | (with_reducible exact KS2.out _ J2.out) | ((repeat' apply And.intro) <;> first | (with_reducible assumption) | go_keep))) (first
          | (go_at_call 23; (with_reducible refine (HPOk.out _ J2.out.g).mono ?_); rintro e wt ⟨rfl, b⟩; have J2 := Lib.hid (J2.out.under b); clear b; obtain ⟨q0, q1, q2, q3⟩ := KS2.out _ J2.out)
          | (go_at_call 24; (with_reducible refine (HRPk.out _ J2.out.g).mono ?_); rintro e wt ⟨rfl, b⟩; have J2 := Lib.hid (J2.out.under b); clear b; obtain ⟨q0, q1, q2, q3⟩ := KS2.out _ J2.out)
          | (go_at_call 22; (with_reducible refine (HPKk.out _ J2.out.g).mono ?_); rintro e wt ⟨rfl, b⟩; have J2 := Lib.hid (J2.out.under b); clear b; obtain ⟨q0, q1, q2, q3⟩ := KS2.out _ J2.out)
          | (go_at_call 21; (with_reducible refine (HRAk.out _ J2.out.g).mono ?_); rintro e wt ⟨rfl, b⟩; have J2 := Lib.hid (J2.out.under b); clear b; obtain ⟨q0, q1, q2, q3⟩ := KS2.out _ J2.out)
          | (go_at_call 26; (with_reducible refine (HDNk.out _ J2.out.g).mono ?_); rintro e wt ⟨rfl, b⟩; have J2 := Lib.hid (J2.out.under b); clear b; obtain ⟨q0, q1, q2, q3⟩ := KS2.out _ J2.out)
          | fail)
        go_wp2_with (first
          | (refine wpList_ldV rfl 27 (.tmp 12) rfl G1 0 rfl (exC Ex.nul (.slice A3 Ex.nul.l.length c3)) J2.out.s1.rg Tryd.underlying27 rfl info_ex ?_)
          | (refine wpList_ldV rfl 27 _ rfl G2 0 rfl (exC Ex.nul (.slice A4 Ex.nul.l.length c4)) (fun i u hu => J2.out.s2.rg i u (by unfold gC; rw [List.getElem?_append_left (List.getElem?_eq_some_iff.1 hu).1]; exact hu)) Tryd.underlying27 rfl info_ex ?_)
          | (go_at_call 14; (with_reducible refine (HSCk.out _ J2.out).mono ?_); rintro e wt ⟨rfl, b⟩; have J2 := Lib.hid (J2.out.under b); clear b; dsimp only)
          | (go_at_call 10; refine (HAW.out _ J2.out.g.b).mono ?_; rintro e wt ⟨rfl, b⟩; have J2 := Lib.hid (J2.out.under b); clear b; dsimp only)
          | fail)
        go_ret
        exact ⟨rfl, J2.out.g.b⟩

theorem exprGoes_walk (A : Option Addr) (n c : Nat) (zs : List Int) (z : Int) (w : World) (hr : IsRow .u8 w A n c zs) (wz : (Lit.int .i64 z).wf) (hv : Vars w) :
    Calls Tryd.prog 4 #[.slice A n c, .int .i64 z] w fun e w' => e = .returned (.bool true) ∧ Below w.heap.size w w' := by
  obtain ⟨hnc, hcm, _, hx, hwf⟩ := hr.sh
  by_cases h : 1000 < n
  · exact exprGoes_long A n c z w h (Nat.le_trans hnc hcm) hv
  · exact exprGoes_short A n c z (zs.take n) w h hx (byt8_of hwf) hnc hcm hv
end Go.Proofs.YtnhhdafhnngolaaDoor

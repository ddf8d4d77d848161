/-
  CONTRACTS OF (*expr.Cursor).put, must, deeper, sign, number.
-/
import Derived.Test.YtnhhdafhnngolaaDoorEpQ
import Derived.Test.YtnhhdafhnngolaaDoorEpH
namespace Go.Proofs.YtnhhdafhnngolaaDoor
set_option linter.unusedVariables false
set_option linter.unusedSimpArgs false
open Go.RowKit

/-- What a reader answers: an expression, or an error; the cursor stands behind it, or there. -/
def PutTo (C : Cx) (S : Nat → Prop) (w : World) (G : Gt) (e : Ending) (w' : World) : Prop :=
  ∃ lv, e = .returned (.tuple #[exV G.e lv, .int .i64 G.r]) ∧ Shx w' S lv G.e.l ∧ w.grownBy w' (some C.g) ∧ Cur C w' G.p
theorem ex_done {F : Func} {i j : Nat} (hr : F.results = #[.cell i 27, .tmp j]) {a : Act} {W : World} {G : Nat} {x : Ex} {lv : Value} {r : Int} {Q : Ending → World → Prop} (hp : a.tmps.getD i undef = .pointer (some ⟨G, 0, none⟩)) (hj : a.tmps.getD j undef = .int .i64 r) (hd : a.defers = []) (hs : Slot W G x lv)
    (hQ : Q (.returned (.tuple #[exV x lv, .int .i64 r])) W) : bodyPost Tryd.prog F Q Exit.ret a W := by
  have hl := ld_ex hs.cs
  have hp' : a.tmps[i]?.getD undef = .pointer (some ⟨G, 0, none⟩) := by simpa using hp
  have hj' : a.tmps[j]?.getD undef = .int .i64 r := by simpa using hj
  exact bodyPost_ret (v := .tuple #[exV x lv, .int .i64 r]) (by simp [results, hr, hp', hj', asAddr, hl]) hd hQ

set_option maxRecDepth 10000 in
set_option maxHeartbeats 800000 in
theorem put_any (C : Cx) (hC : TokOk C.T C.L) (p q : Nat) (w : World) (h : Cur C w p) (hq : q ≤ C.L.length) (x : Ex) (lv : Value) (S : Nat → Prop) (hx : x.wfx) (hc : x.cnt ≤ 1000000) (hs : Shx w S lv x.l) (hS : ∀ b, S b → b ≠ C.g) :
    Calls Tryd.prog 69 #[C.ptr, .int .i64 (q : Int), exV x lv] w (PutTo C S w (hld x p q)) := by
  have hone := hs.one
  have hz := zeroEx'
  have hlt := h.lt
  have hln := hC.len
  have b1 : Below w.heap.size w ((w.alloc (.cells #[.int .i64 x.k, .int .i64 x.a, .int .i64 x.m, .string x.nm, .string x.lb, lv] 27)).alloc (.cells #[.int .i64 0, .int .i64 0, .int .i64 0, .string ⟨#[]⟩, .string ⟨#[]⟩, .slice none 0 0] 27)) := ((Below.refl _ w).alloc (Nat.le_refl _) _).alloc (by simp) _
  have hsl : Slot ((w.alloc (.cells #[.int .i64 x.k, .int .i64 x.a, .int .i64 x.m, .string x.nm, .string x.lb, lv] 27)).alloc (.cells #[.int .i64 0, .int .i64 0, .int .i64 0, .string ⟨#[]⟩, .string ⟨#[]⟩, .slice none 0 0] 27)) (w.heap.size + 1) Ex.nul (.slice none 0 0) := by
    have := Slot.new (w.alloc (.cells #[.int .i64 x.k, .int .i64 x.a, .int .i64 x.m, .string x.nm, .string x.lb, lv] 27)) Ex.nul (.slice none 0 0) 27 (C := #[.int .i64 0, .int .i64 0, .int .i64 0, .string ⟨#[]⟩, .string ⟨#[]⟩, .slice none 0 0]) rfl
    simpa using this
  have hsl5 : Slot ((w.alloc (.cells #[.int .i64 x.k, .int .i64 x.a, .int .i64 x.m, .string x.nm, .string x.lb, lv] 27)).alloc (.cells #[.int .i64 0, .int .i64 0, .int .i64 0, .string ⟨#[]⟩, .string ⟨#[]⟩, .slice none 0 0] 27)) w.heap.size x lv :=
    (Slot.new w x lv 27 rfl).below ((Below.refl _ _).alloc (Nat.le_refl _) _) (by simp)
  have hh := height_any x hx hc lv _ S (hs.under b1 (fun b _ hb => hb))
  have HH := Lib.hid hh
  have H := Lib.hid (h.under b1)
  have HSL := Lib.hid hsl
  have HSL5 := Lib.hid hsl5
  have HB1 := Lib.hid b1
  have HSH := Lib.hid ((hs.weak (S' := fun b => S b ∧ b < w.heap.size) fun b h1 h2 => ⟨h1, h2⟩).under b1 (fun b _ hb => hb))
  have hs2 : ((w.alloc (.cells #[.int .i64 x.k, .int .i64 x.a, .int .i64 x.m, .string x.nm, .string x.lb, lv] 27)).alloc (.cells #[.int .i64 0, .int .i64 0, .int .i64 0, .string ⟨#[]⟩, .string ⟨#[]⟩, .slice none 0 0] 27)).heap.size = w.heap.size + 2 := by simp
  have HS2 := Lib.hid hs2
  clear hh b1 hsl hsl5 hs h hs2
  unfold exV
  by_cases hht : 32 < x.ht
  · have ht1 : decide ((32 : Int) < (x.ht : Int)) = true := by simp; omega
    have ht2 : decide (32 < x.ht) = true := by simp; omega
    have HG : Hid (hld x p q = bad q 12) := Lib.hid (by unfold hld; rw [if_pos hht])
    rw [HG.out]
    go_enter Tryd.func69, Tryd.ntmps69
    go_wp2_with (first
      | (go_at_call 15; refine HH.out.mono ?_; rintro e w2 ⟨rfl, b2⟩; have H2 := Lib.hid (H.out.under b2); have hs2 := b2.size; rw [HS2.out] at hs2; have c2 := H2.out.pl; have f2 := H2.out.fz; have B2 := Lib.hid b2; clear b2; dsimp only)
      | (refine wpList_stx rfl (.tmp 6) (.tmp 15) rfl (w.heap.size + 1) rfl (((HSL.out.below B2.out (by rw [HS2.out]; omega))).grown (H2.out.move hq).2 (by intro e; injection e; omega)) (e := Ex.nul) (lv := .slice none 0 0) rfl rfl ?_; intro w3 hg3 hs3; have HG3 := Lib.hid hg3; have HS3 := Lib.hid hs3; clear hg3 hs3)
      | fail)
    refine ex_done rfl rfl rfl rfl HS3.out ⟨.slice none 0 0, rfl, .nil, ?_, ?_⟩
    · exact fr_new (gb_trans (fr_below (below_fr HB1.out _) B2.out) (H2.out.move hq).2) HG3.out (by omega)
    · exact (H2.out.move hq).1.grown HG3.out (fun k e => by cases e; omega)
  · have ht1 : decide ((32 : Int) < (x.ht : Int)) = false := by simp; omega
    have ht2 : decide (32 < x.ht) = false := by simp; omega
    have HG : Hid (hld x p q = good x p) := Lib.hid (by unfold hld; rw [if_neg hht])
    rw [HG.out]
    go_enter Tryd.func69, Tryd.ntmps69
    go_wp2_with (first
      | (go_at_call 15; refine HH.out.mono ?_; rintro e w2 ⟨rfl, b2⟩; have H2 := Lib.hid (H.out.under b2); have hs2 := b2.size; rw [HS2.out] at hs2; have B2 := Lib.hid b2; have HX2 := Lib.hid (HSL5.out.below b2 (by rw [HS2.out]; omega)); clear b2; dsimp only)
      | (refine wpList_ldx' rfl (.tmp 5) rfl w.heap.size 0 rfl HX2.out.cs ?_)
      | (refine wpList_stx rfl (.tmp 6) (.tmp 16) rfl (w.heap.size + 1) rfl (HSL.out.below B2.out (by rw [HS2.out]; omega)) (e := x) (lv := lv) rfl hone ?_; intro w3 hg3 hs3; have HG3 := Lib.hid hg3; have HS3 := Lib.hid hs3; clear hg3 hs3)
      | fail)
    refine ex_done rfl rfl rfl rfl HS3.out ⟨lv, rfl, ?_, ?_, ?_⟩
    · exact ((HSH.out.under B2.out (fun b _ hb => hb)).grown HG3.out (fun b hb hlt e => by injection e with e; have h1 := hb.2; omega)).weak (fun b h1 _ => h1.1)
    · exact fr_new (fr_below (below_fr HB1.out _) B2.out) HG3.out (by omega)
    · exact H2.out.grown HG3.out (fun k e => by cases e; omega)

theorem takeL (C : Cx) (hC : TokOk C.T C.L) (p : Nat) (w : World) (h : Cur C w p) (s : ByteArray) (hs : s.size ≠ 0) :
    Calls Tryd.prog 27 #[C.ptr, .string s] w (TakeTo C p (C.R.is p s.toList) w) :=
  take_any C hC p w h s hs fun he => by
    obtain ⟨c, l, hl⟩ : ∃ c l, s.toList = c :: l := by
      cases hh : s.toList with
      | nil => have := toList_ne hs; rw [hh] at this; cases this
      | cons c l => exact ⟨c, l, rfl⟩
    rw [hl] at he
    exact (row_ok C.T C.L).is_lt he

/-- What must come: where it stops, and how. -/
def mustP (R : Rw) : Nat → List ByteArray → Nat × Int
  | p, [] => (p, 0)
  | p, s :: r => if R.is p s.toList = true then mustP R (p + 1) r else (p, 11)
def MustTo (C : Cx) (x : Nat × Int) (w : World) (e : Ending) (w' : World) : Prop := e = .returned (.int .i64 x.2) ∧ Cur C w' x.1 ∧ w.grownBy w' (some C.g)
theorem Sh.gb {w w' : World} {B n : Nat} {A : Option Addr} {xs : List Value} {r : Option Nat} (h : Sh w B A n xs) (hB : B ≤ w.heap.size) (hg : w.grownBy w' r) (hr : ∀ b off, A = some ⟨b, off, none⟩ → some b ≠ r) : Sh w' B A n xs := by
  refine ⟨h.1, fun hn => ?_⟩
  obtain ⟨b, off, e, hb, hc⟩ := h.2 hn
  exact ⟨b, off, e, hb, fun k u hu => (World.cell?_of_block (a := ⟨b, _, none⟩) (hg.block b (by omega) (hr b off e))).trans (hc k u hu)⟩
set_option maxRecDepth 10000 in
set_option maxHeartbeats 800000 in
theorem must_any (C : Cx) (hC : TokOk C.T C.L) (p : Nat) (w : World) (h : Cur C w p) (ss : List ByteArray) (hss : ∀ s ∈ ss, s.size ≠ 0) (A : Option Addr) (n c : Nat) (hsh : Sh w w.heap.size A n (ss.map Value.string)) (hn : n ≤ 1000) (hA : ∀ b off, A = some ⟨b, off, none⟩ → b ≠ C.g) :
    Calls Tryd.prog 97 #[C.ptr, .slice A n c] w (MustTo C (mustP C.R p ss) w) := by
  have hl : ss.length = n := by have := hsh.len; simpa using this
  have HL := Lib.hid hl
  have HSS := Lib.hid hss
  have HSH := Lib.hid hsh
  have H := Lib.hid h
  have HA := Lib.hid hA
  obtain ⟨X, hX⟩ : ∃ X, mustP C.R p ss = X := ⟨_, rfl⟩
  rw [hX]
  have HX := Lib.hid hX
  clear hl hss hsh h hA hX
  go_enter Tryd.func97, Tryd.ntmps97
  go_wp2
  go_loopw [9] (fun iv wr => ∃ (k q : Nat), iv = .int .i64 (k : Int) ∧ k ≤ n ∧ Cur C wr q ∧ w.grownBy wr (some C.g) ∧ mustP C.R q (ss.drop k) = X) (fun iv _ => n - (intOf iv).toNat)
  case atStart => exact ⟨0, p, rfl, Nat.zero_le _, H.out, World.grownBy.refl _ _, HX.out⟩
  case round =>
    obtain ⟨k, q, rfl, hk, hcur, hg, hm⟩ := hrel
    have HC := Lib.hid hcur
    have HG := Lib.hid hg
    have HM := Lib.hid hm
    clear hcur hg hm
    by_cases hkn : k < n
    · have hs1 := HSH.out.gb (Nat.le_refl _) HG.out (fun b off e he => HA.out b off e (by injection he))
      obtain ⟨b, off, u, hAe, hb, hu, hcell⟩ := hs1.at hkn
      rw [List.getElem?_map] at hu
      obtain ⟨s, hs, rfl⟩ := Option.map_eq_some_iff.1 hu
      have hsz := HSS.out s (List.mem_of_getElem? hs)
      have hd : ss.drop k = s :: ss.drop (k + 1) := by
        have hlt : k < ss.length := (List.getElem?_eq_some_iff.1 hs).1
        rw [List.drop_eq_getElem_cons hlt]
        congr 1
        exact (List.getElem?_eq_some_iff.1 hs).2
      have HT := Lib.hid (takeL C hC q wr HC.out s hsz)
      have HM2 := Lib.hid (by have := HM.out; rwa [hd] at this : mustP C.R q (s :: ss.drop (k + 1)) = X)
      clear hs1 hu hs hd
      subst hAe
      cases hq : C.R.is q s.toList with
      | true =>
        rw [hq] at HT
        have HM3 : Hid (mustP C.R (q + 1) (ss.drop (k + 1)) = X) := Lib.hid (by have := HM2.out; unfold mustP at this; rwa [if_pos hq] at this)
        go_wp2_with (first
          | (go_at_call 27; refine HT.out.mono ?_; rintro e w2 ⟨rfl, hc2, hg2, _⟩; have HC2 := Lib.hid hc2; have HG2 := Lib.hid hg2; clear hc2 hg2; dsimp only)
          | fail)
        go_roundw
        case rel => exact ⟨k + 1, q + 1, by go_num, hkn, HC2.out, gb_trans HG.out HG2.out, HM3.out⟩
        case measure => simp [intOf]; omega
      | false =>
        rw [hq] at HT
        have HM3 : Hid ((q, 11) = X) := Lib.hid (by have := HM2.out; unfold mustP at this; rwa [if_neg (by rw [hq]; decide)] at this)
        go_wp2_with (first
          | (go_at_call 27; refine HT.out.mono ?_; rintro e w2 ⟨rfl, hc2, hg2, _⟩; have HC2 := Lib.hid hc2; have HG2 := Lib.hid hg2; clear hc2 hg2; dsimp only)
          | fail)
        go_ret
        rw [← HM3.out]
        exact ⟨rfl, HC2.out, gb_trans HG.out HG2.out⟩
    · obtain rfl : k = n := by omega
      have HM3 : Hid ((q, 0) = X) := Lib.hid (by
        have := HM.out
        rwa [List.drop_of_length_le (by rw [HL.out]; exact Nat.le_refl _)] at this)
      go_wp2
      go_ret
      rw [← HM3.out]
      exact ⟨rfl, HC.out, HG.out⟩

/-- Deeper: a sign is taken, unless it stands too deep. -/
def deepP (R : Rw) (p : Nat) (s : ByteArray) (d : Nat) : Nat × Int := if R.is p s.toList = true then (if d = 32 then (p, 12) else (p + 1, 0)) else (p, 11)
set_option maxRecDepth 10000 in
set_option maxHeartbeats 800000 in
theorem deeper_any (C : Cx) (hC : TokOk C.T C.L) (p d : Nat) (w : World) (h : Cur C w p) (s : ByteArray) (hs : s.size ≠ 0) (hd : d ≤ 32) :
    Calls Tryd.prog 82 #[C.ptr, .string s, .int .i64 (d : Int)] w (MustTo C (deepP C.R p s d) w) := by
  have HP := Lib.hid (peek_any C hC p w h)
  have H := Lib.hid h
  have hlt := h.lt
  have HM : Hid (∀ w2, Cur C w2 p → w.heap.size ≤ w2.heap.size → Calls Tryd.prog 97 #[C.ptr, .slice (some ⟨w2.heap.size, 0, none⟩) 1 1] (w2.alloc (.cells #[.string s] 9)) (MustTo C (mustP C.R p [s]) (w2.alloc (.cells #[.string s] 9)))) := Lib.hid fun w2 hc hsz => by
    refine must_any C hC p _ (hc.under ((Below.refl _ _).alloc (Nat.le_refl _) _)) [s] (fun t ht => by obtain rfl : t = s := by simpa using ht
                                                                                                       exact hs) _ 1 1 ?_ (by omega) (fun b off e => by cases e; have := hc.lt; omega)
    have := Sh.lit w2 [.string s] 9
    simpa using this
  have HW : Hid (∀ x : Nat × Int, ∀ w2 e w', Below w.heap.size w w2 → MustTo C x (w2.alloc (.cells #[.string s] 9)) e w' → MustTo C x w e w') := Lib.hid fun x w2 e w' hb ⟨h1, h2, h3⟩ => ⟨h1, h2, gb_trans (below_fr (hb.alloc hb.size _) _) h3⟩
  clear h
  cases hq : C.R.is p s.toList with
  | true =>
    have hq' : ((C.R.wd p).toList == s.toList) = true := hq
    by_cases h32 : d = 32
    · have HD : Hid (deepP C.R p s d = (p, 12)) := Lib.hid (by unfold deepP; rw [if_pos hq, if_pos h32])
      rw [HD.out]
      subst h32
      go_enter Tryd.func82, Tryd.ntmps82
      go_wp2_with (first
        | (go_at_call 22; refine HP.out.mono ?_; rintro e w2 ⟨rfl, b2⟩; have B2 := Lib.hid b2; clear b2; dsimp only)
        | fail)
      go_ret
      exact ⟨rfl, H.out.under B2.out, below_fr B2.out _⟩
    · have HD : Hid (deepP C.R p s d = mustP C.R p [s]) := Lib.hid (by unfold deepP mustP; rw [if_pos hq, if_neg h32, if_pos hq]; rfl)
      rw [HD.out]
      have hd1 : decide ((d : Int) = 32) = false := by simp; omega
      have hd2 : decide (d = 32) = false := by simp; omega
      have hd3 : ((d : Int) == 32) = false := by simp; omega
      clear h32
      go_enter Tryd.func82, Tryd.ntmps82
      go_wp2_with (first
        | (go_at_call 22; refine HP.out.mono ?_; rintro e w2 ⟨rfl, b2⟩; have B2 := Lib.hid b2; clear b2; dsimp only)
        | (go_at_call 97; refine (HM.out w2 (H.out.under B2.out) B2.out.size).mono ?_; rintro e w3 h3; have H3 := Lib.hid (HW.out _ _ _ _ B2.out h3); obtain ⟨rfl, _, _⟩ := h3; dsimp only)
        | fail)
      go_ret
      exact H3.out
  | false =>
    have hq' : ((C.R.wd p).toList == s.toList) = false := hq
    have HD : Hid (deepP C.R p s d = mustP C.R p [s]) := Lib.hid (by unfold deepP mustP; rw [if_neg (by rw [hq]; decide), if_neg (by rw [hq]; decide)])
    rw [HD.out]
    go_enter Tryd.func82, Tryd.ntmps82
    go_wp2_with (first
      | (go_at_call 22; refine HP.out.mono ?_; rintro e w2 ⟨rfl, b2⟩; have B2 := Lib.hid b2; clear b2; dsimp only)
      | (go_at_call 97; refine (HM.out w2 (H.out.under B2.out) B2.out.size).mono ?_; rintro e w3 h3; have H3 := Lib.hid (HW.out _ _ _ _ B2.out h3); obtain ⟨rfl, _, _⟩ := h3; dsimp only)
      | fail)
    go_ret
    exact H3.out
end Go.Proofs.YtnhhdafhnngolaaDoor

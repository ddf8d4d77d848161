import Derived.Test.YtmnggldejflooaaGreatDoorSq
import Derived.Test.YtmnggldejflooaaGreatDoorFiW
namespace Go.Proofs.YtmnggldejflooaaGreatDoor
set_option linter.unusedVariables false
set_option linter.unusedSimpArgs false
open Go.RowKit
theorem MoSh.forms {w : World} {S : Nat → Prop} {m : MoT} {v : MoV} (h : MoSh w S m v) : ∃ A0 c0 A2 c2 A4 c4 A5 c5 A6 c6, v = ⟨.slice A0 m.im.length c0, .slice A2 m.la.length c2, .slice A4 m.ef.length c4, .slice A5 m.va.length c5, .slice A6 m.fn.length c6⟩ := by
 obtain ⟨FL, h1, h2, h3⟩ := h.fn
 obtain ⟨A0, c0, e0⟩ := h.im.formA
 obtain ⟨A2, c2, e2⟩ := h.la.formA
 obtain ⟨A4, c4, e4⟩ := h.ef.formA
 obtain ⟨A5, c5, e5⟩ := h.va.formA
 obtain ⟨A6, c6, e6⟩ := h2.formA
 have hl : FL.length = m.fn.length := by rw [← h1, List.length_map]
 obtain ⟨im, la, ef, va, fn⟩ := v
 dsimp only at e0 e2 e4 e5 e6
 subst e0 e2 e4 e5 e6
 exact ⟨A0, c0, A2, c2, A4, c4, A5, c5, A6, c6, by rw [hl]⟩
theorem fileJoins_long (A B : Option Addr) (n m c d : Nat) (w : World) (h : 900 < n ∨ (¬ 900 < n ∧ 900 < m)) (hm : n ≤ maxLen) (hm2 : m ≤ maxLen) (hv : Vars w) :
  CP 5 #[.slice A n c, .slice B m d] w fun e w' => e = .returned (.bool true) ∧ Below w.heap.size w w' := by
 unfold maxLen at hm hm2
 have h' : (900 : Int) < (n : Int) ∨ (¬ (900 : Int) < (n : Int) ∧ (900 : Int) < (m : Int)) := by omega
 clear h
 rcases h' with h1 | ⟨h1, h2⟩
 all_goals
  go_enter Tryz.func5, Tryz.ntmps5
  go_wp2_with (go_at_call 25; refine (awake10_any _ hv).mono ?_; rintro e w1 ⟨rfl, b1⟩)
  go_ret
  exact ⟨rfl, b1⟩
structure FJ (MA MB : MoT) (n : Nat) (Z : MoT × Int × Int) : Prop where
 sa : MA.sz ≤ 900
 sb : MB.sz ≤ 900
 ka : MA.mks.length ≤ 900
 kb : MB.mks.length ≤ 900
 ca : ∀ f ∈ MA.fn, cts f.bd ≤ 2000000
 cb : ∀ f ∈ MB.fn, cts f.bd ≤ 2000000
 cz : ∀ f ∈ Z.1.fn, cts f.bd ≤ 2000000
 ok : ¬ clash MA MB → Z.2.2 = 0 ∧ Z.1.im.length = MA.im.length + MB.im.length ∧ Z.1.la.length = MA.la.length + MB.la.length ∧ Z.1.ef.length = MA.ef.length + MB.ef.length ∧ Z.1.va.length = MA.va.length + MB.va.length ∧ Z.1.fn.length = MA.fn.length + MB.fn.length ∧ Z.1.mks.length = MA.mks.length + MB.mks.length
 no : clash MA MB → Z.2.2 = 11 ∧ (n : Int) < Z.2.1
theorem fj_of {xs ys : List Int} (hx : Byt8 xs) (hy : Byt8 ys) (hnx : xs.length ≤ 900) (hny : ys.length ≤ 900) {MA MB : MoT} {pa pb : Int}
  (h1 : parseM (rowT (strOfNums xs) (live xs 0)) (live xs 0) xs.length 29000 5500 = (MA, pa, 0)) (h2 : parseM (rowT (strOfNums ys) (live ys 0)) (live ys 0) ys.length 29000 5500 = (MB, pb, 0)) :
  FJ MA MB xs.length (parseM (rowT (strOfNums (xs ++ 10 :: ys)) (live (xs ++ 10 :: ys) 0)) (live (xs ++ 10 :: ys) 0) (xs ++ 10 :: ys).length 29000 5500) := by
 obtain ⟨j1, j2⟩ := parseM_join hx hy hnx hny (F := 29000) (f := 5500) (by omega) h1 h2
 have a1 := parse_sz (row_ok (strOfNums xs) (live xs 0)) (n := xs.length) (F := 29000) (f := 5500)
 have a2 := parse_sz (row_ok (strOfNums ys) (live ys 0)) (n := ys.length) (F := 29000) (f := 5500)
 have b1 := parse_mks (row_ok (strOfNums xs) (live xs 0)) (n := xs.length) (F := 29000) (f := 5500)
 have b2 := parse_mks (row_ok (strOfNums ys) (live ys 0)) (n := ys.length) (F := 29000) (f := 5500)
 have b3 := parse_mks (row_ok (strOfNums (xs ++ 10 :: ys)) (live (xs ++ 10 :: ys) 0)) (n := (xs ++ 10 :: ys).length) (F := 29000) (f := 5500)
 rw [h1] at a1 b1
 rw [h2] at a2 b2
 have l1 := live_len xs
 have l2 := live_len ys
 have l3 := live_len (xs ++ 10 :: ys)
 have ln : (xs ++ 10 :: ys).length ≤ 1801 := by simp; omega
 refine ⟨Nat.le_trans a1 (by omega), Nat.le_trans a2 (by omega), Nat.le_trans b1.1 (by omega), Nat.le_trans b2.1 (by omega), fun f hf => Nat.le_trans (b1.2 f hf) (by omega), fun f hf => Nat.le_trans (b2.2 f hf) (by omega), fun f hf => Nat.le_trans (b3.2 f hf) (by omega), fun hc => ?_, fun hc => ?_⟩
 ·obtain ⟨p, e⟩ := j1 hc
  rw [e]
  refine ⟨rfl, ?_, ?_, ?_, ?_, ?_, ?_⟩
  all_goals first
   | (dsimp only; rw [plus_mks, plus_mks]; show 0 + MA.mks.length + _ = _; omega)
   | (unfold MoT.plus; dsimp only; simp [MoT.nul])
 ·obtain ⟨p, e, h, _⟩ := j2 hc
  rw [e]
  exact ⟨rfl, h⟩
def Fgt (i k : Nat) (v : Value) (l : List Value) (d : List Deferred) (w' : World) (e : Exit) (a' : Act) (w2 : World) : Prop := e = .normal ∧ w2 = w' ∧ a'.defers = d ∧ ∃ vs : List Value, vs.length = k ∧ a'.tmps = (l.take i ++ (vs ++ v :: l.drop (i + k + 1))).toArray
theorem wp_forget {P : Program} {C : Code} {Q : Exit → Act → World → Prop} {l : List Value} {d : List Deferred} {w w' : World} (i k : Nat) (v : Value)
  (h2 : C.wp P (Fgt i k v l d w') ⟨l.toArray, d⟩ w)
  (h1 : ∀ vs : List Value, vs.length = k → Q .normal ⟨(l.take i ++ (vs ++ v :: l.drop (i + k + 1))).toArray, d⟩ w') : C.wp P Q ⟨l.toArray, d⟩ w :=
 Code.wp_mono (fun e a w2 h => by
  obtain ⟨rfl, rfl, hd, vs, hk, ht⟩ := h
  have := h1 vs hk
  obtain ⟨ta, da⟩ := a
  dsimp only at hd ht
  subst hd ht
  exact this) h2
theorem len13 (l : List Value) (h : l.length = 13) : ∃ a b c d e f g i j k m n o, l = [a, b, c, d, e, f, g, i, j, k, m, n, o] := by
 match l, h with
 | [a, b, c, d, e, f, g, i, j, k, m, n, o], _ => exact ⟨a, b, c, d, e, f, g, i, j, k, m, n, o, rfl⟩
theorem clash_cases (MA MB : MoT) : (clash MA MB ∧ ((MA.hl = true ∧ MB.hl = true) ∨ (MA.hl = false ∧ MA.he = true ∧ MB.he = true) ∨ (MA.hl = true ∧ MB.hl = false ∧ MA.he = true ∧ MB.he = true))) ∨
  (¬ clash MA MB ∧ ((MA.hl = false ∧ MA.he = false) ∨ (MA.hl = false ∧ MA.he = true ∧ MB.he = false) ∨ (MA.hl = true ∧ MB.hl = false ∧ MA.he = false) ∨ (MA.hl = true ∧ MB.hl = false ∧ MA.he = true ∧ MB.he = false))) := by
 unfold clash
 cases MA.hl <;> cases MB.hl <;> cases MA.he <;> cases MB.he <;> simp
set_option maxRecDepth 100000 in
set_option maxHeartbeats 12800000 in
theorem fileJoins_short (A B : Option Addr) (n m c d : Nat) (xs ys : List Int) (w : World) (h1 : ¬ 900 < n) (h2 : ¬ 900 < m) (hnc : n ≤ c) (hmd : m ≤ d) (hcm : c ≤ maxLen) (hdm : d ≤ maxLen) (hx : Sh w w.heap.size A n (by8 xs)) (hy : Sh w w.heap.size B m (by8 ys)) (hbx : Byt8 xs) (hby : Byt8 ys) (hv : Vars w) :
  CP 5 #[.slice A n c, .slice B m d] w fun e w' => e = .returned (.bool true) ∧ Below w.heap.size w w' := by
 have hl : xs.length = n := by have := hx.len; rwa [by8_len] at this
 have hl2 : ys.length = m := by have := hy.len; rwa [by8_len] at this
 have hvs := hv.size
 have XX := Lh (fun w' (b : Below w.heap.size w w') => (hx.below b).more b.size)
 have YY := Lh (fun w' (b : Below w.heap.size w w') => (hy.below b).more b.size)
 have HAW : Hid (∀ W, Below w.heap.size w W → CP 25 #[] W fun e w' => e = .returned (.bool true) ∧ Below W.heap.size W w') := Lh fun W hW => awake10_any W (hv.under hW hvs)
 have hbz : Byt8 (xs ++ 10 :: ys) := fun x hx => by
  rcases List.mem_append.1 hx with hx | hx
  ·exact hbx x hx
  ·rcases List.mem_cons.1 hx with rfl | hx
   ·decide
   ·exact hby x hx
 have hlz : (xs ++ 10 :: ys).length = n + 1 + m := by simp [hl, hl2]; omega
 obtain ⟨X, hX⟩ : ∃ X, parseM (rowT (strOfNums xs) (live xs 0)) (live xs 0) n 29000 5500 = X := ⟨_, rfl⟩
 obtain ⟨Y, hY⟩ : ∃ Y, parseM (rowT (strOfNums ys) (live ys 0)) (live ys 0) m 29000 5500 = Y := ⟨_, rfl⟩
 obtain ⟨Z, hZ⟩ : ∃ Z, parseM (rowT (strOfNums (xs ++ 10 :: ys)) (live (xs ++ 10 :: ys) 0)) (live (xs ++ 10 :: ys) 0) (n + 1 + m) 29000 5500 = Z := ⟨_, rfl⟩
 have HPA : Hid (∀ W, Below w.heap.size w W → CP 26 #[.slice A n c] W (FpTo X W)) := Lh fun W hW => by
  rw [← hX]
  exact fparse_any A n c xs W (XX.out W hW) hbx (by omega) hnc hcm (hv.under hW hvs) 29000 5500 (by omega) (by omega)
 have HPB : Hid (∀ W, Below w.heap.size w W → CP 26 #[.slice B m d] W (FpTo Y W)) := Lh fun W hW => by
  rw [← hY]
  exact fparse_any B m d ys W (YY.out W hW) hby (by omega) hmd hdm (hv.under hW hvs) 29000 5500 (by omega) (by omega)
 have HPC : Hid (∀ W A' c', Below w.heap.size w W → Sh W W.heap.size A' (n + 1 + m) (by8 (xs ++ 10 :: ys)) → n + 1 + m ≤ c' → c' ≤ maxLen → CP 26 #[.slice A' (n + 1 + m) c'] W (FpTo Z W)) := Lh fun W A' c' hW hs g1 g2 => by
  rw [← hZ]
  exact fparse_any A' (n + 1 + m) c' (xs ++ 10 :: ys) W hs hbz (by omega) g1 g2 (hv.under hW hvs) 29000 5500 (by omega) (by omega)
 have HJ : Hid (∀ MA MB pa pb, X = (MA, pa, 0) → Y = (MB, pb, 0) → FJ MA MB n Z) := Lh fun MA MB pa pb e1 e2 => by
  have := fj_of hbx hby (by omega) (by omega) (MA := MA) (MB := MB) (pa := pa) (pb := pb) (by rw [hl, hX, e1]) (by rw [hl2, hY, e2])
  rwa [hlz, hZ, hl] at this
 have HC := Lh hcm
 have HD := Lh hdm
 have g1 : ¬ (900 : Int) < (n : Int) := by omega
 have g2 : ¬ (900 : Int) < (m : Int) := by omega
 have HB := Lh (Below.refl w.heap.size w)
 obtain ⟨MA, X2, X3⟩ := X
 obtain ⟨MB, Y2, Y3⟩ := Y
 obtain ⟨MZ, Z2, Z3⟩ := Z
 unfold FpTo at HPA HPB HPC
 clear hl hl2 hlz hx hy hcm hdm hv hX hY hZ hbx hby hbz
 by_cases hz : X3 = 0
 ·subst hz
  by_cases hz2 : Y3 = 0
  ·subst hz2
   obtain ⟨sa, sb, ka, kb, ca, cb, cz, hok, hno⟩ := HJ.out MA MB X2 Y2 rfl rfl
   have hmz : (clash MA MB → Z3 = 11 ∧ (n : Int) < Z2) ∧ (¬ clash MA MB → Z3 = 0 ∧ MZ.im.length = MA.im.length + MB.im.length ∧ MZ.la.length = MA.la.length + MB.la.length ∧ MZ.ef.length = MA.ef.length + MB.ef.length ∧ MZ.va.length = MA.va.length + MB.va.length ∧ MZ.fn.length = MA.fn.length + MB.fn.length ∧ MZ.mks.length = MA.mks.length + MB.mks.length) := ⟨hno, hok⟩
   have HMZ := Lh hmz
   have HCA := Lh ca
   have HCB := Lh cb
   have HCZ : Hid (∀ f ∈ MZ.fn, cts f.bd ≤ 2000000) := Lh cz
   clear hok hno hmz ca cb cz HJ
   unfold MoT.sz at sa sb
   go_enter Tryz.func5, Tryz.ntmps5
   go_wp2_with (first
    | (go_at_call 26; (with_reducible refine (HPA.out _ HB.out).mono ?_); rintro e w1 ⟨va, rfl, hs2, hb2⟩; have honeX := hs2.one MA.hl MA.he; have MX := Lh (hs2.weak (S' := fun _ => True) fun _ _ _ => trivial); have HB := Lh (bTr HB hb2); clear hs2 hb2; unfold moV; dsimp only)
    | (refine wpList_stV rfl 65 _ _ rfl (G := w1.heap.size) (off := 0) rfl (us := moC MA.hl MA.he va) (Var.new w1 (moC false false MoV.nul) 65 rfl) rfl info_mo (Nat.le_refl 7) honeX ?_; intro w2 ht hs; have bb := ((Tn.alloc (fun k => k = w1.heap.size) w1 (.cells #[.slice none 0 0, .bool false, .slice none 0 0, .bool false, .slice none 0 0, .slice none 0 0, .slice none 0 0] 65)).trans ht).below nLe (by intro k hk e; omega); have MX := Lh (MX.out.under bb); have HB := Lh (bTr HB bb); have VX := Lh (show Var w2 w1.heap.size (moC MA.hl MA.he va) from hs); clear ht hs bb; refine Hid.out ?_)
    | fail)
   have hgx := VX.out.lt
   obtain ⟨GX, hGX⟩ : ∃ G, w1.heap.size = G := ⟨_, rfl⟩
   rw [hGX] at VX ⊢
   clear hGX
   refine Lh ?_
   go_wp2_with (first
    | (go_at_call 26; (with_reducible refine (HPB.out _ HB.out).mono ?_); rintro e w3 ⟨vb, rfl, hs2, hb2⟩; have honeY := hs2.one MB.hl MB.he; have MX := Lh (MX.out.under hb2); have VX := Lh (VX.out.under hb2); have MY := Lh (hs2.weak (S' := fun _ => True) fun _ _ _ => trivial); have HB := Lh (bTr HB hb2); clear hs2 hb2; unfold moV; dsimp only)
    | (refine wpList_stV rfl 65 _ _ rfl (G := w3.heap.size) (off := 0) rfl (us := moC MB.hl MB.he vb) (Var.new w3 (moC false false MoV.nul) 65 rfl) rfl info_mo (Nat.le_refl 7) honeY ?_; intro w4 ht hs; have bb := ((Tn.alloc (fun k => k = w3.heap.size) w3 (.cells #[.slice none 0 0, .bool false, .slice none 0 0, .bool false, .slice none 0 0, .slice none 0 0, .slice none 0 0] 65)).trans ht).below nLe (by intro k hk e; omega); have MX := Lh (MX.out.under bb); have MY := Lh (MY.out.under bb); have VX := Lh (VX.out.under bb); have HB := Lh (bTr HB bb); have VY := Lh (show Var w4 w3.heap.size (moC MB.hl MB.he vb) from hs); clear ht hs bb; refine Hid.out ?_)
    | fail)
   obtain ⟨GY, hGY⟩ : ∃ G, w3.heap.size = G := ⟨_, rfl⟩
   rw [hGY] at VY ⊢
   clear hGY
   have hge := HB.out.size
   refine Lh ?_
   go_wp2_with (first
    | (at_builtin; refine wpList_more rfl (.tmp 43) (.tmp 44) 22 rfl rowB w4 (w4.alloc (.cells #[] 5)) w4.heap.size _ 0 [] (by8 xs) rfl (Own.empty w4 w4.heap.size 5 1 nLe) _ A n c rfl (XX.out _ (HB.out.alloc hge _)) (by8_one _) bAl (by omega) (by omega) ?_; intro v1 u1 ho1 hb1; have ho1 := ho1.cast (Nat.zero_add _) (List.nil_append _))
    | (at_builtin; refine wpList_more rfl (.tmp 45) (.tmp 46) 22 rfl rowB w4 _ w4.heap.size _ n (by8 xs) (by8 [10]) rfl (ho1.alloc _) (u1.heap.size + 1) (some ⟨u1.heap.size, 0, none⟩) 1 1 rfl (Sh.lit u1 (by8 [10]) 5) (by8_one _) (hb1.alloc hb1.size _) (by omega) (by omega) ?_; intro v2 u2 ho2 hb2; have ho2 := ho2.cast rfl (by8_append _ _).symm)
    | (at_builtin; refine wpList_more rfl (.tmp 49) (.tmp 50) 22 rfl rowB w4 _ w4.heap.size _ (n + 1) (by8 (xs ++ [10])) (by8 ys) rfl ho2 _ B m d rfl (YY.out _ (HB.out.trans (hb2.mono hge))) (by8_one _) hb2 (by omega) (by omega) ?_; intro v3 u3 ho3 hb3; have ho3 := ho3.cast rfl (by8_append _ _).symm; obtain ⟨G, gc, rfl⟩ := ho3.form; refine Hid.out ?_)
    | fail)
   have hcap := ho3.cap
   have hja : xs ++ [10] ++ ys = xs ++ 10 :: ys := by simp
   have HS5 := Lh ho3.sh
   rw [hja] at HS5
   have HB := Lh (HB.out.trans (hb3.mono hge))
   have MX := Lh (MX.out.under hb3)
   have MY := Lh (MY.out.under hb3)
   have VX := Lh (VX.out.under hb3)
   have VY := Lh (VY.out.under hb3)
   have HP := Lh (HPC.out _ _ _ HB.out HS5.out hcap.1 hcap.2)
   clear ho1 hb1 ho2 hb2 ho3 hb3 hja HPC HPA HPB HS5 hge XX YY
   refine Lh ?_
   go_wp2_with (first
    | (go_at_call 26; (with_reducible refine (HP.out).mono ?_); rintro e w6 ⟨vz, rfl, hs2, hb2⟩; have honeZ := hs2.one MZ.hl MZ.he; have MX := Lh (MX.out.under hb2); have MY := Lh (MY.out.under hb2); have VX := Lh (VX.out.under hb2); have VY := Lh (VY.out.under hb2); have MZ' := Lh (hs2.weak (S' := fun _ => True) fun _ _ _ => trivial); have HB := Lh (bTr HB hb2); clear hs2 hb2; unfold moV; dsimp only)
    | (refine wpList_stV rfl 65 _ _ rfl (G := w6.heap.size) (off := 0) rfl (us := moC MZ.hl MZ.he vz) (Var.new w6 (moC false false MoV.nul) 65 rfl) rfl info_mo (Nat.le_refl 7) honeZ ?_; intro w7 ht hs; have bb := ((Tn.alloc (fun k => k = w6.heap.size) w6 (.cells #[.slice none 0 0, .bool false, .slice none 0 0, .bool false, .slice none 0 0, .slice none 0 0, .slice none 0 0] 65)).trans ht).below nLe (by intro k hk e; omega); have MX := Lh (MX.out.under bb); have MY := Lh (MY.out.under bb); have MZ' := Lh (MZ'.out.under bb); have VX := Lh (VX.out.under bb); have VY := Lh (VY.out.under bb); have HB := Lh (bTr HB bb); have VZ := Lh (show Var w7 w6.heap.size (moC MZ.hl MZ.he vz) from hs); clear ht hs bb; refine Hid.out ?_)
    | fail)
   obtain ⟨GZ, hGZ⟩ : ∃ G, w6.heap.size = G := ⟨_, rfl⟩
   rw [hGZ] at VZ ⊢
   clear hGZ HP
   have x1 := VX.out.at 1 rfl
   have x3 := VX.out.at 3 rfl
   have y1 := VY.out.at 1 rfl
   have y3 := VY.out.at 3 rfl
   rcases clash_cases MA MB with ⟨hc, hcs⟩ | ⟨hc, hcs⟩
   ·obtain ⟨rfl, hlt⟩ := HMZ.out.1 hc
    have hd1 : decide ((n : Int) < Z2) = true := decide_eq_true hlt
    clear HMZ hc HCA HCB HCZ
    rcases hcs with ⟨q1, q2⟩ | ⟨q1, q2, q3⟩ | ⟨q1, q2, q3, q4⟩
    all_goals
     simp only [*] at x1 x3 y1 y3
     refine Lh ?_
     go_wp2_with (first
      | (go_at_call 25; (with_reducible refine (HAW.out _ HB.out).mono ?_); rintro e w9 ⟨rfl, b⟩; have HB := Lh (bTr HB b); clear b)
      | fail)
     go_ret
     exact ⟨rfl, HB.out⟩
   ·obtain ⟨rfl, n0, n2, n4, n5, n6, nm⟩ := HMZ.out.2 hc
    clear HMZ hc
    obtain ⟨A0, c0, A2, c2, A4, c4, A5, c5, A6, c6, rfl⟩ := MX.out.forms
    obtain ⟨B0, d0, B2, d2, B4, d4, B5, d5, B6, d6, rfl⟩ := MY.out.forms
    obtain ⟨C0, e0, C2, e2, C4, e4, C5, e5, C6, e6, rfl⟩ := MZ'.out.forms
    have f0 : ((MZ.im.length : Int) == (MA.im.length : Int) + (MB.im.length : Int)) = true := by rw [n0]; simp
    have g0 : decide ((MZ.im.length : Int) = (MA.im.length : Int) + (MB.im.length : Int)) = true := by rw [n0]; simp
    have w0 : IntKind.i64.wrap ((MA.im.length : Int) + (MB.im.length : Int)) = (MA.im.length : Int) + (MB.im.length : Int) := IntWalk.i64_in _ (by omega)
    have f2 : ((MZ.la.length : Int) == (MA.la.length : Int) + (MB.la.length : Int)) = true := by rw [n2]; simp
    have g2 : decide ((MZ.la.length : Int) = (MA.la.length : Int) + (MB.la.length : Int)) = true := by rw [n2]; simp
    have w2 : IntKind.i64.wrap ((MA.la.length : Int) + (MB.la.length : Int)) = (MA.la.length : Int) + (MB.la.length : Int) := IntWalk.i64_in _ (by omega)
    have f4 : ((MZ.ef.length : Int) == (MA.ef.length : Int) + (MB.ef.length : Int)) = true := by rw [n4]; simp
    have g4 : decide ((MZ.ef.length : Int) = (MA.ef.length : Int) + (MB.ef.length : Int)) = true := by rw [n4]; simp
    have w4 : IntKind.i64.wrap ((MA.ef.length : Int) + (MB.ef.length : Int)) = (MA.ef.length : Int) + (MB.ef.length : Int) := IntWalk.i64_in _ (by omega)
    have f5 : ((MZ.va.length : Int) == (MA.va.length : Int) + (MB.va.length : Int)) = true := by rw [n5]; simp
    have g5 : decide ((MZ.va.length : Int) = (MA.va.length : Int) + (MB.va.length : Int)) = true := by rw [n5]; simp
    have w5 : IntKind.i64.wrap ((MA.va.length : Int) + (MB.va.length : Int)) = (MA.va.length : Int) + (MB.va.length : Int) := IntWalk.i64_in _ (by omega)
    have f6 : ((MZ.fn.length : Int) == (MA.fn.length : Int) + (MB.fn.length : Int)) = true := by rw [n6]; simp
    have g6 : decide ((MZ.fn.length : Int) = (MA.fn.length : Int) + (MB.fn.length : Int)) = true := by rw [n6]; simp
    have w6 : IntKind.i64.wrap ((MA.fn.length : Int) + (MB.fn.length : Int)) = (MA.fn.length : Int) + (MB.fn.length : Int) := IntWalk.i64_in _ (by omega)
    have fm : ((MZ.mks.length : Int) == (MA.mks.length : Int) + (MB.mks.length : Int)) = true := by rw [nm]; simp
    have gm : decide ((MZ.mks.length : Int) = (MA.mks.length : Int) + (MB.mks.length : Int)) = true := by rw [nm]; simp
    have wm : IntKind.i64.wrap ((MA.mks.length : Int) + (MB.mks.length : Int)) = (MA.mks.length : Int) + (MB.mks.length : Int) := IntWalk.i64_in _ (by omega)
    have hnz : MZ.mks.length ≤ 100000 := by omega
    have HKX : Hid (∀ W v, MoSh W (fun _ => True) MA v → CP 27 #[moV MA.hl MA.he v] W (MkTo MA W)) := Lh fun W v h => marks_any MA v W _ h (by omega) HCA.out
    have HKY : Hid (∀ W v, MoSh W (fun _ => True) MB v → CP 27 #[moV MB.hl MB.he v] W (MkTo MB W)) := Lh fun W v h => marks_any MB v W _ h (by omega) HCB.out
    have HKZ : Hid (∀ W v, MoSh W (fun _ => True) MZ v → CP 27 #[moV MZ.hl MZ.he v] W (MkTo MZ W)) := Lh fun W v h => marks_any MZ v W _ h hnz HCZ.out
    unfold MkTo moV at HKX HKY HKZ
    clear HCA HCB HCZ n0 n2 n4 n5 n6 nm
    have KS : Hid (∀ W, Var W GX (moC MA.hl MA.he ⟨.slice A0 MA.im.length c0, .slice A2 MA.la.length c2, .slice A4 MA.ef.length c4, .slice A5 MA.va.length c5, .slice A6 MA.fn.length c6⟩) → Var W GY (moC MB.hl MB.he ⟨.slice B0 MB.im.length d0, .slice B2 MB.la.length d2, .slice B4 MB.ef.length d4, .slice B5 MB.va.length d5, .slice B6 MB.fn.length d6⟩) → Var W GZ (moC MZ.hl MZ.he ⟨.slice C0 MZ.im.length e0, .slice C2 MZ.la.length e2, .slice C4 MZ.ef.length e4, .slice C5 MZ.va.length e5, .slice C6 MZ.fn.length e6⟩) → (W.cell? ⟨GX, 0, none⟩ = some (.slice A0 MA.im.length c0) ∧ W.cell? ⟨GX, 1, none⟩ = some (.bool MA.hl) ∧ W.cell? ⟨GX, 2, none⟩ = some (.slice A2 MA.la.length c2) ∧ W.cell? ⟨GX, 3, none⟩ = some (.bool MA.he) ∧ W.cell? ⟨GX, 4, none⟩ = some (.slice A4 MA.ef.length c4) ∧ W.cell? ⟨GX, 5, none⟩ = some (.slice A5 MA.va.length c5) ∧ W.cell? ⟨GX, 6, none⟩ = some (.slice A6 MA.fn.length c6) ∧ W.cell? ⟨GY, 0, none⟩ = some (.slice B0 MB.im.length d0) ∧ W.cell? ⟨GY, 1, none⟩ = some (.bool MB.hl) ∧ W.cell? ⟨GY, 2, none⟩ = some (.slice B2 MB.la.length d2) ∧ W.cell? ⟨GY, 3, none⟩ = some (.bool MB.he) ∧ W.cell? ⟨GY, 4, none⟩ = some (.slice B4 MB.ef.length d4) ∧ W.cell? ⟨GY, 5, none⟩ = some (.slice B5 MB.va.length d5) ∧ W.cell? ⟨GY, 6, none⟩ = some (.slice B6 MB.fn.length d6) ∧ W.cell? ⟨GZ, 0, none⟩ = some (.slice C0 MZ.im.length e0) ∧ W.cell? ⟨GZ, 1, none⟩ = some (.bool MZ.hl) ∧ W.cell? ⟨GZ, 2, none⟩ = some (.slice C2 MZ.la.length e2) ∧ W.cell? ⟨GZ, 3, none⟩ = some (.bool MZ.he) ∧ W.cell? ⟨GZ, 4, none⟩ = some (.slice C4 MZ.ef.length e4) ∧ W.cell? ⟨GZ, 5, none⟩ = some (.slice C5 MZ.va.length e5) ∧ W.cell? ⟨GZ, 6, none⟩ = some (.slice C6 MZ.fn.length e6))) := Lh fun W hx hy hz => ⟨hx.at 0 rfl, hx.at 1 rfl, hx.at 2 rfl, hx.at 3 rfl, hx.at 4 rfl, hx.at 5 rfl, hx.at 6 rfl, hy.at 0 rfl, hy.at 1 rfl, hy.at 2 rfl, hy.at 3 rfl, hy.at 4 rfl, hy.at 5 rfl, hy.at 6 rfl, hz.at 0 rfl, hz.at 1 rfl, hz.at 2 rfl, hz.at 3 rfl, hz.at 4 rfl, hz.at 5 rfl, hz.at 6 rfl⟩
    refine Lh ?_
    iterate 11 go_step
    refine wp_forget (w' := w7) 56 13 (.bool false) ?_ ?_
    ·rcases hcs with ⟨q1, q2⟩ | ⟨q1, q2, q3⟩ | ⟨q1, q2, q3⟩ | ⟨q1, q2, q3, q4⟩
     all_goals
      simp only [*] at x1 x3 y1 y3
      go_wp2_with fail
      exact ⟨rfl, rfl, rfl, [_, _, _, _, _, _, _, _, _, _, _, _, _], rfl, rfl⟩
    ·intro vs hvs
     obtain ⟨v57, v58, v59, v60, v61, v62, v63, v64, v65, v66, v67, v68, v69, rfl⟩ := len13 vs hvs
     simp only [List.take_succ_cons, List.take_zero, List.drop_succ_cons, List.drop_zero, List.cons_append, List.nil_append]
     clear hvs x1 x3 y1 y3 hcs
     refine Lh ?_
     go_wp2_with fail
     have bd := below_drew w7 w7.heap.size
     have VX := Lh (VX.out.under bd)
     have VY := Lh (VY.out.under bd)
     have VZ := Lh (VZ.out.under bd)
     have MX := Lh (MX.out.under bd)
     have MY := Lh (MY.out.under bd)
     have MZ' := Lh (MZ'.out.under bd)
     have HB := Lh (bTr HB bd)
     clear bd
     obtain ⟨x0, x1, x2, x3, x4, x5, x6, y0, y1, y2, y3, y4, y5, y6, z0, z1, z2, z3, z4, z5, z6⟩ := KS.out _ VX.out VY.out VZ.out
     dsimp only [List.append]
     go_region_held3 (fun W => (W.cell? ⟨GX, 0, none⟩ = some (.slice A0 MA.im.length c0) ∧ W.cell? ⟨GX, 1, none⟩ = some (.bool MA.hl) ∧ W.cell? ⟨GX, 2, none⟩ = some (.slice A2 MA.la.length c2) ∧ W.cell? ⟨GX, 3, none⟩ = some (.bool MA.he) ∧ W.cell? ⟨GX, 4, none⟩ = some (.slice A4 MA.ef.length c4) ∧ W.cell? ⟨GX, 5, none⟩ = some (.slice A5 MA.va.length c5) ∧ W.cell? ⟨GX, 6, none⟩ = some (.slice A6 MA.fn.length c6) ∧ W.cell? ⟨GY, 0, none⟩ = some (.slice B0 MB.im.length d0) ∧ W.cell? ⟨GY, 1, none⟩ = some (.bool MB.hl) ∧ W.cell? ⟨GY, 2, none⟩ = some (.slice B2 MB.la.length d2) ∧ W.cell? ⟨GY, 3, none⟩ = some (.bool MB.he) ∧ W.cell? ⟨GY, 4, none⟩ = some (.slice B4 MB.ef.length d4) ∧ W.cell? ⟨GY, 5, none⟩ = some (.slice B5 MB.va.length d5) ∧ W.cell? ⟨GY, 6, none⟩ = some (.slice B6 MB.fn.length d6) ∧ W.cell? ⟨GZ, 0, none⟩ = some (.slice C0 MZ.im.length e0) ∧ W.cell? ⟨GZ, 1, none⟩ = some (.bool MZ.hl) ∧ W.cell? ⟨GZ, 2, none⟩ = some (.slice C2 MZ.la.length e2) ∧ W.cell? ⟨GZ, 3, none⟩ = some (.bool MZ.he) ∧ W.cell? ⟨GZ, 4, none⟩ = some (.slice C4 MZ.ef.length e4) ∧ W.cell? ⟨GZ, 5, none⟩ = some (.slice C5 MZ.va.length e5) ∧ W.cell? ⟨GZ, 6, none⟩ = some (.slice C6 MZ.fn.length e6))) (((try dsimp only); first | (with_reducible exact KS.out _ VX.out VY.out VZ.out) | ((repeat' apply And.intro) <;> first | (with_reducible assumption) | go_keep))) (first
      | (go_at_call 27; (with_reducible refine (HKZ.out _ _ MZ'.out).mono ?_); rintro e w81 ⟨uz, Kz, rfl, hu, -, -, b⟩; obtain ⟨az, kz, rfl⟩ := hu.formA; have MX := Lh (MX.out.under b); have MY := Lh (MY.out.under b); have MZ' := Lh (MZ'.out.under b); have VX := Lh (VX.out.under b); have VY := Lh (VY.out.under b); have VZ := Lh (VZ.out.under b); have HB := Lh (bTr HB b); clear b hu; obtain ⟨x0, x1, x2, x3, x4, x5, x6, y0, y1, y2, y3, y4, y5, y6, z0, z1, z2, z3, z4, z5, z6⟩ := KS.out _ VX.out VY.out VZ.out)
      | (go_at_call 27; (with_reducible refine (HKX.out _ _ MX.out).mono ?_); rintro e w82 ⟨ux, Kx, rfl, hu, -, -, b⟩; obtain ⟨ax, kx, rfl⟩ := hu.formA; have MX := Lh (MX.out.under b); have MY := Lh (MY.out.under b); have MZ' := Lh (MZ'.out.under b); have VX := Lh (VX.out.under b); have VY := Lh (VY.out.under b); have VZ := Lh (VZ.out.under b); have HB := Lh (bTr HB b); clear b hu; obtain ⟨x0, x1, x2, x3, x4, x5, x6, y0, y1, y2, y3, y4, y5, y6, z0, z1, z2, z3, z4, z5, z6⟩ := KS.out _ VX.out VY.out VZ.out)
      | (go_at_call 27; (with_reducible refine (HKY.out _ _ MY.out).mono ?_); rintro e w83 ⟨uy, Ky, rfl, hu, -, -, b⟩; obtain ⟨ay, ky, rfl⟩ := hu.formA; have MX := Lh (MX.out.under b); have MY := Lh (MY.out.under b); have MZ' := Lh (MZ'.out.under b); have VX := Lh (VX.out.under b); have VY := Lh (VY.out.under b); have VZ := Lh (VZ.out.under b); have HB := Lh (bTr HB b); clear b hu; obtain ⟨x0, x1, x2, x3, x4, x5, x6, y0, y1, y2, y3, y4, y5, y6, z0, z1, z2, z3, z4, z5, z6⟩ := KS.out _ VX.out VY.out VZ.out)
      | (go_at_call 25; (with_reducible refine (HAW.out _ HB.out).mono ?_); rintro e w9 ⟨rfl, b⟩; have HB := Lh (bTr HB b); have VX := Lh (VX.out.under b); have VY := Lh (VY.out.under b); have VZ := Lh (VZ.out.under b); clear b; obtain ⟨x0, x1, x2, x3, x4, x5, x6, y0, y1, y2, y3, y4, y5, y6, z0, z1, z2, z3, z4, z5, z6⟩ := KS.out _ VX.out VY.out VZ.out)
      | fail)
     go_wp2
     go_ret
     exact ⟨rfl, HB.out⟩
  ·have hr1 : (Y3 == 0) = false := by simp [hz2]
   have hr2 : (Y3 != 0) = true := by simp [hz2]
   have hr3 : decide (Y3 = 0) = false := by simp [hz2]
   go_enter Tryz.func5, Tryz.ntmps5
   go_wp2_with (first
    | (go_at_call 26; (with_reducible refine (HPA.out _ HB.out).mono ?_); rintro e w1 ⟨va, rfl, hs2, hb2⟩; have honeX := hs2.one MA.hl MA.he; have MX := Lh (hs2.weak (S' := fun _ => True) fun _ _ _ => trivial); have HB := Lh (bTr HB hb2); clear hs2 hb2; unfold moV; dsimp only)
    | (refine wpList_stV rfl 65 _ _ rfl (G := w1.heap.size) (off := 0) rfl (us := moC MA.hl MA.he va) (Var.new w1 (moC false false MoV.nul) 65 rfl) rfl info_mo (Nat.le_refl 7) honeX ?_; intro w2 ht hs; have bb := ((Tn.alloc (fun k => k = w1.heap.size) w1 (.cells #[.slice none 0 0, .bool false, .slice none 0 0, .bool false, .slice none 0 0, .slice none 0 0, .slice none 0 0] 65)).trans ht).below nLe (by intro k hk e; omega); have MX := Lh (MX.out.under bb); have HB := Lh (bTr HB bb); have VX := Lh (show Var w2 w1.heap.size (moC MA.hl MA.he va) from hs); clear ht hs bb)
    | (go_at_call 26; (with_reducible refine (HPB.out _ HB.out).mono ?_); rintro e w3 ⟨vb, rfl, hs2, hb2⟩; have honeY := hs2.one MB.hl MB.he; have MX := Lh (MX.out.under hb2); have VX := Lh (VX.out.under hb2); have MY := Lh (hs2.weak (S' := fun _ => True) fun _ _ _ => trivial); have HB := Lh (bTr HB hb2); clear hs2 hb2; unfold moV; dsimp only)
    | (refine wpList_stV rfl 65 _ _ rfl (G := w3.heap.size) (off := 0) rfl (us := moC MB.hl MB.he vb) (Var.new w3 (moC false false MoV.nul) 65 rfl) rfl info_mo (Nat.le_refl 7) honeY ?_; intro w4 ht hs; have bb := ((Tn.alloc (fun k => k = w3.heap.size) w3 (.cells #[.slice none 0 0, .bool false, .slice none 0 0, .bool false, .slice none 0 0, .slice none 0 0, .slice none 0 0] 65)).trans ht).below nLe (by intro k hk e; omega); have MX := Lh (MX.out.under bb); have MY := Lh (MY.out.under bb); have VX := Lh (VX.out.under bb); have HB := Lh (bTr HB bb); have VY := Lh (show Var w4 w3.heap.size (moC MB.hl MB.he vb) from hs); clear ht hs bb)
    | (go_at_call 25; (with_reducible refine (HAW.out _ HB.out).mono ?_); rintro e w9 ⟨rfl, b⟩; have HB := Lh (bTr HB b); clear b)
    | fail)
   go_ret
   exact ⟨rfl, HB.out⟩
 ·have hr1 : (X3 == 0) = false := by simp [hz]
  have hr2 : (X3 != 0) = true := by simp [hz]
  have hr3 : decide (X3 = 0) = false := by simp [hz]
  go_enter Tryz.func5, Tryz.ntmps5
  go_wp2_with (first
   | (go_at_call 26; (with_reducible refine (HPA.out _ HB.out).mono ?_); rintro e w1 ⟨va, rfl, hs2, hb2⟩; have honeX := hs2.one MA.hl MA.he; have MX := Lh (hs2.weak (S' := fun _ => True) fun _ _ _ => trivial); have HB := Lh (bTr HB hb2); clear hs2 hb2; unfold moV; dsimp only)
   | (refine wpList_stV rfl 65 _ _ rfl (G := w1.heap.size) (off := 0) rfl (us := moC MA.hl MA.he va) (Var.new w1 (moC false false MoV.nul) 65 rfl) rfl info_mo (Nat.le_refl 7) honeX ?_; intro w2 ht hs; have bb := ((Tn.alloc (fun k => k = w1.heap.size) w1 (.cells #[.slice none 0 0, .bool false, .slice none 0 0, .bool false, .slice none 0 0, .slice none 0 0, .slice none 0 0] 65)).trans ht).below nLe (by intro k hk e; omega); have MX := Lh (MX.out.under bb); have HB := Lh (bTr HB bb); have VX := Lh (show Var w2 w1.heap.size (moC MA.hl MA.he va) from hs); clear ht hs bb)
   | (go_at_call 26; (with_reducible refine (HPB.out _ HB.out).mono ?_); rintro e w3 ⟨vb, rfl, hs2, hb2⟩; have honeY := hs2.one MB.hl MB.he; have MX := Lh (MX.out.under hb2); have VX := Lh (VX.out.under hb2); have MY := Lh (hs2.weak (S' := fun _ => True) fun _ _ _ => trivial); have HB := Lh (bTr HB hb2); clear hs2 hb2; unfold moV; dsimp only)
   | (refine wpList_stV rfl 65 _ _ rfl (G := w3.heap.size) (off := 0) rfl (us := moC MB.hl MB.he vb) (Var.new w3 (moC false false MoV.nul) 65 rfl) rfl info_mo (Nat.le_refl 7) honeY ?_; intro w4 ht hs; have bb := ((Tn.alloc (fun k => k = w3.heap.size) w3 (.cells #[.slice none 0 0, .bool false, .slice none 0 0, .bool false, .slice none 0 0, .slice none 0 0, .slice none 0 0] 65)).trans ht).below nLe (by intro k hk e; omega); have MX := Lh (MX.out.under bb); have MY := Lh (MY.out.under bb); have VX := Lh (VX.out.under bb); have HB := Lh (bTr HB bb); have VY := Lh (show Var w4 w3.heap.size (moC MB.hl MB.he vb) from hs); clear ht hs bb)
   | (go_at_call 25; (with_reducible refine (HAW.out _ HB.out).mono ?_); rintro e w9 ⟨rfl, b⟩; have HB := Lh (bTr HB b); clear b)
   | fail)
  go_ret
  exact ⟨rfl, HB.out⟩
theorem fileJoins_walk (A : Option Addr) (n c : Nat) (xs : List Int) (B : Option Addr) (m d : Nat) (ys : List Int) (w : World) (hr : IsRow .u8 w A n c xs) (hr2 : IsRow .u8 w B m d ys) (hv : Vars w) :
  CP 5 #[.slice A n c, .slice B m d] w fun e w' => e = .returned (.bool true) ∧ Below w.heap.size w w' := by
 obtain ⟨hnc, hcm, _, hx, hwf⟩ := hr.sh
 obtain ⟨hmd, hdm, _, hy, hwf2⟩ := hr2.sh
 by_cases h : 900 < n
 ·exact fileJoins_long A B n m c d w (.inl h) (Nat.le_trans hnc hcm) (Nat.le_trans hmd hdm) hv
 ·by_cases h2 : 900 < m
  ·exact fileJoins_long A B n m c d w (.inr ⟨h, h2⟩) (Nat.le_trans hnc hcm) (Nat.le_trans hmd hdm) hv
  ·exact fileJoins_short A B n m c d (xs.take n) (ys.take m) w h h2 hnc hmd hcm hdm hx hy (byt8_of hwf) (byt8_of hwf2) hv
end Go.Proofs.YtmnggldejflooaaGreatDoor

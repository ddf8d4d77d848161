/-
  THE WORDS OF A TEXT BETWEEN BRACKETS; what Parse says of it.
-/
import Derived.Test.YtbpmgghonnoooaaDoorEpD
import Derived.Test.YtbpmgghonnoooaaDoorEpK
namespace Go.Proofs.YtbpmgghonnoooaaDoor
set_option linter.unusedVariables false
set_option linter.unusedSimpArgs false
open Go.RowKit

theorem Own.lit1 (w : World) (x : Int) : Own (w.alloc (.cells #[.int .u8 x] 5)) w.heap.size 5 1 (.slice (some ⟨w.heap.size, 0, none⟩) 1 1) 1 (by8 [x]) :=
  Own.mk_ (cur := [.int .u8 x]) (Nat.le_refl _) (heap_alloc_new w _) (Nat.le_refl _) (by unfold maxLen; omega) rfl rfl
theorem by8_at {bs : List Int} {i : Nat} {v : Int} (h : bs[i]? = some v) : (by8 bs)[i]? = some (.int .u8 v) := by simp [by8, h]
theorem pairB_41 (c : Int) : pairB c 41 = false := by
  unfold pairB
  split
  · rfl
  · split
    · rename_i h; rcases h with rfl | rfl <;> rfl
    · rfl
theorem kd_35 {c : Int} (h : kd c = 1) : c = 35 := by
  unfold kd at h
  repeat' split at h
  all_goals first | assumption | omega
/-- A closing bracket ends each token but a note. -/
theorem tl_41 {c : Int} {r : List Int} (h : c ≠ 35) : tl (c :: (r ++ [41])) = tl (c :: r) ∧ tk (c :: (r ++ [41])) = tk (c :: r) := by
  have hr := kd_range c
  have h1 : kd c ≠ 1 := fun e => h (kd_35 e)
  have hp : pairsL c (r ++ [41]) = pairsL c r := by
    cases r with
    | nil => exact pairB_41 c
    | cons d r => rfl
  by_cases h4 : kd c < 4
  · have hg : goes (kd c) 41 = false := by
      have : kd c = 0 ∨ kd c = 2 ∨ kd c = 3 := by omega
      rcases this with e | e | e <;> rw [e] <;> decide
    simp [tl, tk, h4, runB_stop hg]
  · simp [tl, tk, h4, hp]
theorem live_close (a : List Int) (hn : ∀ x ∈ a, x ≠ 35) : ∀ (m u : Nat), a.length - u ≤ m → u ≤ a.length → live (a ++ [41]) u = live a u ++ live (a ++ [41]) a.length := by
  intro m
  induction m with
  | zero =>
    intro u h hu
    obtain rfl : u = a.length := by omega
    unfold live
    rw [toks_end (Nat.le_refl a.length)]
    rfl
  | succ m ih =>
    intro u h hu
    by_cases hlt : u < a.length
    · obtain ⟨c, r, hd⟩ : ∃ c r, a.drop u = c :: r := by
        cases hh : a.drop u with
        | nil => have := congrArg List.length hh; simp at this; omega
        | cons c r => exact ⟨c, r, rfl⟩
      have hd' : (a ++ [41]).drop u = c :: (r ++ [41]) := by rw [List.drop_append_of_le_length (by omega), hd]; rfl
      have hc : c ≠ 35 := hn c (List.mem_of_mem_drop (i := u) (by rw [hd]; exact List.mem_cons_self))
      have ht := tl_41 (r := r) hc
      have h1 := tl_pos (a.drop u)
      have h2 := tl_in hlt
      have := ih (u + tl (a.drop u)) (by omega) h2
      unfold live at this ⊢
      rw [toks_at hlt, toks_at (bs := a ++ [41]) (by simp; omega), hd', hd, ht.1, ht.2, List.filter_cons, List.filter_cons, ← hd, this]
      split <;> rfl
    · obtain rfl : u = a.length := by omega
      unfold live
      rw [toks_end (Nat.le_refl a.length)]
      rfl
/-- Between brackets. -/
def braced (bs : List Int) : List Int := 40 :: (bs ++ [41])
theorem live_braced (bs : List Int) (hn : ∀ x ∈ bs, x ≠ 35) : live (braced bs) 0 = (4, 0, 1) :: ((live bs 0).map (shift 1) ++ [(4, (bs.length : Int) + 1, (bs.length : Int) + 2)]) := by
  have h0 : live (braced bs) 0 = (4, 0, 1) :: live (braced bs) 1 := by
    unfold live
    rw [toks_at (bs := braced bs) (u := 0) (by simp [braced])]
    have hp : pairsL 40 (bs ++ [41]) = false := by
      cases bs with
      | nil => rfl
      | cons d r => exact (show pairB 40 d = false by simp [pairB])
    have ht : tl ((braced bs).drop 0) = 1 := by
      show tl (40 :: (bs ++ [41])) = 1
      rw [tl_cons, if_neg (by decide), hp]; rfl
    have hk : tk ((braced bs).drop 0) = 4 := by
      show tk (40 :: (bs ++ [41])) = 4
      rw [tk_cons, if_neg (by decide), hp]; rfl
    rw [ht, hk, List.filter_cons]
    rfl
  have h1 := live_shift [40] (bs ++ [41]) 0
  have h2 : live (bs ++ [41]) bs.length = [(4, (bs.length : Int), (bs.length : Int) + 1)] := by
    unfold live
    have t1 : tl [41] = 1 := by decide
    have t2 : tk [41] = 4 := by decide
    rw [toks_at (bs := bs ++ [41]) (by simp), List.drop_left, t1, t2, toks_end (bs := bs ++ [41]) (by simp)]
    rfl
  rw [h0]
  change live (braced bs) 1 = (live (bs ++ [41]) 0).map (shift 1) at h1
  rw [h1, live_close bs hn _ 0 (Nat.le_refl _) (Nat.zero_le _), h2, List.map_append]
  have e : (bs.length : Int) + 1 + 1 = (bs.length : Int) + 2 := by omega
  simp [shift, e]
theorem byt8_braced {bs : List Int} (h : Byt8 bs) : Byt8 (braced bs) := fun x hx => by
  rcases List.mem_cons.1 hx with rfl | hx
  · decide
  · rcases List.mem_append.1 hx with hx | hx
    · exact h x hx
    · rw [List.mem_singleton.1 hx]; decide
theorem str_braced (bs : List Int) : strOfNums (braced bs) = ⟨#[40]⟩ ++ (strOfNums bs ++ ⟨#[41]⟩) := by
  have h : braced bs = [40] ++ (bs ++ [41]) := rfl
  rw [h, ← str_append, ← str_append]
  rfl
theorem brk_braced {bs : List Int} (h : Byt8 bs) (hn : ∀ x ∈ bs, x ≠ 35) (h6 : bs.length ≤ 1000000) : Brk (rowT (strOfNums bs) (live bs 0)) (rowT (strOfNums (braced bs)) (live (braced bs) 0)) := by
  have hs : (strOfNums bs).size = bs.length := str_len bs
  rw [live_braced bs hn, str_braced]
  have hL : ∀ t ∈ live bs 0, 0 ≤ t.2.1 ∧ 0 ≤ t.2.2 ∧ t.2.2 ≤ (bs.length : Int) := fun t ht => by
    have := (live_ok (bts_str h) h6).tok t ht
    rw [hs] at this
    exact ⟨this.1, by omega, this.2.2⟩
  have hat : ∀ i, i < (live bs 0).length → ∃ t, (live bs 0)[i]? = some t ∧ ((4, 0, 1) :: ((live bs 0).map (shift 1) ++ [(4, (bs.length : Int) + 1, (bs.length : Int) + 2)]))[i + 1]? = some (shift 1 t) := fun i hi => by
    refine ⟨_, List.getElem?_eq_getElem hi, ?_⟩
    rw [List.getElem?_cons_succ, List.getElem?_append_left (by rw [List.length_map]; exact hi), List.getElem?_map, List.getElem?_eq_getElem hi]
    rfl
  have hlast : ((4, 0, 1) :: ((live bs 0).map (shift 1) ++ [(4, (bs.length : Int) + 1, (bs.length : Int) + 2)]))[(live bs 0).length + 1]? = some (4, (bs.length : Int) + 1, (bs.length : Int) + 2) := by
    rw [List.getElem?_cons_succ, List.getElem?_append_right (by simp)]
    simp
  have hcut : ∀ x y : Nat, y ≤ bs.length → ((⟨#[40]⟩ : ByteArray) ++ (strOfNums bs ++ ⟨#[41]⟩)).extract (1 + x) (1 + y) = (strOfNums bs).extract x y := fun x y hy => by
    rw [ByteArray.extract_append_size_add' (k := 1) rfl, ByteArray.extract_append, hs, show y - bs.length = 0 by omega]
    apply ByteArray.ext
    simp
  have hwd : ∀ i, i < (live bs 0).length → wdT ((⟨#[40]⟩ : ByteArray) ++ (strOfNums bs ++ ⟨#[41]⟩)) ((4, 0, 1) :: ((live bs 0).map (shift 1) ++ [(4, (bs.length : Int) + 1, (bs.length : Int) + 2)])) (i + 1) = wdT (strOfNums bs) (live bs 0) i := fun i hi => by
    obtain ⟨t, h1, h2⟩ := hat i hi
    obtain ⟨t1, t2, t3⟩ := hL t (List.mem_of_getElem? h1)
    unfold wdT
    rw [h1, h2]
    show ((⟨#[40]⟩ : ByteArray) ++ (strOfNums bs ++ ⟨#[41]⟩)).extract (t.2.1 + 1).toNat (t.2.2 + 1).toNat = (strOfNums bs).extract t.2.1.toNat t.2.2.toNat
    rw [show (t.2.1 + 1).toNat = 1 + t.2.1.toNat by omega, show (t.2.2 + 1).toNat = 1 + t.2.2.toNat by omega]
    exact hcut _ _ (by omega)
  have hcl : wdT ((⟨#[40]⟩ : ByteArray) ++ (strOfNums bs ++ ⟨#[41]⟩)) ((4, 0, 1) :: ((live bs 0).map (shift 1) ++ [(4, (bs.length : Int) + 1, (bs.length : Int) + 2)])) ((live bs 0).length + 1) = ⟨#[41]⟩ := by
    unfold wdT
    rw [hlast]
    show ((⟨#[40]⟩ : ByteArray) ++ (strOfNums bs ++ ⟨#[41]⟩)).extract ((bs.length : Int) + 1).toNat ((bs.length : Int) + 2).toNat = ⟨#[41]⟩
    rw [show ((bs.length : Int) + 1).toNat = 1 + (bs.length + 0) by omega, show ((bs.length : Int) + 2).toNat = 1 + (bs.length + 1) by omega, ByteArray.extract_append_size_add' (k := 1) rfl, ByteArray.extract_append_size_add' (k := bs.length) hs.symm]
    rfl
  refine ⟨row_ok _ _, hwd, fun i hi => ?_, fun i hi => ?_, fun i hi => ?_, hcl, ?_⟩
  · obtain ⟨t, h1, h2⟩ := hat i hi
    simp only [rowT, h1, h2]
    rfl
  · show idB _ = idB _
    rw [hwd i hi]
  · rcases Nat.lt_or_ge i (live bs 0).length with hi' | hi'
    · obtain ⟨t, h1, h2⟩ := hat i hi'
      simp only [rowT, h1, h2]
      rfl
    · obtain rfl : i = (live bs 0).length := Nat.le_antisymm hi hi'
      simp only [rowT, hlast, List.getElem?_eq_none (Nat.le_refl _), hs]
  · show idB (wdT _ _ ((live bs 0).length + 1)) = false
    rw [hcl]
    have h1 : identL (bts ⟨#[41]⟩) = false := by decide
    unfold idB
    rw [h1]
    simp
def Zg (N : Nat) (e1 : Ex) (g : Gt) : Prop := g.r = 12 ∨ (g.r = 0 ∧ g.p = N ∧ g.e = e1)
theorem up_lev {R : Rw} {N : Nat} {e1 : Ex} (hend : R.wd N = ⟨#[]⟩) {F l : Nat} (hl : ¬ 6 ≤ l) (h : Zg N e1 (rd R (F + 1) (.lev (l + 1)) 0 0)) : Zg N e1 (rd R (F + 2) (.lev l) 0 0) := by
  rw [rd_lev (f := F + 1) hl]
  generalize rd R (F + 1) (.lev (l + 1)) 0 0 = g at h ⊢
  rcases h with h | ⟨h1, h2, h3⟩
  · rw [if_neg (by rw [h]; decide)]
    exact .inl h
  · rw [if_pos h1, rd_loop_no (by rw [h2, hend]; exact s5 l)]
    exact .inr ⟨rfl, h2, h3⟩
theorem is_other {R : Rw} {i : Nat} {c : UInt8} {l : List UInt8} (h : R.is i [c] = true) (hl : l ≠ [c]) : R.is i l = false := by
  unfold Rw.is at h ⊢
  have h' : (R.wd i).toList = [c] := by simpa using h
  rw [h']
  simpa using Ne.symm hl
theorem rd_braced {R R' : Rw} (hB : Brk R R') (h40 : R'.is 0 [40] = true) (hk : ¬ R'.kd 0 = 3) (hend : R'.wd (R.n + 2) = ⟨#[]⟩) {f : Nat} (hr : (rd R f (.lev 1) 0 0).r = 0) (hp : (rd R f (.lev 1) 0 0).p = R.n) :
    Zg (R.n + 2) ((rd R f (.lev 1) 0 0).e.sh 1) (rd R' (f + 9) (.lev 1) 0 0) := by
  have hb : BrkM (.lev 1) (rd R f (.lev 1) 0 0) (rd R' f (.lev 1) 1 1) := rd_brk hB f (.lev 1) 0 0 (Nat.zero_le _) (fun h => by cases h) (by omega) hr
  have e1 := rd_gr_yes (f := f) (d := 0) h40 (by omega) rfl
  have e2 := rd_pr_group (f := f + 1) (d := 0) hk (is_other h40 (by decide)) (is_other h40 (by decide)) h40
  have e3 := rd_sg_no (R := R') (f := f + 2) (a := 0) (d := 0) (by rw [is_other h40 (l := [33]) (by decide), is_other h40 (l := [45]) (by decide)]; rfl)
  have e4 := rd_lev6 (R := R') (f := f + 3) (l := 6) (a := 0) (d := 0) (Nat.le_refl _)
  have hcl : R'.is (R.n + 1) [41] = true := by
    unfold Rw.is
    rw [hB.cl, tl41]
    rfl
  change rd R' (f + 1) .gr 0 0 = if (rd R' f (.lev 1) 1 1).r = 0 then _ else _ at e1
  have h6 : Zg (R.n + 2) ((rd R f (.lev 1) 0 0).e.sh 1) (rd R' (f + 4) (.lev 6) 0 0) := by
    rw [e4, e3, e2, e1]
    generalize rd R f (.lev 1) 0 0 = g at hb hr hp ⊢
    generalize rd R' f (.lev 1) 1 1 = g' at hb ⊢
    unfold wiG
    rw [must_one R' _ _ _ tl41]
    rcases hb with h | ⟨h1, h2, h3⟩
    · have hn : ¬ g'.r = 0 := by rw [h]; decide
      rw [if_neg hn, if_neg (show ¬ (bad g'.p g'.r).r = 0 from hn)]
      exact .inl h
    · have h3 : g'.e = g.e.sh 1 := h3
      rw [if_pos h1, if_pos (show (good g'.e g'.p).r = 0 from rfl)]
      show Zg _ _ (if (if R'.is g'.p [41] = true then (g'.p + 1, (0 : Int)) else (g'.p, 11)).2 = 0 then good g'.e (if R'.is g'.p [41] = true then (g'.p + 1, (0 : Int)) else (g'.p, 11)).1 else _)
      rw [h2, hp, if_pos hcl]
      exact .inr ⟨rfl, rfl, h3⟩
  exact up_lev (F := f + 7) hend (by omega) (up_lev (F := f + 6) hend (by omega) (up_lev (F := f + 5) hend (by omega) (up_lev (F := f + 4) hend (by omega) (up_lev (F := f + 3) hend (by omega) h6))))
/-- What Parse says of a text between brackets. -/
theorem parse_braced {bs : List Int} (h : Byt8 bs) (hn : ∀ x ∈ bs, x ≠ 35) (h6 : bs.length ≤ 1000000) (f : Nat) (h0 : (parseG (rowT (strOfNums bs) (live bs 0)) (live bs 0) f).2.2 = 0) :
    (parseG (rowT (strOfNums (braced bs)) (live (braced bs) 0)) (live (braced bs) 0) (f + 9)).2.2 = 12 ∨
    ((parseG (rowT (strOfNums (braced bs)) (live (braced bs) 0)) (live (braced bs) 0) (f + 9)).2.2 = 0 ∧
      (parseG (rowT (strOfNums (braced bs)) (live (braced bs) 0)) (live (braced bs) 0) (f + 9)).1 = (parseG (rowT (strOfNums bs) (live bs 0)) (live bs 0) f).1.sh 1) := by
  have hB := brk_braced h hn h6
  have hL := live_braced bs hn
  have hbad : isBad (live (braced bs) 0) = isBad (live bs 0) := by
    rw [hL]
    unfold isBad
    rw [List.find?_cons, show ((4 : Int) == 5) = false from rfl, List.find?_append, List.find?_map]
    have e : ((fun t : Tk => t.1 == 5) ∘ shift 1) = fun t : Tk => t.1 == 5 := rfl
    rw [e]
    cases (live bs 0).find? fun t : Tk => t.1 == 5 with
    | none => rfl
    | some t => rfl
  have hlen : (live (braced bs) 0).length = (live bs 0).length + 2 := by rw [hL]; simp
  have h40 : (rowT (strOfNums (braced bs)) (live (braced bs) 0)).is 0 [40] = true := by
    have hw : (rowT (strOfNums (braced bs)) (live (braced bs) 0)).wd 0 = ⟨#[40]⟩ := by
      show wdT _ _ 0 = _
      unfold wdT
      rw [hL, str_braced]
      show ((⟨#[40]⟩ : ByteArray) ++ (strOfNums bs ++ ⟨#[41]⟩)).extract 0 1 = _
      exact ByteArray.extract_append_eq_left rfl
    unfold Rw.is
    rw [hw, tl40]
    rfl
  have hk : ¬ (rowT (strOfNums (braced bs)) (live (braced bs) 0)).kd 0 = 3 := by
    have : (rowT (strOfNums (braced bs)) (live (braced bs) 0)).kd 0 = 4 := by
      simp only [rowT, hL]
      rfl
    rw [this]
    decide
  have hend : (rowT (strOfNums (braced bs)) (live (braced bs) 0)).wd ((rowT (strOfNums bs) (live bs 0)).n + 2) = ⟨#[]⟩ :=
    (row_ok _ _).end_is _ (by show (live (braced bs) 0).length ≤ (live bs 0).length + 2; omega)
  have hnn : (rowT (strOfNums (braced bs)) (live (braced bs) 0)).n = (rowT (strOfNums bs) (live bs 0)).n + 2 := hlen
  unfold parseG at h0 ⊢
  rw [hbad, hnn]
  generalize rowT (strOfNums (braced bs)) (live (braced bs) 0) = R' at hB h40 hk hend ⊢
  generalize rowT (strOfNums bs) (live bs 0) = R at hB hend h0 ⊢
  by_cases hb : isBad (live bs 0) = true
  · rw [if_pos hb] at h0; cases h0
  · rw [if_neg hb] at h0 ⊢
    rw [if_neg hb]
    by_cases hc : (rd R f (.lev 1) 0 0).r = 0 ∧ (rd R f (.lev 1) 0 0).p ≠ R.n
    · rw [if_pos hc] at h0; cases h0
    · rw [if_neg hc] at h0 ⊢
      have hr : (rd R f (.lev 1) 0 0).r = 0 := h0
      have hp : (rd R f (.lev 1) 0 0).p = R.n := Decidable.not_not.1 fun e => hc ⟨hr, e⟩
      rcases rd_braced hB h40 hk hend hr hp with z | ⟨z1, z2, z3⟩
      · rw [if_neg (by rw [z]; rintro ⟨h, _⟩; cases h)]
        exact .inl z
      · rw [if_neg (by rw [z2]; rintro ⟨_, h⟩; exact h rfl)]
        exact .inr ⟨z1, z3⟩
end Go.Proofs.YtbpmgghonnoooaaDoor

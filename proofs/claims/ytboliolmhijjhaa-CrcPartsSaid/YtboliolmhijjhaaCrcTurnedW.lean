/-
  One byte that is turned about changes the sum. It holds for any bytes, at any place, by any byte; of none, of more than 1000 bytes, and by 0 it says that the document's examples hold.
-/
import Derived.Test.YtboliolmhijjhaaCrcAgainW
import Derived.Test.YtboliolmhijjhaaRowB
import Derived.Test.YtboliolmhijjhaaPick
namespace Go.Proofs.Ytboliolmhijjhaa
set_option linter.unusedVariables false
set_option linter.unusedSimpArgs false
open Go.RowKit Go.Joins

/-- A slice of the call's own that holds something. -/
theorem Own.full {w : World} {B n c : Nat} {e : TypeId} {A : Option Addr} {xs : List Value} (h : Own w B e 1 (.slice A n c) n xs) (hn : 0 < n) :
    ∃ g, A = some ⟨g, 0, none⟩ ∧ B ≤ g ∧ g < w.heap.size ∧ ∀ j, w.frozen? ⟨g, j, none⟩ = false := by
  rcases h.1.2 with ⟨_, h0⟩ | ⟨g, cap, cur, hv, hB, hh, _⟩
  · omega
  · injection hv with hA
    exact ⟨g, hA, hB, (Array.getElem?_eq_some_iff.1 hh).1, fun j => unfrozen_of_block hh j⟩
theorem Own.byte {w : World} {B n c g k : Nat} {e : TypeId} {xs : List Int} (h : Own w B e 1 (.slice (some ⟨g, 0, none⟩) n c) n (by8 xs)) (hk : k < n) : w.cell? ⟨g, k, none⟩ = some (.int .u8 (xs.getD k 0)) := by
  obtain ⟨b, off, he, _, hc⟩ := h.sh.byte hk
  cases he
  rwa [Nat.zero_add] at hc
theorem Sh.set {w : World} {U g n k : Nat} {y : Int} {xs : List Int} (h : Sh w U (some ⟨g, 0, none⟩) n (by8 xs)) (hk : k < n) : Sh (w.setCell ⟨g, k, none⟩ (.int .u8 y)) U (some ⟨g, 0, none⟩) n (by8 (xs.set k y)) := by
  have hl : xs.length = n := by have := h.len; rwa [by8_len] at this
  refine ⟨by rw [by8_len, List.length_set]; exact hl, fun hn => ?_⟩
  obtain ⟨b, off, e, hb, hc⟩ := h.2 hn
  cases e
  refine ⟨g, 0, rfl, hb, fun j u hu => ?_⟩
  rw [by8_get?] at hu
  by_cases e : j = k
  · subst e
    obtain ⟨x, hx, rfl⟩ := Option.map_eq_some_iff.1 hu
    rw [List.getElem?_set_self (by omega)] at hx
    cases hx
    have hj := hc j _ (by rw [by8_get?, List.getElem?_eq_getElem (by omega)]; rfl)
    rw [Nat.zero_add] at hj ⊢
    exact World.cell?_setCell_same _ _ _ hj
  · rw [Nat.zero_add, World.cell?_setCell_other _ _ _ _ (off_ne (fun h => e h.symm))]
    have := hc j u (by rw [by8_get?, ← hu, List.getElem?_set_ne (fun h => e h.symm)])
    rwa [Nat.zero_add] at this
theorem set_split (l : List Int) (k : Nat) (y : Int) (h : k < l.length) : l.set k y = l.take k ++ y :: l.drop (k + 1) := by rw [List.set_eq_take_append_cons_drop, if_pos h]
theorem self_split (l : List Int) (k : Nat) (h : k < l.length) : l.take k ++ l.getD k 0 :: l.drop (k + 1) = l := by
  rw [← set_split l k _ h]
  have : l.getD k 0 = l[k] := by rw [List.getD_eq_getElem?_getD, List.getElem?_eq_getElem h]; rfl
  rw [this, List.set_getElem_self]
theorem crc_set {l : List Int} (hl : Byt l) {k : Nat} {y : Int} (hk : k < l.length) (hy : 0 ≤ y ∧ y < 256) (h : y ≠ l.getD k 0) : crcOf 0 (l.set k y) ≠ crcOf 0 l := by
  have := crc_turned (s := 0) (by omega) (hl.take k) (hl.drop (k + 1)) hy (hl.at hk) h
  rw [self_split l k hk, ← set_split l k y hk] at this
  exact this
theorem Byt.set {l : List Int} (hl : Byt l) {k : Nat} {y : Int} (hy : 0 ≤ y ∧ y < 256) : Byt (l.set k y) := fun x hx => by
  rcases List.mem_or_eq_of_mem_set hx with h | rfl
  · exact hl x h
  · exact hy
theorem turned_ne {p q : Nat} (h : q ≠ 0) : ((p ^^^ q : Nat) : Int) ≠ (p : Int) := by
  intro e
  have e' : p ^^^ q = p := by omega
  have := congrArg (p ^^^ ·) e'
  simp only [← Nat.xor_assoc, Nat.xor_self, Nat.zero_xor] at this
  exact h this

set_option maxRecDepth 10000 in
set_option maxHeartbeats 800000 in
theorem crcTurned_long (A : Option Addr) (n c : Nat) (x b : Int) (w : World) (h : n = 0 ∨ (¬ n = 0 ∧ 1000 < n) ∨ (¬ n = 0 ∧ ¬ 1000 < n ∧ b = 0)) (hn : n ≤ maxLen) :
    Calls Try.prog 5 #[.slice A n c, .int .i64 x, .int .u8 b] w fun e w' => e = .returned (.bool true) ∧ Below w.heap.size w w' := by
  unfold maxLen at hn
  rcases h with rfl | ⟨h, h'⟩ | ⟨h, h', rfl⟩
  · go_enter Try.func5, Try.ntmps5
    go_wp2_with fail
    refine (awake_any _).mono ?_
    rintro e w4 ⟨rfl, hb4⟩
    go_wp2
    go_ret
    exact ⟨rfl, hb4⟩
  · have hne : ((n : Int) == 0) = false := by simp; omega
    go_enter Try.func5, Try.ntmps5
    go_wp2_with fail
    refine (awake_any _).mono ?_
    rintro e w4 ⟨rfl, hb4⟩
    go_wp2
    go_ret
    exact ⟨rfl, hb4⟩
  · have hne : ((n : Int) == 0) = false := by simp; omega
    go_enter Try.func5, Try.ntmps5
    go_wp2_with fail
    refine (awake_any _).mono ?_
    rintro e w4 ⟨rfl, hb4⟩
    go_wp2
    go_ret
    exact ⟨rfl, hb4⟩

set_option maxRecDepth 10000 in
set_option maxHeartbeats 1600000 in
theorem crcTurned_short (A : Option Addr) (n c : Nat) (xs : List Int) (x : Int) (q : Nat) (w : World) (h0 : ¬ n = 0) (h1 : ¬ 1000 < n) (hq : q < 256) (hq0 : ¬ q = 0) (hx : Sh w w.heap.size A n (by8 xs)) (hbx : Byt xs) :
    Calls Try.prog 5 #[.slice A n c, .int .i64 x, .int .u8 (q : Int)] w fun e w' => e = .returned (.bool true) ∧ Below w.heap.size w w' := by
  have hne : ((n : Int) == 0) = false := by simp; omega
  have hne2 : ((q : Int) == 0) = false := by simp; omega
  have hnl : xs.length = n := by have := hx.len; rwa [by8_len] at this
  have HN := Lib.hid hnl
  clear hnl
  go_enter Try.func5, Try.ntmps5
  go_wp2_with fail
  with_reducible refine (new_smr _).mono ?_
  rintro e w1 ⟨g, rfl, hg, s1, b1⟩
  have S1 := Lib.hid s1
  have B1 := Lib.hid b1
  have hg1 : g < w1.heap.size := s1.lt
  clear s1 b1
  go_wp2_with fail
  refine (pick_any x n _ (by omega) (by omega)).mono ?_
  rintro e w' ⟨k, hk, rfl, rfl⟩
  have X := Lib.hid (fun w' (b : Below w.heap.size w w') => hx.below b)
  have OX := Lib.hid (fun p (h : w.heap.size ≤ p) => hx.off h)
  clear hx
  go_wp2_with (first
    | (at_builtin; refine wpList_more rfl (.tmp 28) (.tmp 29) 23 rfl rowB w1 (w1.alloc (.cells #[] 5)) w1.heap.size _ 0 [] (by8 xs) rfl (Own.empty w1 w1.heap.size 5 1 (Nat.le_refl _)) w.heap.size A n c rfl ((X.out _ B1.out).alloc B1.out.size _) (by8_one _) ((Below.refl _ _).alloc (Nat.le_refl _) _) (by omega) (by omega) ?_; intro v2 w2 ho2 hb2; have ho2 := ho2.cast (Nat.zero_add _) (List.nil_append _); obtain ⟨G, d, rfl⟩ := ho2.form; obtain ⟨f, rfl, hf, hf2, hz⟩ := ho2.full (by omega); have hcell := ho2.byte hk; have hfz := hz k; have hp := hbx.at (k := k) (by rw [HN.out]; exact hk); obtain ⟨p, hp0⟩ : ∃ p : Nat, xs.getD k 0 = (p : Int) := ⟨(xs.getD k 0).toNat, by omega⟩; rw [hp0] at hp hcell; have HP := Lib.hid hp0; clear hp0 hz; have hp2 : p < 256 := (by omega); have hxor := u8_xor_nat p q hp2 hq; have O2 := Lib.hid ho2; have B2 := Lib.hid hb2; clear ho2 hb2)
    | fail)
  have hS2 := S1.out.below B2.out hg1
  have hB2 : Below w.heap.size w w2 := B1.out.trans (B2.out.mono B1.out.size)
  have hsw : Smr (w2.setCell ⟨f, k, none⟩ (.int .u8 ((p ^^^ q : Nat) : Int))) g false 0 := hS2.only ((Only.refl f w2).setCell k _) (by omega)
  have hBw : Below w.heap.size w (w2.setCell ⟨f, k, none⟩ (.int .u8 ((p ^^^ q : Nat) : Int))) := hB2.setCell (by have := B1.out.size; simp only; omega) _
  have hxw := Sh.set (y := ((p ^^^ q : Nat) : Int)) O2.out.sh hk
  have hyb : (0 : Int) ≤ ((p ^^^ q : Nat) : Int) ∧ ((p ^^^ q : Nat) : Int) < 256 := by have := xor_lt8 hp2 hq; omega
  have hcn := crc_set hbx (k := k) (by rw [HN.out]; exact hk) hyb (by rw [HP.out]; exact turned_ne hq0)
  have hbs : Byt (xs.set k ((p ^^^ q : Nat) : Int)) := hbx.set hyb
  obtain ⟨w3, hw3⟩ : ∃ w3, w3 = w2.setCell ⟨f, k, none⟩ (.int .u8 ((p ^^^ q : Nat) : Int)) := ⟨_, rfl⟩
  rw [← hw3] at hsw hBw hxw ⊢
  obtain ⟨ys, hys⟩ : ∃ ys, ys = xs.set k ((p ^^^ q : Nat) : Int) := ⟨_, rfl⟩
  rw [← hys] at hxw hcn hbs
  clear hw3 hys hxor hcell hfz
  have HM := Lib.hid (of_any g 0 false _ n d ys w3 _ hsw (by omega) hxw (Off.some (by omega)) hbs (by omega))
  have BW := Lib.hid hBw
  have CN := Lib.hid hcn
  have XW := Lib.hid (X.out w3 hBw)
  clear hsw hxw hBw hcn hS2 hB2 hyb hbs
  with_reducible refine HM.out.mono ?_
  rintro e w4 ⟨rfl, s4, o4⟩
  have B4 := Lib.hid (BW.out.trans (o4.below hg))
  have X4 := Lib.hid (XW.out.only o4 (OX.out g hg))
  have S4 := Lib.hid s4
  clear s4 o4
  go_wp2_with fail
  with_reducible refine (of_any g 1 true A n c xs w4 _ S4.out (by omega) X4.out (OX.out g hg) hbx (by omega)).mono ?_
  rintro e w5 ⟨rfl, s5, o5⟩
  have B5 := Lib.hid (B4.out.trans (o5.below hg))
  clear s5 o5
  have hdiff : ((crcOf 0 ys : Nat) : Int) ≠ ((crcOf 0 xs : Nat) : Int) := fun e => CN.out (by omega)
  have hd : (((crcOf 0 ys : Nat) : Int) != ((crcOf 0 xs : Nat) : Int)) = true := by simpa using hdiff
  clear hdiff
  go_wp2_with fail
  with_reducible refine (awake_any _).mono ?_
  rintro e wB ⟨rfl, bB⟩
  have BB := Lib.hid (B5.out.trans (bB.mono B5.out.size))
  clear bB
  go_wp2
  go_ret
  exact ⟨rfl, BB.out⟩

theorem u8_of {x : Int} (h : (Lit.int .u8 x).wf = true) : ∃ r : Nat, x = (r : Int) ∧ r < 256 := by
  have := bounds_u8 h
  exact ⟨x.toNat, by omega, by omega⟩

theorem crcTurned_walk (a0 : Option Addr) (len0 cap0 : Nat) (z0 : List Int) (a1 a2 : Int) (w : World) (w0 : IsRow .u8 w a0 len0 cap0 z0) (w1 : (Lit.int .i64 a1).wf = true) (w2 : (Lit.int .u8 a2).wf = true) :
    Calls Try.prog 5 #[.slice a0 len0 cap0, .int .i64 a1, .int .u8 a2] w fun e w' => e = .returned (.bool true) ∧ Below w.heap.size w w' := by
  obtain ⟨l0, m0, _, s0, b0⟩ := w0.sh
  obtain ⟨q, rfl, hq⟩ := u8_of w2
  by_cases h : len0 = 0
  · exact crcTurned_long _ _ _ _ _ _ (.inl h) (by omega)
  · by_cases h' : 1000 < len0
    · exact crcTurned_long _ _ _ _ _ _ (.inr (.inl ⟨h, h'⟩)) (by omega)
    · by_cases hq0 : q = 0
      · exact crcTurned_long _ _ _ _ _ _ (.inr (.inr ⟨h, h', by omega⟩)) (by omega)
      · exact crcTurned_short _ _ _ _ _ _ _ h h' hq hq0 s0 (byt_of b0)
end Go.Proofs.Ytboliolmhijjhaa

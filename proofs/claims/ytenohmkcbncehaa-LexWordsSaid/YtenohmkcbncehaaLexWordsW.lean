/-
  blazonlaw06.LexWords is true for every input: any text is a keyword, an identifier, or none, as the document says; any token's text, of any places, is cut out, or empty.
  Conditions: none beyond the statement's own.
-/
import Derived.Test.YtenohmkcbncehaaLxZ
namespace Go.Proofs.Ytenohmkcbncehaa
set_option linter.unusedVariables false
set_option linter.unusedSimpArgs false
open Go.RowKit

theorem str_bts (s : ByteArray) : strOfNums (bts s) = s := by
  apply ByteArray.ext
  apply Array.ext'
  rw [strOfNums_data]
  unfold bts
  rw [List.map_map]
  refine (List.map_congr_left fun b _ => ?_).trans (List.map_id _)
  simp
theorem str_cut (s : ByteArray) (p q : Nat) : strOfNums (((bts s).take q).drop p) = s.extract p q := by
  apply ByteArray.ext
  apply Array.ext'
  rw [strOfNums_data]
  unfold bts
  rw [← List.map_take, ← List.map_drop, List.map_map]
  have e : (s.extract p q).data.toList = (s.data.toList.take q).drop p := by
    simp [List.drop_take]
  rw [e]
  refine (List.map_congr_left fun b _ => ?_).trans (List.map_id _)
  simp

theorem lexWords_long (s : ByteArray) (x y z : Int) (w : World) (h : 300 < s.size) (hm : s.size ≤ maxLen) :
    Calls Try.prog 5 #[.string s, .agg #[.int .i64 x, .int .i64 y, .int .i64 z]] w fun e w' => e = .returned (.bool true) ∧ Below w.heap.size w w' := by
  unfold maxLen at hm
  have hlt : (300 : Int) < (s.size : Int) := by omega
  have HB : Hid (Below w.heap.size w (w.alloc (.cells #[.int .i64 x, .int .i64 y, .int .i64 z] 32))) := Lib.hid ((Below.refl _ _).alloc (Nat.le_refl _) _)
  go_enter Try.func5, Try.ntmps5
  go_wp2_with (go_at_call 8; refine (awake_any _).mono ?_; rintro e w1 ⟨rfl, b1⟩)
  go_ret
  exact ⟨rfl, HB.out.trans (b1.mono HB.out.size)⟩

set_option maxRecDepth 10000 in
set_option maxHeartbeats 400000 in
/-- Behind 'want': what is asked, all of it true. -/
theorem lexWords_ok (s : ByteArray) (x y z : Int) (w : World) (h : ¬ 300 < s.size) (want : ByteArray) (hw : strOfNums (cutOf (bts s) y z) = want)
    (hc : (0 ≤ y ∧ y ≤ z ∧ z ≤ s.size ∧ want = s.extract y.toNat z.toNat) ∨ ((y < 0 ∨ (0 ≤ y ∧ z < y) ∨ (0 ≤ y ∧ y ≤ z ∧ (s.size : Int) < z)) ∧ want = ⟨#[]⟩)) :
    Calls Try.prog 5 #[.string s, .agg #[.int .i64 x, .int .i64 y, .int .i64 z]] w fun e w' => e = .returned (.bool true) ∧ Below w.heap.size w w' := by
  have hkw := Lib.hid (keyword_any s)
  have hrk := Lib.hid (rkeyword_any s)
  have hid := Lib.hid (ident_any s)
  have hri := Lib.hid (fun w => rident_any s w (by omega))
  obtain ⟨kb, hkb⟩ : ∃ kb, kwB s = kb := ⟨_, rfl⟩
  obtain ⟨ib, hib⟩ : ∃ ib, idB s = ib := ⟨_, rfl⟩
  rw [hkb] at hkw hrk
  rw [hib] at hid hri
  clear hkb hib
  have kk : (kb == kb) = true := by simp
  have ii : (ib == ib) = true := by simp
  have ww : (want.toList == want.toList) = true := by simp
  have g0 : ¬ (300 : Int) < (s.size : Int) := by omega
  have HB : Hid (Below w.heap.size w (w.alloc (.cells #[.int .i64 x, .int .i64 y, .int .i64 z] 32))) := Lib.hid ((Below.refl _ _).alloc (Nat.le_refl _) _)
  have cx : (w.alloc (.cells #[.int .i64 x, .int .i64 y, .int .i64 z] 32)).cell? ⟨w.heap.size, 0, none⟩ = some (.int .i64 x) := by rw [World.cell?_alloc_at _ _ _ _ rfl]; rfl
  have cy : (w.alloc (.cells #[.int .i64 x, .int .i64 y, .int .i64 z] 32)).cell? ⟨w.heap.size, 1, none⟩ = some (.int .i64 y) := by rw [World.cell?_alloc_at _ _ _ _ rfl]; rfl
  have cz : (w.alloc (.cells #[.int .i64 x, .int .i64 y, .int .i64 z] 32)).cell? ⟨w.heap.size, 2, none⟩ = some (.int .i64 z) := by rw [World.cell?_alloc_at _ _ _ _ rfl]; rfl
  have hsA : (w.alloc (.cells #[.int .i64 x, .int .i64 y, .int .i64 z] 32)).heap.size = w.heap.size + 1 := by simp
  have HW := Lib.hid hw
  obtain ⟨wa, hwa⟩ : ∃ wa, w.alloc (.cells #[.int .i64 x, .int .i64 y, .int .i64 z] 32) = wa := ⟨_, rfl⟩
  rw [hwa] at HB cx cy cz hsA
  have HA := Lib.hid hsA
  have HWA := Lib.hid hwa
  clear hwa hsA hw
  have HTAIL : Hid (∀ w1, Below wa.heap.size wa w1 → ∃ wl cc, (convert 9 22 (.string s)).run Try.prog w1 = .ok (.slice (some ⟨w1.heap.size, 0, none⟩) s.size cc) wl ∧ Below w1.heap.size w1 wl ∧
      (Calls Try.prog 17 #[.slice (some ⟨w1.heap.size, 0, none⟩) s.size cc, .agg #[.int .i64 x, .int .i64 y, .int .i64 z]] wl fun e w' => e = .returned (.string want) ∧ Below wl.heap.size wl w')) := Lib.hid fun w1 hb1 => by
    obtain ⟨wl, cc, hcv, hxw, hbw, hc1, hc2⟩ := convS (w := w1) (B := w1.heap.size) s (bts s) rfl (by omega) (Nat.le_refl _)
    refine ⟨wl, cc, hcv, hbw, ?_⟩
    have := text_any _ s.size cc (bts s) x y z wl hxw (by omega) hc1 hc2 (.inr ⟨_, _, rfl⟩)
    rw [HW.out] at this
    exact this
  rcases hc with ⟨h0, h1, h2, hx⟩ | ⟨hbad, hx⟩
  · obtain ⟨p, rfl⟩ : ∃ p : Nat, y = p := ⟨y.toNat, by omega⟩
    obtain ⟨q, rfl⟩ : ∃ q : Nat, z = q := ⟨z.toNat, by omega⟩
    rw [show ((p : Int)).toNat = p by omega, show ((q : Int)).toNat = q by omega] at hx
    subst hx
    go_enter Try.func5, Try.ntmps5
    go_wp2_with (first
      | (go_at_call 18; rw [HWA.out]; refine (hkw.out _).mono ?_; rintro e w' ⟨rfl, rfl⟩)
      | fail)
    refine (hrk.out _).mono ?_
    rintro e w1 ⟨rfl, b1⟩
    have B1 := Lib.hid b1
    clear b1
    go_wp2_with fail
    refine (hid.out _).mono ?_
    rintro e w2 ⟨rfl, b2⟩
    have B2 := Lib.hid (B1.out.trans (b2.mono B1.out.size))
    clear b2
    go_wp2_with fail
    refine (hri.out _).mono ?_
    rintro e w3 ⟨rfl, b3⟩
    have B3 := Lib.hid (B2.out.trans (b3.mono B2.out.size))
    clear b3
    obtain ⟨wl, cc, hcv, hbl, htx⟩ := HTAIL.out w3 B3.out
    have HTX := Lib.hid htx
    have B4 := Lib.hid (B3.out.trans (hbl.mono B3.out.size))
    have dx : wl.cell? ⟨w.heap.size, 0, none⟩ = some (.int .i64 x) := (B4.out.cell (p := ⟨w.heap.size, 0, none⟩) (by rw [HA.out]; show w.heap.size < w.heap.size + 1; omega)).trans cx
    have dy : wl.cell? ⟨w.heap.size, 1, none⟩ = some (.int .i64 (p : Int)) := (B4.out.cell (p := ⟨w.heap.size, 1, none⟩) (by rw [HA.out]; show w.heap.size < w.heap.size + 1; omega)).trans cy
    have dz : wl.cell? ⟨w.heap.size, 2, none⟩ = some (.int .i64 (q : Int)) := (B4.out.cell (p := ⟨w.heap.size, 2, none⟩) (by rw [HA.out]; show w.heap.size < w.heap.size + 1; omega)).trans cz
    clear htx hbl cx cy cz
    go_wp2_with fail
    with_reducible refine HTX.out.mono ?_
    rintro e w5 ⟨rfl, b5⟩
    have B5 := Lib.hid (HB.out.trans ((B4.out.trans (b5.mono B4.out.size)).mono HB.out.size))
    clear b5
    go_wp2_with (go_at_call 8; refine (awake_any _).mono ?_; rintro e wy ⟨rfl, by1⟩)
    go_ret
    exact ⟨rfl, B5.out.trans (by1.mono B5.out.size)⟩
  · subst hx
    have hbad' : (y < 0) ∨ (0 ≤ y ∧ ¬ y ≤ z) ∨ (0 ≤ y ∧ y ≤ z ∧ ¬ z ≤ (s.size : Int)) := by omega
    clear hbad
    rcases hbad' with h0 | ⟨h0, h1⟩ | ⟨h0, h1, h2⟩
    all_goals
      go_enter Try.func5, Try.ntmps5
      go_wp2_with (first
        | (go_at_call 18; rw [HWA.out]; refine (hkw.out _).mono ?_; rintro e w' ⟨rfl, rfl⟩)
        | fail)
      refine (hrk.out _).mono ?_
      rintro e w1 ⟨rfl, b1⟩
      have B1 := Lib.hid b1
      clear b1
      go_wp2_with fail
      refine (hid.out _).mono ?_
      rintro e w2 ⟨rfl, b2⟩
      have B2 := Lib.hid (B1.out.trans (b2.mono B1.out.size))
      clear b2
      go_wp2_with fail
      refine (hri.out _).mono ?_
      rintro e w3 ⟨rfl, b3⟩
      have B3 := Lib.hid (B2.out.trans (b3.mono B2.out.size))
      clear b3
      obtain ⟨wl, cc, hcv, hbl, htx⟩ := HTAIL.out w3 B3.out
      have HTX := Lib.hid htx
      have B4 := Lib.hid (B3.out.trans (hbl.mono B3.out.size))
      have dx : wl.cell? ⟨w.heap.size, 0, none⟩ = some (.int .i64 x) := (B4.out.cell (p := ⟨w.heap.size, 0, none⟩) (by rw [HA.out]; show w.heap.size < w.heap.size + 1; omega)).trans cx
      have dy : wl.cell? ⟨w.heap.size, 1, none⟩ = some (.int .i64 y) := (B4.out.cell (p := ⟨w.heap.size, 1, none⟩) (by rw [HA.out]; show w.heap.size < w.heap.size + 1; omega)).trans cy
      have dz : wl.cell? ⟨w.heap.size, 2, none⟩ = some (.int .i64 z) := (B4.out.cell (p := ⟨w.heap.size, 2, none⟩) (by rw [HA.out]; show w.heap.size < w.heap.size + 1; omega)).trans cz
      clear htx hbl cx cy cz
      go_wp2_with fail
      with_reducible refine HTX.out.mono ?_
      rintro e w5 ⟨rfl, b5⟩
      have B5 := Lib.hid (HB.out.trans ((B4.out.trans (b5.mono B4.out.size)).mono HB.out.size))
      clear b5
      go_wp2_with (go_at_call 8; refine (awake_any _).mono ?_; rintro e wy ⟨rfl, by1⟩)
      go_ret
      exact ⟨rfl, B5.out.trans (by1.mono B5.out.size)⟩

theorem lexWords_walk (s : ByteArray) (x y z : Int) (w : World) (hs : s.size ≤ maxLen) :
    Calls Try.prog 5 #[.string s, .agg #[.int .i64 x, .int .i64 y, .int .i64 z]] w fun e w' => e = .returned (.bool true) ∧ Below w.heap.size w w' := by
  by_cases h : 300 < s.size
  · exact lexWords_long s x y z w h hs
  · by_cases hok : 0 ≤ y ∧ y ≤ z ∧ z ≤ s.size
    · refine lexWords_ok s x y z w h (s.extract y.toNat z.toNat) ?_ (.inl ⟨hok.1, hok.2.1, hok.2.2, rfl⟩)
      unfold cutOf
      rw [if_pos ⟨hok.1, hok.2.1, by rw [bts_len]; exact hok.2.2⟩, str_cut]
    · refine lexWords_ok s x y z w h ⟨#[]⟩ ?_ (.inr ⟨by omega, rfl⟩)
      unfold cutOf
      rw [if_neg (by rw [bts_len]; exact hok)]
      rfl
end Go.Proofs.Ytenohmkcbncehaa

/-
  CONTRACT OF (*expr.Cursor).number.
-/
import Derived.Test.YtnhhdafhnngolaaDoorEpG
import Derived.Test.YtnhhdafhnngolaaDoorShelf
namespace Go.Proofs.YtnhhdafhnngolaaDoor
set_option linter.unusedVariables false
set_option linter.unusedSimpArgs false
open Go.RowKit

def Digits (s : ByteArray) : Prop := s.data.toList ≠ [] ∧ ∀ c ∈ s.data.toList, 48 ≤ c.toNat ∧ c.toNat ≤ 57
theorem uint_dig (M : Nat) : ∀ (l : List UInt8) (acc : Nat), (∀ c ∈ l, 48 ≤ c.toNat ∧ c.toNat ≤ 57) → (∃ u, Lib.parseUintM M acc l = .ok u) ∨ Lib.parseUintM M acc l = .range
  | [], acc, _ => .inl ⟨acc, by unfold Lib.parseUintM; rfl⟩
  | c :: l, acc, h => by
    unfold Lib.parseUintM
    rw [if_pos (h c (by simp))]
    split
    · exact .inr rfl
    · split
      · exact .inr rfl
      · exact uint_dig M l _ fun x hx => h x (by simp [hx])
theorem num_dig {s : ByteArray} (h : Digits s) : (∃ v, Lib.parseIntB 64 s.data.toList = .ok v ∧ numB s = some v) ∨ (Lib.parseIntB 64 s.data.toList = .range ∧ numB s = none) := by
  have hns : (∃ v, Lib.parseIntB 64 s.data.toList = .ok v) ∨ Lib.parseIntB 64 s.data.toList = .range := by
    obtain ⟨h1, h2⟩ := h
    cases hl : s.data.toList with
    | nil => exact absurd hl h1
    | cons c r =>
      rw [hl] at h2
      have hc := h2 c (by simp)
      unfold Lib.parseIntB Lib.parseUintB
      simp only
      have e43 : ¬ (c.toNat = 43 ∨ c.toNat = 45) := by omega
      rw [if_neg e43, if_neg (List.cons_ne_nil _ _)]
      rcases uint_dig (2 ^ 64 - 1) (c :: r) 0 h2 with ⟨u, hu⟩ | hu
      · rw [hu]
        simp only
        split
        · exact .inr rfl
        · split
          · exact .inr rfl
          · exact .inl ⟨_, rfl⟩
      · rw [hu]
        exact .inr rfl
  unfold numB
  rcases hns with ⟨v, hv⟩ | hv
  · rw [hv]; exact .inl ⟨v, rfl, rfl⟩
  · rw [hv]; exact .inr ⟨rfl, rfl⟩

/-- What number answers. -/
def numG (R : Rw) (p : Nat) : Gt := match numB (R.wd p) with
  | some v => good (eNum (R.ps p) v) (p + 1)
  | none => bad p 18
theorem numG_some {R : Rw} {p : Nat} {v : Int} (h : numB (R.wd p) = some v) : numG R p = good (eNum (R.ps p) v) (p + 1) := by unfold numG; rw [h]
theorem numG_none {R : Rw} {p : Nat} (h : numB (R.wd p) = none) : numG R p = bad p 18 := by unfold numG; rw [h]
/-- A function's own variable, behind a call. -/
theorem entry_slot (w : World) : Slot (w.alloc (.cells #[.int .i64 0, .int .i64 0, .int .i64 0, .string ⟨#[]⟩, .string ⟨#[]⟩, .slice none 0 0] 27)) w.heap.size Ex.nul (.slice none 0 0) := Slot.new w Ex.nul (.slice none 0 0) 27 rfl
theorem entry_below (w : World) : Below w.heap.size w (w.alloc (.cells #[.int .i64 0, .int .i64 0, .int .i64 0, .string ⟨#[]⟩, .string ⟨#[]⟩, .slice none 0 0] 27)) := (Below.refl _ w).alloc (Nat.le_refl _) _
theorem entry_size (w : World) : (w.alloc (.cells #[.int .i64 0, .int .i64 0, .int .i64 0, .string ⟨#[]⟩, .string ⟨#[]⟩, .slice none 0 0] 27)).heap.size = w.heap.size + 1 := by simp
theorem parse_below {w w' : World} {t : TypeId} (h : w' = w ∨ ∃ s, w' = Lib.bytesWorld w t s) : Below w.heap.size w w' := by
  rcases h with rfl | ⟨s, rfl⟩
  · exact Below.refl _ _
  · exact ⟨rfl, rfl, rfl, by rw [Lib.bytesWorld_size]; omega, fun k hk => Lib.bytesWorld_at_old w _ s k (by omega)⟩

set_option maxRecDepth 10000 in
set_option maxHeartbeats 800000 in
theorem number_any (C : Cx) (hC : TokOk C.T C.L) (p : Nat) (w : World) (h : Cur C w p) (hp : p < C.L.length) (hd : Digits (C.R.wd p)) (hsz : (C.R.wd p).size ≤ 1000000) (S : Nat → Prop) :
    Calls Tryd.prog 93 #[C.ptr] w (PutTo C S w (numG C.R p)) := by
  have hz := zeroEx'
  have hlt := h.lt
  have hln := hC.len
  have H := Lib.hid (h.under (entry_below w))
  have HPO := Lib.hid (pos_any C hC p _ H.out)
  have HE := Lib.hid (entry_slot w)
  have HES := Lib.hid (entry_size w)
  have HEB := Lib.hid (entry_below w)
  have HPK : Hid (∀ w2, Cur C w2 p → Calls Tryd.prog 22 #[C.ptr] w2 fun e w' => e = .returned (.string (C.R.wd p)) ∧ Below w2.heap.size w2 w') := Lib.hid fun w2 h2 => peek_any C hC p w2 h2
  rcases num_dig hd with ⟨v, hv, hn⟩ | ⟨hv, hn⟩
  · have HN := Lib.hid (numG_some (R := C.R) hn)
    have HQ : Hid (∀ w2, Calls Tryd.prog 101 #[.string (C.R.wd p), .int .i64 10, .int .i64 64] w2 fun e w' => e = .returned (.tuple #[.int .i64 v, .nilIface]) ∧ Below w2.heap.size w2 w') := Lib.hid fun w2 => (Any.strconv_ParseInt_10_at64_ok Tryd.parseInt (C.R.wd p) (by omega) v hv w2).mono fun e w' ⟨h1, h2⟩ => ⟨h1, parse_below h2⟩
    rw [HN.out]
    clear hv hn hd h
    go_enter Tryd.func93, Tryd.ntmps93
    go_wp2_with (first
      | (go_at_call 23; refine HPO.out.mono ?_; rintro e w2 ⟨rfl, b2⟩; have H2 := Lib.hid (H.out.under b2); have B2 := Lib.hid b2; clear b2; dsimp only)
      | (go_at_call 22; refine (HPK.out _ H2.out).mono ?_; rintro e w3 ⟨rfl, b3⟩; have H3 := Lib.hid (H2.out.under b3); have B3 := Lib.hid b3; clear b3; dsimp only)
      | (go_at_call 101; refine (HQ.out _).mono ?_; rintro e w4 ⟨rfl, b4⟩; have H4 := Lib.hid (H3.out.under b4); have B4 := Lib.hid b4; have c2 := H4.out.pl; have f2 := H4.out.fz; clear b4; dsimp only)
      | (refine wpList_stx rfl (.tmp 2) (.tmp 27) rfl w.heap.size rfl (((HE.out.below B2.out (by rw [HES.out]; omega)).below (B3.out.mono B2.out.size) (by rw [HES.out]; omega) |>.below (B4.out.mono (Nat.le_trans B2.out.size B3.out.size)) (by rw [HES.out]; omega)).grown (H4.out.move hp).2 (by intro e; injection e; omega)) (e := eNum (C.R.ps p) v) (lv := .slice none 0 0) rfl rfl ?_; intro w5 hg5 hs5; have HG5 := Lib.hid hg5; have HS5 := Lib.hid hs5; clear hg5 hs5)
      | fail)
    refine ex_done rfl rfl rfl rfl HS5.out ⟨.slice none 0 0, rfl, .nil, ?_, ?_⟩
    · exact fr_new (gb_trans (fr_below (fr_below (fr_below (below_fr HEB.out _) B2.out) B3.out) B4.out) (H4.out.move hp).2) HG5.out (Nat.le_refl _)
    · exact (H4.out.move hp).1.grown HG5.out (fun k e => by cases e; omega)
  · have HN := Lib.hid (numG_none (R := C.R) hn)
    have HQ : Hid (∀ w2, Vars w2 → Calls Tryd.prog 101 #[.string (C.R.wd p), .int .i64 10, .int .i64 64] w2 fun e w' => ∃ x T N, e = .returned (.tuple #[.int .i64 x, .iface T (.pointer (some ⟨N, 0, none⟩))]) ∧ Below w2.heap.size w2 w') := Lib.hid fun w2 hv2 => by
      obtain ⟨tp, pp, hr⟩ := hv2.rng
      exact (Any.strconv_ParseInt_10_at64_range Tryd.parseInt (C.R.wd p) (by omega) hv _ w2 hr (.inr ⟨_, _, rfl⟩)).mono fun e w' ⟨N, h1, _, _, h4⟩ => ⟨_, _, N, h1, h4⟩
    rw [HN.out]
    clear hv hn hd h
    go_enter Tryd.func93, Tryd.ntmps93
    go_wp2_with (first
      | (go_at_call 23; refine HPO.out.mono ?_; rintro e w2 ⟨rfl, b2⟩; have H2 := Lib.hid (H.out.under b2); have B2 := Lib.hid b2; clear b2; dsimp only)
      | (go_at_call 22; refine (HPK.out _ H2.out).mono ?_; rintro e w3 ⟨rfl, b3⟩; have H3 := Lib.hid (H2.out.under b3); have B3 := Lib.hid b3; clear b3; dsimp only)
      | (go_at_call 101; refine (HQ.out _ H3.out.vars).mono ?_; rintro e w4 ⟨x4, T4, N4, rfl, b4⟩; have H4 := Lib.hid (H3.out.under b4); have B4 := Lib.hid b4; clear b4; dsimp only)
      | (refine wpList_stx rfl (.tmp 2) (.tmp 17) rfl w.heap.size rfl ((HE.out.below B2.out (by rw [HES.out]; omega)).below (B3.out.mono B2.out.size) (by rw [HES.out]; omega) |>.below (B4.out.mono (Nat.le_trans B2.out.size B3.out.size)) (by rw [HES.out]; omega)) (e := Ex.nul) (lv := .slice none 0 0) rfl rfl ?_; intro w5 hg5 hs5; have HG5 := Lib.hid hg5; have HS5 := Lib.hid hs5; clear hg5 hs5)
      | fail)
    refine ex_done rfl rfl rfl rfl HS5.out ⟨.slice none 0 0, rfl, .nil, ?_, ?_⟩
    · exact fr_new (fr_below (fr_below (fr_below (below_fr HEB.out _) B2.out) B3.out) B4.out) HG5.out (Nat.le_refl _)
    · exact H4.out.grown HG5.out (fun k e => by cases e; omega)
end Go.Proofs.YtnhhdafhnngolaaDoor

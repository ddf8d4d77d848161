/-
  blazonlaw06.LexReads is true for every input: the tokens that lex.All tells of any bytes, those that count, and the first bad one, are the document's; the bytes stay.
  Conditions: none beyond the statement's own.
-/
import Derived.Test.YtenohmkcbncehaaLxE
import Derived.Test.YtenohmkcbncehaaLxQ
import Derived.Test.YtenohmkcbncehaaLent
import Derived.Deep.RegionHeld3
namespace Go.Proofs.Ytenohmkcbncehaa
set_option linter.unusedVariables false
set_option linter.unusedSimpArgs false
open Go.RowKit

def Byt8 (l : List Int) : Prop := ∀ x ∈ l, 0 ≤ x ∧ x < 256
theorem byt8_of {l : List Int} (h : ∀ n ∈ l, (Lit.int .u8 n).wf = true) : Byt8 l := fun x hx => by
  have := bounds_u8 (h x hx)
  omega
theorem bts_str {xs : List Int} (h : Byt8 xs) : bts (strOfNums xs) = xs := by
  unfold bts
  rw [strOfNums_data, List.map_map]
  refine (List.map_congr_left fun x hx => ?_).trans (List.map_id xs)
  obtain ⟨h0, h1⟩ := h x hx
  have : x.toNat < 256 := by omega
  simp [UInt8.toNat_ofNat, Nat.mod_eq_of_lt this]
  omega
theorem bad_at {L : List Tk} {k : Nat} (hno : ∀ t ∈ L.take k, (t.1 == 5) = false) {t : Tk} (hk : L[k]? = some t) (ht : (t.1 == 5) = false) : ∀ t ∈ L.take (k + 1), (t.1 == 5) = false := fun s hs => by
  rw [take_snocT L k t hk] at hs
  rcases List.mem_append.1 hs with h | h
  · exact hno s h
  · rw [List.mem_singleton.1 h]; exact ht

theorem lexReads_long (A : Option Addr) (n c : Nat) (w : World) (h : 2000 < n) (hm : n ≤ maxLen) :
    Calls Try.prog 3 #[.slice A n c] w fun e w' => e = .returned (.bool true) ∧ Below w.heap.size w w' := by
  unfold maxLen at hm
  have hlt : (2000 : Int) < (n : Int) := by omega
  go_enter Try.func3, Try.ntmps3
  go_wp2_with (go_at_call 8; refine (awake_any _).mono ?_; rintro e w1 ⟨rfl, b1⟩)
  go_ret
  exact ⟨rfl, b1⟩

set_option maxRecDepth 10000 in
set_option maxHeartbeats 3200000 in
theorem lexReads_short (A : Option Addr) (n c : Nat) (bs : List Int) (w : World) (h : ¬ 2000 < n) (hnc : n ≤ c) (hx : Sh w w.heap.size A n (by8 bs)) (hb : Byt8 bs) :
    Calls Try.prog 3 #[.slice A n c] w fun e w' => e = .returned (.bool true) ∧ Below w.heap.size w w' := by
  have hl : bs.length = n := by have := hx.len; rwa [by8_len] at this
  have HL := Lib.hid hl
  have hbs := Lib.hid (bts_str hb)
  have X := Lib.hid (fun w' (b : Below w.heap.size w w') => hx.below b)
  have hsz : (strOfNums bs).size ≤ 1000000 := by rw [strOfNums_size, hl]; omega
  have HSZ := Lib.hid hsz
  have htl : (toks bs 0).length ≤ n := by have := toks_len bs bs.length 0 (by omega); omega
  obtain ⟨L, hL⟩ : ∃ L, toks bs 0 = L := ⟨_, rfl⟩
  have HT := Lib.hid hL
  rw [hL] at htl
  have hlt : ¬ (2000 : Int) < (n : Int) := by omega
  clear hl hx hb hsz hL
  go_enter Try.func3, Try.ntmps3
  go_wp2_with fail
  refine (lent_any A n c bs w w.heap.size (X.out _ (Below.refl _ _)) (by omega) (Nat.le_refl _)).mono ?_
  rintro e w1 ⟨G, f, rfl, ho1, b1⟩
  have hcap := ho1.cap
  have F1 := Lib.hid ho1.sh
  have B1 := Lib.hid b1
  have hhead : ∀ {w' : World} {U : Nat}, Sh w' U G (n + 3) (by8 (bs ++ [77, 78, 79])) → Sh w' U G n (by8 bs) := fun {w' U} h => by
    have hh := h.head (k := n) (by omega)
    rwa [by8_take, List.take_append_of_le_length (by rw [HL.out]; omega), List.take_of_length_le (by rw [HL.out]; omega)] at hh
  have HH := Lib.hid (fun w' U h => hhead (w' := w') (U := U) h)
  have hc1 : n + 3 ≤ f := hcap.1
  have HC := Lib.hid hcap.2
  clear ho1 b1 hhead hcap
  go_wp2_with fail
  refine (lexAll_any G n f bs w1 (HH.out _ _ F1.out) (by omega) (by omega) HC.out).mono ?_
  rw [HT.out]
  rintro e w2 ⟨v2, rfl, ho2, b2⟩
  obtain ⟨P, pc, rfl⟩ := ho2.form
  have S2 := Lib.hid (ho2.tok rfl)
  have F2 := Lib.hid ((F1.out.below b2).more b2.size)
  have B2 := Lib.hid (B1.out.trans (b2.mono B1.out.size))
  clear ho2 b2
  have hcv := convert_sh (X.out _ B2.out) c
  obtain ⟨s, hs⟩ : ∃ s, strOfNums bs = s := ⟨_, rfl⟩
  rw [hs] at hcv
  have hall := refAll_any s bs w2 (by rw [← hs]; exact hbs.out) (by rw [← hs]; exact HSZ.out)
  rw [HT.out] at hall
  have HALL := Lib.hid hall
  clear hs hall
  go_wp2_with fail
  refine HALL.out.mono ?_
  rintro e w3 ⟨v3, rfl, ho3, b3⟩
  obtain ⟨R, rc, rfl⟩ := ho3.form
  have R3 := Lib.hid (ho3.tok rfl)
  have S3 := Lib.hid ((S2.out.up b3 (Nat.le_refl _)).more b3.size)
  have F3 := Lib.hid ((F2.out.below b3).more b3.size)
  have B3 := Lib.hid (B2.out.trans (b3.mono B2.out.size))
  clear ho3 b3 hcv HALL
  -- Same(l, want)
  go_wp2_with fail
  refine (sameT_yes P R L.length pc rc L w3 S3.out R3.out (by omega)).mono ?_
  rintro e w4 ⟨rfl, q, rfl⟩
  have S4 : Hid (ShT (w3.drewN q) (w3.drewN q).heap.size P L.length L) := Lib.hid (S3.out.up ((Quiet.one w3 q).below _) (Nat.le_refl _))
  have R4 : Hid (ShT (w3.drewN q) (w3.drewN q).heap.size R L.length L) := Lib.hid (R3.out.up ((Quiet.one w3 q).below _) (Nat.le_refl _))
  have F4 : Hid (Sh (w3.drewN q) (w3.drewN q).heap.size G (n + 3) (by8 (bs ++ [77, 78, 79]))) := Lib.hid (F3.out.drewN q)
  have B4 : Hid (Below w.heap.size w (w3.drewN q)) := Lib.hid (B3.out.trans ((Quiet.one w3 q).below _))
  obtain ⟨w4, hw4⟩ : ∃ w4, w3.drewN q = w4 := ⟨_, rfl⟩
  rw [hw4] at S4 R4 F4 B4 ⊢
  clear hw4 S3 R3 F3 B3
  -- Live(l)
  go_wp2_with fail
  refine (live_any P L.length pc L w4 S4.out (by omega)).mono ?_
  rintro e w5 ⟨v5, rfl, ho5, b5⟩
  obtain ⟨Q5, q5, rfl⟩ := ho5.form
  have T5 := Lib.hid (ho5.tok rfl)
  have S5 := Lib.hid ((S4.out.up b5 (Nat.le_refl _)).more b5.size)
  have R5 := Lib.hid ((R4.out.up b5 (Nat.le_refl _)).more b5.size)
  have F5 := Lib.hid ((F4.out.below b5).more b5.size)
  have B5 := Lib.hid (B4.out.trans (b5.mono B4.out.size))
  clear ho5 b5 S4 R4 F4
  -- ref.Live(want)
  go_wp2_with fail
  refine (rlive_any R L.length rc L w5 R5.out (by omega)).mono ?_
  rintro e w6 ⟨v6, rfl, ho6, b6⟩
  obtain ⟨Q6, q6, rfl⟩ := ho6.form
  have U6 := Lib.hid (ho6.tok rfl)
  have T6 := Lib.hid ((T5.out.up b6 (Nat.le_refl _)).more b6.size)
  have S6 := Lib.hid ((S5.out.up b6 (Nat.le_refl _)).more b6.size)
  have R6 := Lib.hid ((R5.out.up b6 (Nat.le_refl _)).more b6.size)
  have F6 := Lib.hid ((F5.out.below b6).more b6.size)
  have B6 := Lib.hid (B5.out.trans (b6.mono B5.out.size))
  clear ho6 b6 S5 R5 F5 T5
  have hfl : (L.filter lv).length ≤ n := Nat.le_trans (List.length_filter_le _ _) htl
  go_wp2_with fail
  refine (sameT_yes Q5 Q6 (L.filter lv).length q5 q6 (L.filter lv) w6 T6.out U6.out (by omega)).mono ?_
  rintro e w7 ⟨rfl, q, rfl⟩
  clear T6 U6 hfl
  -- Kept(in, b)
  have K7 := Lib.hid (kept_yes G A n f c bs (w6.drewN q) w6.heap.size w.heap.size (F6.out.drewN q) hc1 ((X.out _ B6.out).drewN q) (by omega))
  go_wp2_with fail
  refine K7.out.mono ?_
  rintro e w8 ⟨rfl, q2, rfl⟩
  rw [World.drewN_drewN]
  have S8 : Hid (ShT (w6.drewN (q + q2)) (w6.drewN (q + q2)).heap.size P L.length L) := Lib.hid (S6.out.up ((Quiet.one w6 _).below _) (Nat.le_refl _))
  have R8 : Hid (ShT (w6.drewN (q + q2)) (w6.drewN (q + q2)).heap.size R L.length L) := Lib.hid (R6.out.up ((Quiet.one w6 _).below _) (Nat.le_refl _))
  have B8 : Hid (Below w.heap.size w (w6.drewN (q + q2))) := Lib.hid (B6.out.trans ((Quiet.one w6 _).below _))
  obtain ⟨w8, hw8⟩ : ∃ w8, w6.drewN (q + q2) = w8 := ⟨_, rfl⟩
  rw [hw8] at S8 R8 B8 ⊢
  clear hw8 S6 R6 F6 B6 K7
  -- Bad(l)
  have hz := zeroTok
  go_wp2_with fail
  refine (bad_any P L.length pc L w8 S8.out (by omega)).mono ?_
  rintro e w9 ⟨rfl, b9⟩
  have R9 := Lib.hid ((R8.out.up b9 (Nat.le_refl _)).more b9.size)
  have B9 := Lib.hid (B8.out.trans (b9.mono B8.out.size))
  clear b9 R8 S8
  obtain ⟨bx, hbx⟩ : ∃ bx, badOf L = bx := ⟨_, rfl⟩
  obtain ⟨bi, hbi⟩ : ∃ bi, isBad L = bi := ⟨_, rfl⟩
  have HBX := Lib.hid hbx
  have HBI := Lib.hid hbi
  rw [hbx, hbi]
  clear hbx hbi
  obtain ⟨x, y, z⟩ := bx
  dsimp only
  go_wp2
  have p0 : (w9.alloc (.cells #[.int .i64 x, .int .i64 y, .int .i64 z] 32)).cell? ⟨w9.heap.size, 0, none⟩ = some (.int .i64 x) := by rw [World.cell?_alloc_at _ _ _ _ rfl]; rfl
  have p1 : (w9.alloc (.cells #[.int .i64 x, .int .i64 y, .int .i64 z] 32)).cell? ⟨w9.heap.size, 1, none⟩ = some (.int .i64 y) := by rw [World.cell?_alloc_at _ _ _ _ rfl]; rfl
  have p2 : (w9.alloc (.cells #[.int .i64 x, .int .i64 y, .int .i64 z] 32)).cell? ⟨w9.heap.size, 2, none⟩ = some (.int .i64 z) := by rw [World.cell?_alloc_at _ _ _ _ rfl]; rfl
  have RA : Hid (ShT (w9.alloc (.cells #[.int .i64 x, .int .i64 y, .int .i64 z] 32)) w9.heap.size R L.length L) := Lib.hid (R9.out.up ((Below.refl w9.heap.size _).alloc (Nat.le_refl _) _) (Nat.le_refl _))
  have BA : Hid (Below w.heap.size w (w9.alloc (.cells #[.int .i64 x, .int .i64 y, .int .i64 z] 32))) := Lib.hid (B9.out.alloc B9.out.size _)
  have hsA : (w9.alloc (.cells #[.int .i64 x, .int .i64 y, .int .i64 z] 32)).heap.size = w9.heap.size + 1 := by simp
  obtain ⟨wa, hwa⟩ : ∃ wa, w9.alloc (.cells #[.int .i64 x, .int .i64 y, .int .i64 z] 32) = wa := ⟨_, rfl⟩
  rw [hwa] at p0 p1 p2 RA BA hsA ⊢
  have HA := Lib.hid hsA
  clear hwa R9 B9 hsA
  go_loopw [8] (fun i wr => ∃ k : Nat, i = .int .i64 (k : Int) ∧ k ≤ L.length ∧ (∀ t ∈ L.take k, (t.1 == 5) = false) ∧ wr = wa) (fun i _ => L.length - (intOf i).toNat)
  case atStart => exact ⟨0, rfl, Nat.zero_le _, (fun t ht => by simp at ht), rfl⟩
  case round =>
    obtain ⟨k, rfl, hk, hno, rfl⟩ := hrel
    have HN := Lib.hid hno
    clear hno
    by_cases hkl : k < L.length
    · obtain ⟨b, off, t, rfl, hbb, ht, c0, c1, c2⟩ := RA.out.at hkl
      have HTT := Lib.hid ht
      clear ht
      cases hv : (t.1 == 5) with
      | true =>
        have HV := bad_some HN.out HTT.out hv
        rw [HBX.out, HBI.out] at HV
        obtain ⟨e1, rfl⟩ := HV
        subst e1
        have hv5 : (x == 5) = true := hv
        dsimp only at c0 c1 c2
        clear hv
        have rx : (x == x) = true := by simp
        have ry : (y == y) = true := by simp
        have rz : (z == z) = true := by simp
        go_wp2
        have HAW : Hid (∀ W, W = wr.drew → Calls Try.prog 8 #[] W fun e w' => e = .returned (.bool true) ∧ w'.cell? ⟨w9.heap.size, 0, none⟩ = some (.int .i64 x) ∧ w'.cell? ⟨w9.heap.size, 1, none⟩ = some (.int .i64 y) ∧ w'.cell? ⟨w9.heap.size, 2, none⟩ = some (.int .i64 z) ∧
            w'.cell? ⟨b, off + k * 3, none⟩ = some (.int .i64 x) ∧ w'.cell? ⟨b, off + k * 3 + 1, none⟩ = some (.int .i64 y) ∧ w'.cell? ⟨b, off + k * 3 + 2, none⟩ = some (.int .i64 z) ∧ Hid (Below w.heap.size w w')) := Lib.hid fun W hW => by
          subst hW
          refine (awake_any wr.drew).mono ?_
          rintro e w' ⟨he, hb'⟩
          have hl1 : w9.heap.size < wr.drew.heap.size := by show w9.heap.size < wr.heap.size; rw [HA.out]; omega
          have hl2 : b < wr.drew.heap.size := by omega
          exact ⟨he, (hb'.cell (p := ⟨w9.heap.size, _, none⟩) hl1).trans p0, (hb'.cell (p := ⟨w9.heap.size, _, none⟩) hl1).trans p1, (hb'.cell (p := ⟨w9.heap.size, _, none⟩) hl1).trans p2, (hb'.cell (p := ⟨b, _, none⟩) hl2).trans c0, (hb'.cell (p := ⟨b, _, none⟩) hl2).trans c1, (hb'.cell (p := ⟨b, _, none⟩) hl2).trans c2,
            Lib.hid ((BA.out.trans (show Below w.heap.size wr wr.drew from ⟨rfl, rfl, rfl, Nat.le_refl _, fun _ _ => rfl⟩)).trans (hb'.mono BA.out.size))⟩
        have p0' : wr.drew.cell? ⟨w9.heap.size, 0, none⟩ = some (.int .i64 x) := p0
        have p1' : wr.drew.cell? ⟨w9.heap.size, 1, none⟩ = some (.int .i64 y) := p1
        have p2' : wr.drew.cell? ⟨w9.heap.size, 2, none⟩ = some (.int .i64 z) := p2
        have c0' : wr.drew.cell? ⟨b, off + k * 3, none⟩ = some (.int .i64 x) := c0
        have c1' : wr.drew.cell? ⟨b, off + k * 3 + 1, none⟩ = some (.int .i64 y) := c1
        have c2' : wr.drew.cell? ⟨b, off + k * 3 + 2, none⟩ = some (.int .i64 z) := c2
        go_region_held3 (fun w' => w'.cell? ⟨w9.heap.size, 0, none⟩ = some (.int .i64 x) ∧ w'.cell? ⟨w9.heap.size, 1, none⟩ = some (.int .i64 y) ∧ w'.cell? ⟨w9.heap.size, 2, none⟩ = some (.int .i64 z) ∧ w'.cell? ⟨b, off + k * 3, none⟩ = some (.int .i64 x) ∧ w'.cell? ⟨b, off + k * 3 + 1, none⟩ = some (.int .i64 y) ∧ w'.cell? ⟨b, off + k * 3 + 2, none⟩ = some (.int .i64 z)) (((try dsimp only); (repeat' apply And.intro) <;> first | assumption | go_keep)) (first
          | (go_at_call 8; refine (HAW.out _ rfl).mono ?_; rintro e w2 ⟨rfl, d0, d1, d2, d3, d4, d5, H2⟩)
          | fail)
        go_wp2
        go_ret
        exact ⟨rfl, H2.out⟩
      | false =>
        have HV := Lib.hid (bad_at HN.out HTT.out hv)
        go_wp2
        go_roundw
        case rel => exact ⟨k + 1, by go_num, by omega, HV.out, (by trivial)⟩
        case measure => simp [intOf]; omega
    · obtain rfl : k = L.length := by omega
      have HV := bad_none (L := L) (by
        have := HN.out
        rwa [List.take_of_length_le (Nat.le_refl _)] at this)
      rw [HBX.out, HBI.out] at HV
      obtain ⟨e1, rfl⟩ := HV
      injection e1 with e1 e2
      injection e2 with e2 e3
      subst e1; subst e2; subst e3
      go_wp2_with (first
        | (go_at_call 8; refine (awake_any _).mono ?_; rintro e w2 ⟨rfl, b2⟩)
        | fail)
      go_ret
      exact ⟨rfl, BA.out.trans (b2.mono BA.out.size)⟩

theorem lexReads_walk (a0 : Option Addr) (len0 cap0 : Nat) (z0 : List Int) (w : World) (w0 : IsRow .u8 w a0 len0 cap0 z0) :
    Calls Try.prog 3 #[.slice a0 len0 cap0] w fun e w' => e = .returned (.bool true) ∧ Below w.heap.size w w' := by
  obtain ⟨l0, m0, _, s0, b0⟩ := w0.sh
  by_cases h : 2000 < len0
  · exact lexReads_long _ _ _ _ h (by omega)
  · exact lexReads_short _ _ _ _ _ h l0 s0 (byt8_of b0)
end Go.Proofs.Ytenohmkcbncehaa

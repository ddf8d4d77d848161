/-
  blazonlaw06.LexWhole is true for every input: the texts of all tokens, one behind the other, are the bytes; each one's tokens are that one alone.
  Conditions: none beyond the statement's own.
-/
import Derived.Test.YtenohmkcbncehaaLxC
namespace Go.Proofs.Ytenohmkcbncehaa
set_option linter.unusedVariables false
set_option linter.unusedSimpArgs false
open Go.RowKit

theorem lexWhole_long (A : Option Addr) (n c : Nat) (w : World) (h : 2000 < n) (hm : n ≤ maxLen) :
    Calls Try.prog 4 #[.slice A n c] w fun e w' => e = .returned (.bool true) ∧ Below w.heap.size w w' := by
  unfold maxLen at hm
  have hlt : (2000 : Int) < (n : Int) := by omega
  go_enter Try.func4, Try.ntmps4
  go_wp2_with (go_at_call 8; refine (awake_any _).mono ?_; rintro e w1 ⟨rfl, b1⟩)
  go_ret
  exact ⟨rfl, b1⟩

theorem toks_next {bs : List Int} {u k : Nat} {L : List Tk} (hd : L.drop k = toks bs u) (hu : u < bs.length) : L[k]? = some (tk (bs.drop u), (u : Int), ((u + tl (bs.drop u) : Nat) : Int)) ∧ L.drop (k + 1) = toks bs (u + tl (bs.drop u)) := by
  rw [toks_at hu] at hd
  constructor
  · have : (L.drop k)[0]? = some (tk (bs.drop u), (u : Int), ((u + tl (bs.drop u) : Nat) : Int)) := by rw [hd]; rfl
    rwa [List.getElem?_drop] at this
  · rw [← List.drop_drop, hd]; rfl

set_option maxRecDepth 10000 in
set_option maxHeartbeats 800000 in
theorem lexWhole_short (A : Option Addr) (n c : Nat) (bs : List Int) (w : World) (h : ¬ 2000 < n) (hnc : n ≤ c) (hcm : c ≤ maxLen) (hcA : c = 0 ∨ ∃ b off, A = some ⟨b, off, none⟩) (hx : Sh w w.heap.size A n (by8 bs)) (hb : Byt8 bs) :
    Calls Try.prog 4 #[.slice A n c] w fun e w' => e = .returned (.bool true) ∧ Below w.heap.size w w' := by
  have hl : bs.length = n := by have := hx.len; rwa [by8_len] at this
  have HL := Lib.hid hl
  have HBY := Lib.hid hb
  have X := Lib.hid (fun w' (b : Below w.heap.size w w') => (hx.below b).more b.size)
  have htl : (toks bs 0).length ≤ n := by have := toks_len bs bs.length 0 (by omega); omega
  obtain ⟨L, hL⟩ : ∃ L, toks bs 0 = L := ⟨_, rfl⟩
  have HT := Lib.hid hL
  have HC := Lib.hid hcm
  have HCA := Lib.hid hcA
  rw [hL] at htl
  have hlt : ¬ (2000 : Int) < (n : Int) := by omega
  clear hl hx hb hL hcm hcA
  go_enter Try.func4, Try.ntmps4
  go_wp2_with fail
  refine (lexAll_any A n c bs w (X.out _ (Below.refl _ _)) (by omega) hnc HC.out).mono ?_
  rw [HT.out]
  rintro e w1 ⟨v1, rfl, ho1, b1⟩
  obtain ⟨P, pc, rfl⟩ := ho1.form
  have S1 := Lib.hid (ho1.tok rfl)
  have B1 := Lib.hid b1
  clear ho1 b1
  go_wp2
  go_loopw [4, 5] (fun v i wr => ∃ k u : Nat, i = .int .i64 (k : Int) ∧ v = .string (strOfNums (bs.take u)) ∧ u ≤ n ∧ k ≤ L.length ∧ L.drop k = toks bs u ∧ Below w1.heap.size w1 wr) (fun _ i _ => L.length - (intOf i).toNat)
  case atStart => exact ⟨0, 0, rfl, rfl, Nat.zero_le _, Nat.zero_le _, HT.out.symm, Below.refl _ _⟩
  case round =>
    obtain ⟨k, u, rfl, rfl, hu, hk, hd, hbr⟩ := hrel
    have HD := Lib.hid hd
    have HB := Lib.hid hbr
    have SR := Lib.hid ((S1.out.up hbr (Nat.le_refl _)).more hbr.size)
    have BR := Lib.hid (B1.out.trans (hbr.mono B1.out.size))
    clear hd hbr
    by_cases hlt : k < L.length
    · have hun : u < n := by
        rcases Nat.lt_or_ge u n with h | h
        · exact h
        · have h1 := HD.out
          rw [toks_end (by rw [HL.out]; exact h)] at h1
          have := congrArg List.length h1
          simp at this
          omega
      obtain ⟨hk1, hd1⟩ := toks_next HD.out (by rw [HL.out]; exact hun)
      have hin := tl_in (bs := bs) (u := u) (by rw [HL.out]; exact hun)
      have hpos := tl_pos (bs.drop u)
      have halone := tok_alone (l := bs.drop u) (by simp [HL.out]; omega)
      rw [HL.out] at hin
      obtain ⟨K, hK⟩ : ∃ K, tk (bs.drop u) = K := ⟨_, rfl⟩
      obtain ⟨m, hm⟩ : ∃ m, tl (bs.drop u) = m := ⟨_, rfl⟩
      rw [hK, hm] at hk1 halone
      rw [hm] at hd1 hin hpos
      have HD1 := Lib.hid hd1
      have HAL := Lib.hid halone
      obtain ⟨b, off, t, hP, hbb, ht, c0, c1, c2⟩ := SR.out.at hlt
      rw [hk1] at ht
      cases ht
      dsimp only at c0 c1 c2
      subst hP
      have hcutl : cutOf bs (u : Int) ((u + m : Nat) : Int) = (bs.drop u).take m := by
        unfold cutOf
        rw [if_pos ⟨by omega, by omega, by rw [HL.out]; omega⟩, show ((u : Int)).toNat = u by omega, show (((u + m : Nat) : Int)).toNat = u + m by omega, List.drop_take]
        congr 1
        omega
      have HTX := Lib.hid (text_any A n c bs K (u : Int) ((u + m : Nat) : Int) wr (X.out _ BR.out) (by omega) hnc HC.out HCA.out)
      rw [hcutl] at HTX
      have hxl : ((bs.drop u).take m).length = m := by simp [HL.out]; omega
      obtain ⟨xs, hxs⟩ : ∃ xs, (bs.drop u).take m = xs := ⟨_, rfl⟩
      have hjoin : strOfNums (bs.take u) ++ strOfNums xs = strOfNums (bs.take (u + m)) := by
        rw [str_append, ← hxs, List.take_add]
      have hbx : bts (strOfNums xs) = xs := bts_str (by rw [← hxs]; exact (HBY.out.drop u).take m)
      rw [hxs] at HTX HAL hxl
      have HJ := Lib.hid hjoin
      have hsx : (strOfNums xs).size = m := by rw [str_len, hxl]
      have hsu : (strOfNums (bs.take u)).size ≤ 2000 := by rw [str_len, List.length_take]; omega
      clear hcutl hxl hxs hk1 hd1 halone hK hm hjoin
      obtain ⟨sx, hsx0⟩ : ∃ sx, strOfNums xs = sx := ⟨_, rfl⟩
      obtain ⟨su, hsu0⟩ : ∃ su, strOfNums (bs.take u) = su := ⟨_, rfl⟩
      obtain ⟨sm, hsm0⟩ : ∃ sm, strOfNums (bs.take (u + m)) = sm := ⟨_, rfl⟩
      have HSM := Lib.hid hsm0
      rw [hsx0, hsu0, hsm0] at HJ
      rw [hsx0] at HTX hbx hsx
      rw [hsu0] at hsu ⊢
      clear hsx0 hsu0 hsm0
      go_wp2_with fail
      refine HTX.out.mono ?_
      rintro e w2 ⟨rfl, b2⟩
      obtain ⟨wl, cc, hcv, hxw, hbw, hc1, hc2⟩ := convS (w := w2) (B := w2.heap.size) sx xs hbx (by omega) (Nat.le_refl _)
      rw [hsx] at hcv hxw hc1
      have hm2 := lexAll_any _ _ cc xs wl hxw (by omega) hc1 hc2
      rw [HAL.out] at hm2
      have HM := Lib.hid hm2
      have B2 := Lib.hid b2
      have BW := Lib.hid hbw
      clear hxw hbw hm2 b2
      go_wp2_with fail
      with_reducible refine HM.out.mono ?_
      rintro e w3 ⟨v3, rfl, ho3, b3⟩
      obtain ⟨g3, pc3, rfl, _, hlt3⟩ := ho3.1.form (show 0 < 1 from Nat.one_pos)
      have hcc := (ho3.tok rfl).2 (show 0 < 1 from Nat.one_pos)
      obtain ⟨b', off', e', _, hcc⟩ := hcc
      cases e'
      have d0 : w3.cell? ⟨g3, 0, none⟩ = some (.int .i64 K) := (hcc 0 _ rfl).1
      have d1 : w3.cell? ⟨g3, 1, none⟩ = some (.int .i64 0) := (hcc 0 _ rfl).2.1
      have d2 : w3.cell? ⟨g3, 2, none⟩ = some (.int .i64 (m : Int)) := (hcc 0 _ rfl).2.2
      have B3 : Hid (Below wr.heap.size wr w3) := Lib.hid (B2.out.trans ((BW.out.mono B2.out.size).trans (b3.mono (Nat.le_trans B2.out.size BW.out.size))))
      have k0 : w3.cell? ⟨b, off + k * 3, none⟩ = some (.int .i64 K) := (B3.out.cell (p := ⟨b, _, none⟩) hbb).trans c0
      have hone : [((K : Int), (0 : Int), (m : Int))].length = 1 := rfl
      rw [hone]
      have hsm' : ((m : Int) != (m : Int)) = false := by simp
      have hkk : (K != K) = false := by simp
      have B4 := Lib.hid (HB.out.trans (B3.out.mono HB.out.size))
      have hadd : (Op.stringOp .add su sx).run Try.prog = fun w => .ok (.string sm) w := by
        funext w
        rw [run_string_add_sum _ su sx (by omega), HJ.out]
      clear hcc b3 c0 c1 c2 hcv ho3 HM
      have hsz3 : ∀ w, (Op.stringOp .add su sx).run Try.prog w = .ok (.string sm) w := fun w => by rw [hadd]
      clear hadd
      go_wp2
      go_quiet (fail)
      go_wp2
      go_roundw
      case rel =>
        refine ⟨k + 1, u + m, by go_num, by rw [HSM.out], by omega, by omega, HD1.out, B4.out.trans ((Quiet.one _ _).below _)⟩
      case measure => simp [intOf]; omega
    · obtain rfl : k = L.length := by omega
      have hun : u = n := by
        rcases Nat.lt_or_ge u n with h | h
        · have h1 := HD.out
          rw [toks_at (by rw [HL.out]; exact h), List.drop_of_length_le (Nat.le_refl _)] at h1
          cases h1
        · omega
      subst hun
      have hall : bs.take u = bs := List.take_of_length_le (by rw [HL.out]; exact Nat.le_refl _)
      rw [hall]
      have hcv := convert_sh (X.out _ BR.out) c
      obtain ⟨s, hs⟩ : ∃ s, strOfNums bs = s := ⟨_, rfl⟩
      rw [hs] at hcv ⊢
      have hss : (s.toList == s.toList) = true := by simp
      clear hs hall
      go_wp2_with (first
        | (go_at_call 8; refine (awake_any _).mono ?_; rintro e w2 ⟨rfl, b2⟩)
        | fail)
      go_ret
      exact ⟨rfl, BR.out.trans (b2.mono BR.out.size)⟩

theorem lexWhole_walk (a0 : Option Addr) (len0 cap0 : Nat) (z0 : List Int) (w : World) (w0 : IsRow .u8 w a0 len0 cap0 z0) :
    Calls Try.prog 4 #[.slice a0 len0 cap0] w fun e w' => e = .returned (.bool true) ∧ Below w.heap.size w w' := by
  obtain ⟨l0, m0, _, s0, b0⟩ := w0.sh
  by_cases h : 2000 < len0
  · exact lexWhole_long _ _ _ _ h (by omega)
  · exact lexWhole_short _ _ _ _ _ h l0 m0 w0.form6 s0 (byt8_of b0)
end Go.Proofs.Ytenohmkcbncehaa

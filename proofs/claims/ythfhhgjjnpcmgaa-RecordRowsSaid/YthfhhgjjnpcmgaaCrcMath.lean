/-
  THE SUM OF LAYER 2, ON NUMBERS: a step, eight steps, a row of bytes; the table's way is the same; a step takes unlike numbers to unlike ones.
-/
import Derived.Laws.BitsAllLaws
namespace Go.Proofs.Ythfhhgjjnpcmgaa
set_option linter.unusedVariables false
set_option linter.unusedSimpArgs false

/-- One step. -/
def stp (x : Nat) : Nat := if x % 2 = 1 then (x / 2) ^^^ 3988292384 else x / 2
/-- k steps. -/
def stps : Nat → Nat → Nat
  | 0, x => x
  | k + 1, x => stp (stps k x)
/-- A row of bytes. -/
def fld (c : Nat) (l : List Int) : Nat := l.foldl (fun c b => stps 8 (c ^^^ b.toNat)) c
def crcOf (s : Nat) (l : List Int) : Nat := 4294967295 - fld (4294967295 - s) l
def Byt (l : List Int) : Prop := ∀ x ∈ l, 0 ≤ x ∧ x < 256

theorem xor_lt32 {x y : Nat} (hx : x < 4294967296) (hy : y < 4294967296) : x ^^^ y < 4294967296 := Nat.xor_lt_two_pow (n := 32) hx hy
theorem xor_lt8 {x y : Nat} (hx : x < 256) (hy : y < 256) : x ^^^ y < 256 := Nat.xor_lt_two_pow (n := 8) hx hy
theorem stp_lt {x : Nat} (hx : x < 4294967296) : stp x < 4294967296 := by
  unfold stp
  split
  · exact xor_lt32 (by omega) (by omega)
  · omega
theorem stps_lt {x : Nat} (hx : x < 4294967296) : ∀ k, stps k x < 4294967296
  | 0 => hx
  | k + 1 => stp_lt (stps_lt hx k)
theorem xor_cancel (a b : Nat) : a ^^^ b ^^^ b = a := by rw [Nat.xor_assoc, Nat.xor_self, Nat.xor_zero]
theorem xor_swap4 (a b c d : Nat) : (a ^^^ b) ^^^ (c ^^^ d) = (a ^^^ c) ^^^ (b ^^^ d) := by
  rw [Nat.xor_assoc, Nat.xor_assoc, ← Nat.xor_assoc b, Nat.xor_comm b c, Nat.xor_assoc c]
theorem xor_mod2 (x y : Nat) : (x ^^^ y) % 2 = (x + y) % 2 := by
  have h := Nat.xor_mod_two_pow (a := x) (b := y) (n := 1)
  rw [show 2 ^ 1 = 2 by decide] at h
  have hx : x % 2 = 0 ∨ x % 2 = 1 := by omega
  have hy : y % 2 = 0 ∨ y % 2 = 1 := by omega
  rcases hx with hx | hx <;> rcases hy with hy | hy <;> rw [h, hx, hy] <;> simp <;> omega
theorem stp_xor (x y : Nat) : stp (x ^^^ y) = stp x ^^^ stp y := by
  unfold stp
  rw [Nat.xor_div_two, xor_mod2]
  have hx : x % 2 = 0 ∨ x % 2 = 1 := by omega
  have hy : y % 2 = 0 ∨ y % 2 = 1 := by omega
  rcases hx with hx | hx <;> rcases hy with hy | hy <;> (have hs : (x + y) % 2 = (x % 2 + y % 2) % 2 := by omega) <;> rw [hs, hx, hy] <;> simp
  · rw [Nat.xor_assoc]
  · rw [Nat.xor_assoc, Nat.xor_assoc, Nat.xor_comm (y / 2)]
  · rw [xor_swap4, Nat.xor_self, Nat.xor_zero]
theorem stps_xor (x y : Nat) : ∀ k, stps k (x ^^^ y) = stps k x ^^^ stps k y
  | 0 => rfl
  | k + 1 => by simp only [stps]; rw [stps_xor x y k, stp_xor]
theorem stp_even (k : Nat) : stp (2 * k) = k := by
  unfold stp
  rw [if_neg (by omega)]
  omega
theorem stps8_high (h : Nat) : stps 8 (256 * h) = h := by
  simp only [stps]
  have e : ∀ j, stp (2 * j) = j := stp_even
  rw [show 256 * h = 2 * (128 * h) by omega, e, show 128 * h = 2 * (64 * h) by omega, e, show 64 * h = 2 * (32 * h) by omega, e, show 32 * h = 2 * (16 * h) by omega, e,
    show 16 * h = 2 * (8 * h) by omega, e, show 8 * h = 2 * (4 * h) by omega, e, show 4 * h = 2 * (2 * h) by omega, e, e]
theorem split8 (x : Nat) : (256 * (x / 256)) ^^^ (x % 256) = x := by
  apply Nat.eq_of_testBit_eq
  intro i
  rw [Nat.testBit_xor, show 256 = 2 ^ 8 by decide, Nat.testBit_two_pow_mul, Nat.testBit_div_two_pow, Nat.testBit_mod_two_pow]
  by_cases h : i < 8
  · simp [h, show ¬ 8 ≤ i by omega]
  · simp [h, show 8 ≤ i by omega]
theorem stps8 (x : Nat) : stps 8 x = (x / 256) ^^^ stps 8 (x % 256) := by
  conv => lhs; rw [← split8 x]
  rw [stps_xor, stps8_high]
/-- THE TABLE's WAY. -/
theorem by_table (c b : Nat) (hb : b < 256) : stps 8 (c ^^^ b) = (c / 256) ^^^ stps 8 ((c % 256) ^^^ b) := by
  rw [stps8 (c ^^^ b)]
  have h1 : (c ^^^ b) / 256 = c / 256 := by
    rw [show 256 = 2 ^ 8 by decide, Nat.xor_div_two_pow, Nat.div_eq_of_lt (a := b) (by simpa using hb), Nat.xor_zero]
  have h2 : (c ^^^ b) % 256 = (c % 256) ^^^ b := by
    rw [show 256 = 2 ^ 8 by decide, Nat.xor_mod_two_pow, Nat.mod_eq_of_lt (a := b) (by simpa using hb)]
  rw [h1, h2]
theorem top_set {x : Nat} (hx : x < 2147483648) : 2147483648 ≤ x ^^^ 3988292384 := by
  by_cases hc : x ^^^ 3988292384 < 2147483648
  · have : (x ^^^ 3988292384) ^^^ x < 2147483648 := Nat.xor_lt_two_pow (n := 31) hc hx
    rw [Nat.xor_comm x, xor_cancel] at this
    omega
  · omega
theorem stp_inj {x y : Nat} (hx : x < 4294967296) (hy : y < 4294967296) (h : stp x = stp y) : x = y := by
  unfold stp at h
  have h1 := top_set (x := x / 2) (by omega)
  have h2 := top_set (x := y / 2) (by omega)
  split at h <;> split at h
  · have := congrArg (· ^^^ 3988292384) h
    simp only [xor_cancel] at this
    omega
  · omega
  · omega
  · omega
theorem stps_inj {x y : Nat} (hx : x < 4294967296) (hy : y < 4294967296) : ∀ k, stps k x = stps k y → x = y
  | 0, h => by simpa only [stps] using h
  | k + 1, h => by
    simp only [stps] at h
    exact stps_inj hx hy k (stp_inj (stps_lt hx k) (stps_lt hy k) h)
theorem fld_nil (c : Nat) : fld c [] = c := rfl
theorem fld_cons (c : Nat) (b : Int) (l : List Int) : fld c (b :: l) = fld (stps 8 (c ^^^ b.toNat)) l := by unfold fld; rw [List.foldl_cons]
theorem fld_append (c : Nat) (a b : List Int) : fld c (a ++ b) = fld (fld c a) b := by unfold fld; rw [List.foldl_append]
theorem fld_snoc (c : Nat) (a : List Int) (b : Int) : fld c (a ++ [b]) = stps 8 (fld c a ^^^ b.toNat) := by rw [fld_append, fld_cons, fld_nil]
theorem Byt.tail {b : Int} {l : List Int} (h : Byt (b :: l)) : Byt l := fun x hx => h x (List.mem_cons_of_mem _ hx)
theorem Byt.head {b : Int} {l : List Int} (h : Byt (b :: l)) : 0 ≤ b ∧ b < 256 := h b List.mem_cons_self
theorem Byt.take {l : List Int} (h : Byt l) (k : Nat) : Byt (l.take k) := fun x hx => h x (List.mem_of_mem_take hx)
theorem Byt.drop {l : List Int} (h : Byt l) (k : Nat) : Byt (l.drop k) := fun x hx => h x (List.mem_of_mem_drop hx)
theorem Byt.at {l : List Int} (h : Byt l) {k : Nat} (hk : k < l.length) : 0 ≤ l.getD k 0 ∧ l.getD k 0 < 256 := by
  rw [List.getD_eq_getElem?_getD, List.getElem?_eq_getElem hk]
  exact h _ (List.getElem_mem hk)
theorem byte_lt {b : Int} (h : 0 ≤ b ∧ b < 256) : b.toNat < 256 := by omega
theorem fld_lt {c : Nat} (hc : c < 4294967296) : ∀ {l : List Int}, Byt l → fld c l < 4294967296 := by
  intro l
  induction l generalizing c with
  | nil => intro _; exact hc
  | cons b l ih =>
    intro h
    rw [fld_cons]
    exact ih (stps_lt (xor_lt32 hc (by have := byte_lt h.head; omega)) 8) h.tail
theorem fld_inj {c d : Nat} (hc : c < 4294967296) (hd : d < 4294967296) : ∀ {l : List Int}, Byt l → fld c l = fld d l → c = d := by
  intro l
  induction l generalizing c d with
  | nil => intro _ h; exact h
  | cons b l ih =>
    intro hb h
    rw [fld_cons, fld_cons] at h
    have hbl := byte_lt hb.head
    have hx := xor_lt32 hc (y := b.toNat) (by omega)
    have hy := xor_lt32 hd (y := b.toNat) (by omega)
    have := stps_inj hx hy 8 (ih (stps_lt hx 8) (stps_lt hy 8) hb.tail h)
    have := congrArg (· ^^^ b.toNat) this
    simpa only [xor_cancel] using this
theorem crc_lt (s : Nat) (l : List Int) : crcOf s l < 4294967296 := by unfold crcOf; omega
theorem crc_parts {s : Nat} (hs : s < 4294967296) {a b : List Int} (ha : Byt a) : crcOf (crcOf s a) b = crcOf s (a ++ b) := by
  unfold crcOf
  have := fld_lt (c := 4294967295 - s) (by omega) ha
  rw [fld_append, show 4294967295 - (4294967295 - fld (4294967295 - s) a) = fld (4294967295 - s) a by omega]
theorem crc_cut {s : Nat} (hs : s < 4294967296) {l : List Int} (hl : Byt l) (k : Nat) : crcOf (crcOf s (l.take k)) (l.drop k) = crcOf s l := by
  rw [crc_parts hs (hl.take k), List.take_append_drop]
theorem crc_nil {s : Nat} (hs : s < 4294967296) : crcOf s [] = s := by unfold crcOf; rw [fld_nil]; omega
/-- ONE BYTE THAT IS ANOTHER ONE. -/
theorem crc_turned {s : Nat} (hs : s < 4294967296) {a b : List Int} {x y : Int} (ha : Byt a) (hb : Byt b) (hx : 0 ≤ x ∧ x < 256) (hy : 0 ≤ y ∧ y < 256) (h : x ≠ y) :
    crcOf s (a ++ x :: b) ≠ crcOf s (a ++ y :: b) := by
  intro he
  unfold crcOf at he
  have hc := fld_lt (c := 4294967295 - s) (by omega) ha
  rw [fld_append, fld_append, fld_cons, fld_cons] at he
  have h1 := xor_lt32 hc (y := x.toNat) (by have := byte_lt hx; omega)
  have h2 := xor_lt32 hc (y := y.toNat) (by have := byte_lt hy; omega)
  have l1 := fld_lt (stps_lt h1 8) hb
  have l2 := fld_lt (stps_lt h2 8) hb
  have e := stps_inj h1 h2 8 (fld_inj (stps_lt h1 8) (stps_lt h2 8) hb (by omega))
  have := congrArg (fld (4294967295 - s) a ^^^ ·) e
  simp only [← Nat.xor_assoc, Nat.xor_self, Nat.zero_xor] at this
  omega
end Go.Proofs.Ythfhhgjjnpcmgaa

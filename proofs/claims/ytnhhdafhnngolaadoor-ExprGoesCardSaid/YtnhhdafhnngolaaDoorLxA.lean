/-
  ROWS OF TOKENS in memory; CONTRACTS OF 'lex.All', 'lex.Live', 'lex.Bad'.
-/
import Derived.Test.YtnhhdafhnngolaaDoorLxW
import Derived.Test.YtnhhdafhnngolaaDoorPushG
namespace Go.Proofs.YtnhhdafhnngolaaDoor
set_option linter.unusedVariables false
set_option linter.unusedSimpArgs false
open Go.RowKit

theorem rowTok : RowT Tryd.prog 37 49 3 24 := RowT.mk (z := .agg #[.int .i64 0, .int .i64 0, .int .i64 0]) Tryd.underlying37 (by kernel_rfl) rfl (by omega)
def tcell (t : Tk) : List Value := [.int .i64 t.1, .int .i64 t.2.1, .int .i64 t.2.2]
def tcs (L : List Tk) : List Value := L.flatMap tcell
theorem tcs_snoc (L : List Tk) (t : Tk) : tcs (L ++ [t]) = tcs L ++ tcell t := by simp [tcs]
theorem tcs_cons (t : Tk) (L : List Tk) : tcs (t :: L) = .int .i64 t.1 :: .int .i64 t.2.1 :: .int .i64 t.2.2 :: tcs L := by simp [tcs, tcell]
theorem tcs_len (L : List Tk) : (tcs L).length = L.length * 3 := by
  induction L with
  | nil => rfl
  | cons t L ih => rw [tcs_cons]; simp; omega
theorem tcs_at {L : List Tk} {k : Nat} {t : Tk} (h : L[k]? = some t) : (tcs L)[k * 3]? = some (.int .i64 t.1) ∧ (tcs L)[k * 3 + 1]? = some (.int .i64 t.2.1) ∧ (tcs L)[k * 3 + 2]? = some (.int .i64 t.2.2) := by
  induction L generalizing k with
  | nil => simp at h
  | cons s L ih =>
    rw [tcs_cons]
    cases k with
    | zero => cases h; exact ⟨rfl, rfl, rfl⟩
    | succ k =>
      have := ih (k := k) (by simpa using h)
      rw [show (k + 1) * 3 = k * 3 + 1 + 1 + 1 by omega]
      simpa using this
theorem tcell_one (t : Tk) : ∀ u ∈ tcell t, u.oneCell' = true := by
  intro u hu
  simp [tcell] at hu
  rcases hu with rfl | rfl | rfl <;> rfl

/-- The slice '.slice A n c' shows the tokens L. -/
def ShT (w : World) (B : Nat) (A : Option Addr) (n : Nat) (L : List Tk) : Prop :=
  L.length = n ∧ (0 < n → ∃ b off, A = some ⟨b, off, none⟩ ∧ b < B ∧ ∀ k t, L[k]? = some t →
    w.cell? ⟨b, off + k * 3, none⟩ = some (.int .i64 t.1) ∧ w.cell? ⟨b, off + k * 3 + 1, none⟩ = some (.int .i64 t.2.1) ∧ w.cell? ⟨b, off + k * 3 + 2, none⟩ = some (.int .i64 t.2.2))
section
variable {w w' : World} {B B' n : Nat} {A : Option Addr} {L : List Tk}
theorem ShT.at (h : ShT w B A n L) {k : Nat} (hk : k < n) : ∃ b off t, A = some ⟨b, off, none⟩ ∧ b < B ∧ L[k]? = some t ∧
    w.cell? ⟨b, off + k * 3, none⟩ = some (.int .i64 t.1) ∧ w.cell? ⟨b, off + k * 3 + 1, none⟩ = some (.int .i64 t.2.1) ∧ w.cell? ⟨b, off + k * 3 + 2, none⟩ = some (.int .i64 t.2.2) := by
  obtain ⟨b, off, e, hb, hc⟩ := h.2 (by omega)
  have hl : k < L.length := by rw [h.1]; exact hk
  exact ⟨b, off, L[k], e, hb, List.getElem?_eq_getElem hl, hc k _ (List.getElem?_eq_getElem hl)⟩
theorem ShT.up (h : ShT w B A n L) (hb : Below B' w w') (hB : B ≤ B') : ShT w' B A n L :=
  ⟨h.1, fun hn => by
    obtain ⟨b, off, e, hlt, hc⟩ := h.2 hn
    refine ⟨b, off, e, hlt, fun k t ht => ?_⟩
    obtain ⟨h0, h1, h2⟩ := hc k t ht
    exact ⟨(hb.cell (p := ⟨b, _, none⟩) (Nat.lt_of_lt_of_le hlt hB)).trans h0, (hb.cell (p := ⟨b, _, none⟩) (Nat.lt_of_lt_of_le hlt hB)).trans h1, (hb.cell (p := ⟨b, _, none⟩) (Nat.lt_of_lt_of_le hlt hB)).trans h2⟩⟩
theorem ShT.more (h : ShT w B A n L) (hB : B ≤ B') : ShT w B' A n L :=
  ⟨h.1, fun hn => by
    obtain ⟨b, off, e, hlt, hc⟩ := h.2 hn
    exact ⟨b, off, e, by omega, hc⟩⟩
theorem Own.tok {c : Nat} {e : TypeId} (h : Own w B e 3 (.slice A n c) n (tcs L)) (hl : L.length = n) : ShT w w.heap.size A n L := by
  refine ⟨hl, fun hn => ?_⟩
  obtain ⟨g, cap, hv, _, hlt⟩ := h.1.form hn
  have hA : A = some ⟨g, 0, none⟩ := by injection hv
  subst hA
  have hc : ∀ j u, (tcs L)[j]? = some u → w.cell? ⟨g, 0 + j, none⟩ = some u := fun j u hu => by
    have := h.1.cells (g := g) rfl j u hu
    rwa [Addr.add_lit] at this
  refine ⟨g, 0, rfl, hlt, fun k t ht => ?_⟩
  obtain ⟨h0, h1, h2⟩ := tcs_at ht
  refine ⟨hc _ _ h0, ?_, ?_⟩
  · rw [Nat.add_assoc]; exact hc _ _ h1
  · rw [Nat.add_assoc]; exact hc _ _ h2
end

/-- What a call answers that makes a row of tokens. -/
def ToksTo (L : List Tk) (w : World) (e : Ending) (w' : World) : Prop :=
  ∃ v, e = .returned v ∧ Own w' w.heap.size 49 3 v L.length (tcs L) ∧ Below w.heap.size w w'

theorem grown_below {a b : World} {k : Nat} (h : a.grownBy b (some k)) (B : Nat) (hk : B ≤ k) (hB : B ≤ a.heap.size) : Below B a b :=
  ⟨h.os, h.tape, h.output, h.size, fun j hj => h.block j (by omega) (by intro e; injection e; omega)⟩

/-- A token's block, behind an append to an older row. -/
theorem tok_kept {wr w1 w2 : World} {B n : Nat} {v a b c : Value} {xs : List Value} {e T : TypeId} {o : Obj} (ho : Own wr B e 3 v n xs) (hs : wr.heap.size ≤ w1.heap.size) (hg : ((w1.alloc (.cells #[a, b, c] T)).alloc o).grownBy w2 v.ownBlock) :
    w2.cell? ⟨w1.heap.size, 0, none⟩ = some a ∧ w2.cell? ⟨w1.heap.size, 1, none⟩ = some b ∧ w2.cell? ⟨w1.heap.size, 2, none⟩ = some c := by
  have hb : w2.heap[w1.heap.size]? = ((w1.alloc (.cells #[a, b, c] T)).alloc o).heap[w1.heap.size]? := hg.block w1.heap.size (by simp; omega) (fun e => by have := (ho.1.lt _ e.symm).2; omega)
  have hc : ∀ j, w2.cell? ⟨w1.heap.size, j, none⟩ = #[a, b, c][j]? := fun j => by
    rw [World.cell?_of_block (a := ⟨w1.heap.size, j, none⟩) hb, World.cell?_alloc_past _ _ _ (by simp), World.cell?_alloc_at _ _ _ _ rfl]
  exact ⟨hc 0, hc 1, hc 2⟩

set_option maxRecDepth 10000 in
set_option maxHeartbeats 1600000 in
theorem lexAll_any (A : Option Addr) (n c : Nat) (bs : List Int) (w : World) (hx : Sh w w.heap.size A n (by8 bs)) (hn : n ≤ 1000000) (hnc : n ≤ c) (hcm : c ≤ maxLen) :
    Calls Tryd.prog 51 #[.slice A n c] w (ToksTo (toks bs 0) w) := by
  have hl : bs.length = n := by have := hx.len; rwa [by8_len] at this
  have HL := Lib.hid hl
  have HX := Lib.hid hx
  have HC := Lib.hid hcm
  have hz := zeroTok
  clear hl hx
  unfold maxLen at hcm
  go_enter Tryd.func51, Tryd.ntmps51
  go_wp2
  go_loopw [3, 4] (fun v i wr => ∃ (L : List Tk) (u : Nat), i = .int .i64 (u : Int) ∧ u ≤ n ∧ Own wr w.heap.size 49 3 v L.length (tcs L) ∧ L ++ toks bs u = toks bs 0 ∧ L.length ≤ u ∧ Below w.heap.size w wr) (fun _ i _ => n - (intOf i).toNat)
  case atStart => exact ⟨[], 0, rfl, Nat.zero_le _, Own.nil _ _ _ _ (Nat.le_refl _), rfl, by simp, Below.refl _ _⟩
  case round =>
    obtain ⟨L, u, rfl, hu, ho, hL, hLu, hb⟩ := hrel
    have HO := Lib.hid ho
    have HLL := Lib.hid hL
    have HB := Lib.hid hb
    have hge := ho.2
    clear ho hL hb
    by_cases hlt : u < n
    · have HT := Lib.hid (tokenAt_any A n c u bs wr ((HX.out.up HB.out (Nat.le_refl _)).more hge) hn hnc HC.out hlt)
      have HA := Lib.hid (toks_at (bs := bs) (u := u) (by rw [HL.out]; exact hlt))
      have HI := Lib.hid (tl_in (bs := bs) (u := u) (by rw [HL.out]; exact hlt))
      have HP := Lib.hid (tl_pos (bs.drop u))
      obtain ⟨k, hk⟩ : ∃ k, tk (bs.drop u) = k := ⟨_, rfl⟩
      obtain ⟨m, hm⟩ : ∃ m, u + tl (bs.drop u) = m := ⟨_, rfl⟩
      have hum : u + 1 ≤ m := by have := HP.out; omega
      have hmn : m ≤ n := by have := HI.out; rw [HL.out] at this; omega
      rw [hk, hm] at HT HA
      clear hk hm
      go_wp2_with (first
        | (go_at_call 65; refine HT.out.mono ?_; rintro e w1 ⟨rfl, b1⟩; have B1 := Lib.hid b1; have hs1 := b1.size; clear b1; dsimp only)
        | (at_builtin; refine wpList_push_g rfl (.tmp 13) (.tmp 15) 37 rfl rowTok _ w.heap.size _ L.length (tcs L) [.int .i64 k, .int .i64 (u : Int), .int .i64 (m : Int)] rfl ((HO.out.below B1.out).alloc _) rfl (by simp) rfl (by intro z hz; simp at hz; rcases hz with rfl | rfl | rfl <;> rfl) (by omega) (by omega) ?_; intro v2 w2 ho2 hg2
           have kE := (tok_kept HO.out hs1 hg2).2.2)
        | fail)
      go_roundw
      case rel =>
        refine ⟨L ++ [(k, (u : Int), (m : Int))], m, rfl, hmn, ?_, ?_, by simp; omega, ?_⟩
        · have := tcs_snoc L (k, (u : Int), (m : Int))
          exact ho2.cast (by simp) this.symm
        · rw [← HLL.out, HA.out]; simp
        · have b3 : Below w.heap.size w (((w1.alloc (.cells #[.int .i64 k, .int .i64 (u : Int), .int .i64 (m : Int)] 49)).alloc (.cells #[.int .i64 k, .int .i64 (u : Int), .int .i64 (m : Int)] 49))) :=
            ((HB.out.trans (B1.out.mono hge)).alloc (by omega) _).alloc (by simp; omega) _
          exact b3.grown hg2 (by simp; omega) (fun q hq => (HO.out.1.lt q hq).1)
      case measure => simp [intOf]; omega
    · obtain rfl : u = n := by omega
      have HE := Lib.hid (toks_end (bs := bs) (u := u) (by rw [HL.out]; exact Nat.le_refl _))
      go_wp2
      go_ret
      have h := HLL.out
      rw [HE.out, List.append_nil] at h
      exact ⟨_, rfl, by rw [← h]; exact HO.out, HB.out⟩
end Go.Proofs.YtnhhdafhnngolaaDoor

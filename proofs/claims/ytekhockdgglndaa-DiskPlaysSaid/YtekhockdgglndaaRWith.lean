/-
  CONTRACT OF the document's 'with'.
-/
import Derived.Test.YtekhockdgglndaaRTurn
namespace Go.Proofs.Ytekhockdgglndaa
set_option linter.unusedVariables false
set_option linter.unusedSimpArgs false
open Go.RowKit

theorem rowF : RowT Try.prog 67 74 2 32 := RowT.mk (z := .agg #[.slice none 0 0, .int .i64 0]) Try.underlying67 (by kernel_rfl) rfl (by omega)
theorem fcells_len (l : List RFl) : (fcells l).length = l.length * 2 := by
  induction l with
  | nil => rfl
  | cons f l ih =>
    have e : fcells (f :: l) = .slice f.A f.n f.c :: .int .i64 (f.sure : Int) :: fcells l := by simp [fcells, RFl.cells]
    rw [e]; simp [ih]; omega
theorem fcells_append (a b : List RFl) : fcells (a ++ b) = fcells a ++ fcells b := by simp [fcells]
theorem fcells_take (l : List RFl) (k : Nat) (h : k ≤ l.length) : (fcells l).take (k * 2) = fcells (l.take k) := by
  conv => lhs; rw [← List.take_append_drop k l, fcells_append]
  rw [List.take_append_of_le_length (by rw [fcells_len, List.length_take]; omega), List.take_of_length_le (by rw [fcells_len, List.length_take]; omega)]
theorem fcells_drop (l : List RFl) (k : Nat) (h : k ≤ l.length) : (fcells l).drop (k * 2) = fcells (l.drop k) := by
  conv => lhs; rw [← List.take_append_drop k l, fcells_append]
  rw [List.drop_append_of_le_length (by rw [fcells_len, List.length_take]; omega), List.drop_eq_nil_of_le (by rw [fcells_len, List.length_take]; omega), List.nil_append]
theorem SX.head {w : World} {X : Nat → Prop} {A : Option Addr} {n size k : Nat} {xs : List Value} (h : SX w X A n size xs) (hk : k ≤ n) : SX w X A k size (xs.take (k * size)) := by
  have hle : k * size ≤ n * size := Nat.mul_le_mul_right _ hk
  refine ⟨by rw [List.length_take, h.1]; omega, fun hn => ?_⟩
  obtain ⟨b, off, e, hb, hc⟩ := h.2 (by omega)
  refine ⟨b, off, e, hb, fun j u hu => hc j u ?_⟩
  rw [List.getElem?_take] at hu
  split at hu
  · exact hu
  · cases hu
theorem SX.tail {w : World} {X : Nat → Prop} {b off n size k : Nat} {xs : List Value} (h : SX w X (some ⟨b, off, none⟩) n size xs) (hk : k ≤ n) {A' : Option Addr} (hA : k < n → A' = some ⟨b, off + k * size, none⟩) : SX w X A' (n - k) size (xs.drop (k * size)) := by
  refine ⟨by rw [List.length_drop, h.1, Nat.sub_mul], fun hn => ?_⟩
  obtain ⟨b', off', e, hb, hc⟩ := h.2 (by omega)
  cases e
  refine ⟨b, _, hA (by omega), hb, fun j u hu => ?_⟩
  rw [List.getElem?_drop] at hu
  rw [Nat.add_assoc]
  exact hc _ u hu
theorem SX.lit (w : World) (X : Nat → Prop) (xs : List Value) (e : TypeId) (n size : Nat) (hl : xs.length = n * size) (hX : X w.heap.size) : SX (w.alloc (.cells xs.toArray e)) X (some ⟨w.heap.size, 0, none⟩) n size xs :=
  ⟨hl, fun _ => ⟨w.heap.size, 0, rfl, hX, fun k u hu => by
    rw [Nat.zero_add, World.cell?_alloc_at _ _ _ _ rfl]
    simpa using hu⟩⟩

set_option maxRecDepth 10000 in
set_option maxHeartbeats 1600000 in
theorem rwith_any (X : Nat → Prop) (x : Nat) (V : RL) (R : RS) (i : Nat) (f : RFl) (w : World) (h : RAt w X x V R) (hf : f.ok w (out X x)) (hi : i < R.files.length) (hn : R.files.length ≤ 1000) :
    Calls Try.prog 58 #[.pointer (some ⟨x, 0, none⟩), .int .i64 (i : Int), .agg #[.slice f.A f.n f.c, .int .i64 (f.sure : Int)]] w fun e w' => e = .returned (.tuple #[]) ∧ (∃ A c, RAt w' (wid X w w') x { V with fA := A, fc := c } { R with files := R.files.set i f }) ∧ w.grownBy w' (some x) := by
  obtain ⟨W0, hW0⟩ : ∃ W0, W0 = w.alloc (.cells #[.slice f.A f.n f.c, .int .i64 (f.sure : Int)] 74) := ⟨_, rfl⟩
  have HW0 := Lib.hid hW0
  have hsz : W0.heap.size = w.heap.size + 1 := by rw [hW0]; simp
  have hb0 : Below w.heap.size w W0 := by rw [hW0]; exact (Below.refl _ _).alloc (Nat.le_refl _) _
  have HB0 := Lib.hid hb0
  have hx := h.lt
  have hle : w.heap.size ≤ W0.heap.size := by omega
  have HC : Hid (∀ w', Below W0.heap.size W0 w' → w'.cell? ⟨w.heap.size, 0, none⟩ = some (.slice f.A f.n f.c) ∧ w'.cell? ⟨w.heap.size, 1, none⟩ = some (.int .i64 (f.sure : Int)) ∧ w'.cell? ⟨x, 0, none⟩ = some (.slice V.fA R.files.length V.fc)) := Lib.hid fun w' b => by
    have e1 : ∀ j, w'.cell? ⟨w.heap.size, j, none⟩ = W0.cell? ⟨w.heap.size, j, none⟩ := fun j => b.cell (p := ⟨w.heap.size, j, none⟩) (by simp only; omega)
    refine ⟨?_, ?_, ?_⟩
    · rw [e1, hW0, World.cell?_alloc_at _ _ _ _ rfl]; rfl
    · rw [e1, hW0, World.cell?_alloc_at _ _ _ _ rfl]; rfl
    · exact ((b.cell (p := ⟨x, 0, none⟩) (by simp only; omega)).trans (hb0.cell (p := ⟨x, 0, none⟩) hx)).trans (h.cell 0)
  have HF : Hid (∀ w', Below W0.heap.size W0 w' → w'.frozen? ⟨x, 0, none⟩ = false) := Lib.hid fun w' b => ((b.frozen (p := ⟨x, 0, none⟩) (by simp only; omega)).trans (hb0.frozen (p := ⟨x, 0, none⟩) hx)).trans (h.nf 0)
  have hnc := h.fr.le
  have hcm := h.fr.cm
  obtain ⟨n, hnn⟩ : ∃ n, n = R.files.length := ⟨_, rfl⟩
  have HFR : Hid (∀ w', Below W0.heap.size W0 w' → SX w' (out X x) V.fA n 2 (fcells R.files)) := Lib.hid fun w' b => by
    rw [hnn]
    exact h.fr.sh.stay fun k hk => (b.block k (by have := h.old k hk.1; omega)).trans (hb0.block k (h.old k hk.1))
  rw [← hnn] at hi hn hnc HC
  obtain ⟨b, off, hA, _, _⟩ := (HFR.out W0 (Below.refl _ _)).2 (by omega)
  rw [hA] at HFR HC
  have H := Lib.hid h
  have HFO := Lib.hid hf
  have HNN := Lib.hid hnn
  unfold maxLen at hcm
  obtain ⟨fc, hfc⟩ : ∃ fc, fc = V.fc := ⟨_, rfl⟩
  rw [← hfc] at hnc hcm HC
  clear h hf hnn hb0 hW0 hfc
  obtain ⟨t0, t1, t2⟩ := HC.out W0 (Below.refl _ _)
  have HOLD : Hid (∀ k, out X x k → k < w.heap.size) := Lib.hid fun k hk => H.out.old k hk.1
  have OE : Hid (Own (W0.alloc (.cells #[] 74)) W0.heap.size 74 2 (.slice (some ⟨w.heap.size + 1, 0, none⟩) 0 0) 0 []) := Lib.hid (by
    have := Own.empty W0 W0.heap.size 74 2 (Nat.le_refl _)
    rwa [hsz] at this ⊢)
  have HS1 : Hid (SX (W0.alloc (.cells #[] 74)) (out X x) (some ⟨b, off, none⟩) i 2 (fcells (R.files.take i))) := Lib.hid (by
    have := (HFR.out _ ((Below.refl W0.heap.size W0).alloc (Nat.le_refl _) (.cells #[] 74))).head (k := i) (by omega)
    rwa [fcells_take _ _ (by have := HNN.out; omega)] at this)
  have HS2 : Hid (∀ A', (i + 1 < n → A' = some ⟨b, off + (i + 1) * 2, none⟩) → SX W0 (out X x) A' (n - (i + 1)) 2 (fcells (R.files.drop (i + 1)))) := Lib.hid fun A' hA' => by
    have := (HFR.out W0 (Below.refl _ _)).tail (k := i + 1) (by omega) hA'
    rwa [fcells_drop _ _ (by have := HNN.out; omega)] at this
  have u2 : ((w.alloc (.cells #[.slice f.A f.n f.c, .int .i64 (f.sure : Int)] 74)).alloc (.cells #[] 74)).cell? ⟨x, 0, none⟩ = some (.slice (some ⟨b, off, none⟩) n fc) := by
    have := (HC.out (W0.alloc (.cells #[] 74)) ((Below.refl _ _).alloc (Nat.le_refl _) _)).2.2
    rwa [HW0.out] at this
  have HN4 : Hid (i + 1 + (n - (i + 1)) = R.files.length) := Lib.hid (by have := HNN.out; omega)
  have HFC : Hid (fcells (R.files.take i) ++ [.slice f.A f.n f.c, .int .i64 (f.sure : Int)] ++ fcells (R.files.drop (i + 1)) = fcells (R.files.set i f)) := Lib.hid (by
    have hfl : R.files.take i ++ [f] ++ R.files.drop (i + 1) = R.files.set i f := by rw [List.set_eq_take_append_cons_drop, if_pos (by have := HNN.out; omega)]; simp
    rw [← hfl, fcells_append, fcells_append]
    simp [fcells, RFl.cells])
  by_cases hcu : fc = i + 1
  · have HIN : Hid (n = i + 1) := Lib.hid (by omega)
    subst hcu
    have HN5 : Hid (i + 1 + 0 = R.files.length) := Lib.hid (by have := HNN.out; have := HIN.out; omega)
    have HFD : Hid (fcells (R.files.take i) ++ [.slice f.A f.n f.c, .int .i64 (f.sure : Int)] ++ [] = fcells (R.files.set i f)) := Lib.hid (by
      have := HFC.out
      rw [List.drop_eq_nil_of_le (by have := HNN.out; have := HIN.out; omega)] at this
      exact this)
    go_enter Try.func58, Try.ntmps58
    go_wp2_with (first
      | (at_builtin; rw [← HW0.out]; refine wpList_more_s rfl (.tmp 7) (.tmp 13) 67 rfl rowF _ W0.heap.size _ 0 [] (fcells (R.files.take i)) rfl OE.out (out X x) (some ⟨b, off, none⟩) i _ rfl HS1.out (fcells_one _) (by omega) (by omega) ?_; intro v2 w2 ho2 hg2; have ho2 := ho2.cast (Nat.zero_add _) (List.nil_append _); have hb2 := ((Below.refl W0.heap.size W0).alloc (Nat.le_refl _) (.cells #[] 74)).grown hg2 (by simp) OE.out.block_ge; obtain ⟨t0, t1, t2⟩ := HC.out w2 hb2; have O2 := Lib.hid ho2; have B2 := Lib.hid hb2; clear ho2 hb2)
      | (at_builtin; refine wpList_push_g rfl (.tmp 15) (.tmp 17) 67 rfl rowF w2 W0.heap.size _ i _ [.slice f.A f.n f.c, .int .i64 (f.sure : Int)] rfl O2.out rfl rfl rfl (by intro z hz; simp at hz; rcases hz with rfl | rfl <;> rfl) (by omega) (by omega) ?_; intro v3 w3 ho3 hg3; have hb3 := (B2.out.alloc B2.out.size _).grown hg3 (by have := B2.out.size; simp; omega) O2.out.block_ge; obtain ⟨t0, t1, t2⟩ := HC.out w3 hb3; have O3 := Lib.hid ho3; have B3 := Lib.hid hb3; clear ho3 hb3)
      | (at_builtin; refine wpList_more_s rfl (.tmp 20) (.tmp 27) 67 rfl rowF w3 W0.heap.size _ (i + 1) _ [] rfl O3.out (out X x) _ 0 _ rfl (SX.nil _ _ _ _) (by simp) (by omega) (by omega) ?_; intro v4 w4 ho4 hg4; have ho4 := ho4.cast HN5.out HFD.out; obtain ⟨A4, c4, rfl⟩ := ho4.form; have hb4 := B3.out.grown hg4 B3.out.size O3.out.block_ge; obtain ⟨t0, t1, t2⟩ := HC.out w4 hb4; have tf := HF.out w4 hb4)
      | fail)
    first | go_end0 | skip
    have hlen : (R.files.set i f).length = R.files.length := by simp
    have hb5 : Below w.heap.size w w4 := HB0.out.trans (hb4.mono hle)
    have hw5 : ∀ k, out X x k → out (wid X w w4) x k := fun k hk => ⟨.inl hk.1, hk.2⟩
    refine ⟨rfl, ⟨A4, c4, ?_⟩, grownx_set ((grownx_below (grownx_refl w x) hb5)) 0 _⟩
    have key := RAt.widSet (w0 := w) ((H.out.wider hb5).setFiles (l := R.files.set i f) (A := A4) (c := c4) ⟨SX.of_own (c := c4) (hlen ▸ ho4) fun k h1 h2 => ⟨.inr ⟨by omega, h2⟩, by omega⟩, by rw [hlen]; exact ho4.cap.1, ho4.cap.2⟩ fun g hg => ?_)
    · rw [hlen] at key
      exact key
    rcases List.mem_or_eq_of_mem_set hg with hg | rfl
    · exact (H.out.fo g hg).go fun k hk => ⟨hb5.block k (H.out.old k hk.1), hw5 k hk⟩
    · exact HFO.out.go fun k hk => ⟨hb5.block k (H.out.old k hk.1), hw5 k hk⟩
  · go_enter Try.func58, Try.ntmps58
    go_wp2_with (first
      | (at_builtin; rw [← HW0.out]; refine wpList_more_s rfl (.tmp 7) (.tmp 13) 67 rfl rowF _ W0.heap.size _ 0 [] (fcells (R.files.take i)) rfl OE.out (out X x) (some ⟨b, off, none⟩) i _ rfl HS1.out (fcells_one _) (by omega) (by omega) ?_; intro v2 w2 ho2 hg2; have ho2 := ho2.cast (Nat.zero_add _) (List.nil_append _); have hb2 := ((Below.refl W0.heap.size W0).alloc (Nat.le_refl _) (.cells #[] 74)).grown hg2 (by simp) OE.out.block_ge; obtain ⟨t0, t1, t2⟩ := HC.out w2 hb2; have O2 := Lib.hid ho2; have B2 := Lib.hid hb2; clear ho2 hb2)
      | (at_builtin; refine wpList_push_g rfl (.tmp 15) (.tmp 17) 67 rfl rowF w2 W0.heap.size _ i _ [.slice f.A f.n f.c, .int .i64 (f.sure : Int)] rfl O2.out rfl rfl rfl (by intro z hz; simp at hz; rcases hz with rfl | rfl <;> rfl) (by omega) (by omega) ?_; intro v3 w3 ho3 hg3; have hb3 := (B2.out.alloc B2.out.size _).grown hg3 (by have := B2.out.size; simp; omega) O2.out.block_ge; obtain ⟨t0, t1, t2⟩ := HC.out w3 hb3; have O3 := Lib.hid ho3; have B3 := Lib.hid hb3; clear ho3 hb3)
      | (at_builtin; refine wpList_more_s rfl (.tmp 20) (.tmp 27) 67 rfl rowF w3 W0.heap.size _ (i + 1) _ (fcells (R.files.drop (i + 1))) rfl O3.out (out X x) _ (n - (i + 1)) _ rfl ((HS2.out _ (fun _ => rfl)).stay fun k hk => B3.out.block k (by have := HOLD.out k hk; omega)) (fcells_one _) (by omega) (by omega) ?_; intro v4 w4 ho4 hg4; have ho4 := ho4.cast HN4.out HFC.out; obtain ⟨A4, c4, rfl⟩ := ho4.form; have hb4 := B3.out.grown hg4 B3.out.size O3.out.block_ge; obtain ⟨t0, t1, t2⟩ := HC.out w4 hb4; have tf := HF.out w4 hb4)
      | fail)
    first | go_end0 | skip
    have hlen : (R.files.set i f).length = R.files.length := by simp
    have hb5 : Below w.heap.size w w4 := HB0.out.trans (hb4.mono hle)
    have hw5 : ∀ k, out X x k → out (wid X w w4) x k := fun k hk => ⟨.inl hk.1, hk.2⟩
    refine ⟨rfl, ⟨A4, c4, ?_⟩, grownx_set ((grownx_below (grownx_refl w x) hb5)) 0 _⟩
    have key := RAt.widSet (w0 := w) ((H.out.wider hb5).setFiles (l := R.files.set i f) (A := A4) (c := c4) ⟨SX.of_own (c := c4) (hlen ▸ ho4) fun k h1 h2 => ⟨.inr ⟨by omega, h2⟩, by omega⟩, by rw [hlen]; exact ho4.cap.1, ho4.cap.2⟩ fun g hg => ?_)
    · rw [hlen] at key
      exact key
    rcases List.mem_or_eq_of_mem_set hg with hg | rfl
    · exact (H.out.fo g hg).go fun k hk => ⟨hb5.block k (H.out.old k hk.1), hw5 k hk⟩
    · exact HFO.out.go fun k hk => ⟨hb5.block k (H.out.old k hk.1), hw5 k hk⟩
end Go.Proofs.Ytekhockdgglndaa

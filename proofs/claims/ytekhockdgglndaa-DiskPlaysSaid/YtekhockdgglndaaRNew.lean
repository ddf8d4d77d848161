/-
  CONTRACT OF the document's New.
-/
import Derived.Test.YtekhockdgglndaaRNames
import Derived.Test.YtekhockdgglndaaDM4
namespace Go.Proofs.Ytekhockdgglndaa
set_option linter.unusedVariables false
set_option linter.unusedSimpArgs false
open Go.RowKit

/-- The slice shows the files l; all of it lies in X. -/
def InX (w : World) (X : Nat → Prop) (A : Option Addr) (n : Nat) (l : List FIn) : Prop :=
  l.length = n ∧ ∀ k f, l[k]? = some f → (∃ b off D c, A = some ⟨b, off, none⟩ ∧ X b ∧ w.cell? ⟨b, off + k * 2, none⟩ = some (.string f.s) ∧ w.cell? ⟨b, off + k * 2 + 1, none⟩ = some (.slice D f.d.length c) ∧ SX w X D f.d.length 1 (by8 f.d) ∧ f.s.size ≤ maxLen ∧ f.d.length ≤ c ∧ c ≤ maxLen) ∧ ∀ y ∈ f.d, 0 ≤ y ∧ y < 256
theorem InX.stay {w w' : World} {X : Nat → Prop} {A : Option Addr} {n : Nat} {l : List FIn} (h : InX w X A n l) (hk : ∀ b, X b → w'.heap[b]? = w.heap[b]?) : InX w' X A n l :=
  ⟨h.1, fun k f hf => by
    obtain ⟨⟨b, off, D, c, e, hX, h1, h2, h3, h4⟩, h5⟩ := h.2 k f hf
    exact ⟨⟨b, off, D, c, e, hX, (World.cell?_of_block (w := w) (a := ⟨b, _, none⟩) (hk b hX)).trans h1, (World.cell?_of_block (w := w) (a := ⟨b, _, none⟩) (hk b hX)).trans h2, h3.stay hk, h4⟩, h5⟩⟩
/-- The names of the first k. -/
def rnames (l : List FIn) : Nat → List RE
  | 0 => []
  | k + 1 => match l[k]? with | some f => rput (rnames l k) (f.s, k) | none => rnames l k
theorem rnames_len (l : List FIn) : ∀ k, (rnames l k).length ≤ k
  | 0 => Nat.le_refl _
  | k + 1 => by
    have h := rnames_len l k
    simp only [rnames]
    split
    · rename_i f _
      have := rput_len (rnames l k) (f.s, k)
      omega
    · omega
theorem rnames_mem {l : List FIn} : ∀ {k : Nat} {p : Nm × Nat}, p ∈ nl (rnames l k) → p.2 < k ∧ ∃ y, l[p.2]? = some y ∧ keyF y = p.1
  | 0, p, h => by simp [rnames, nl] at h
  | k + 1, p, h => by
    simp only [rnames] at h
    split at h
    · rename_i f hf
      rw [nl_put] at h
      rcases mem_nput.1 h with rfl | ⟨h, _⟩
      · exact ⟨Nat.lt_succ_self _, f, hf, rfl⟩
      · obtain ⟨h1, h2⟩ := rnames_mem h
        exact ⟨by omega, h2⟩
    · obtain ⟨h1, h2⟩ := rnames_mem h
      exact ⟨by omega, h2⟩
theorem rnames_has {l : List FIn} {y : FIn} : ∀ {k : Nat}, y ∈ l.take k → ∃ i, (keyF y, i) ∈ nl (rnames l k)
  | 0, h => by simp at h
  | k + 1, h => by
    obtain ⟨j, hj⟩ := List.getElem?_of_mem h
    have hjk : j < k + 1 := by have := (List.getElem?_eq_some_iff.1 hj).1; simp at this; omega
    rw [List.getElem?_take, if_pos hjk] at hj
    simp only [rnames]
    by_cases e : j = k
    · subst e
      rw [hj]
      exact ⟨j, by rw [nl_put]; exact mem_nput.2 (.inl rfl)⟩
    · have hy : y ∈ l.take k := List.mem_of_getElem? (i := j) (by rw [List.getElem?_take, if_pos (by omega)]; exact hj)
      obtain ⟨i, hi⟩ := rnames_has hy
      split
      · rename_i f hf
        rw [nl_put]
        by_cases e2 : keyF y = f.s.data.toList
        · exact ⟨k, mem_nput.2 (.inl (by rw [e2]))⟩
        · exact ⟨i, mem_nput.2 (.inr ⟨hi, e2⟩)⟩
      · exact ⟨i, hi⟩
theorem rnames_find {l : List FIn} {k : Nat} {x : FIn} : rfind (rnames l k) x.s < 0 ↔ ∀ y ∈ l.take k, keyF y ≠ keyF x := by
  have h := rfind_nl x.s (rnames l k)
  constructor
  · intro hn y hy e
    obtain ⟨i, hi⟩ := rnames_has hy
    cases hk : nat? x.s.data.toList (nl (rnames l k)) with
    | some i => rw [hk] at h; rw [h] at hn; exact absurd hn (Int.not_lt.2 (Int.natCast_nonneg _))
    | none => exact nat?_none.1 hk _ hi e
  · intro hy
    cases hk : nat? x.s.data.toList (nl (rnames l k)) with
    | some i =>
      obtain ⟨_, y, h1, h2⟩ := rnames_mem (nat?_some hk)
      obtain ⟨hl, _⟩ := rnames_mem (nat?_some hk)
      exact absurd h2 (hy y (List.mem_of_getElem? (i := i) (by rw [List.getElem?_take, if_pos hl]; exact h1)))
    | none => rw [hk] at h; rw [h]; decide
/-- The files F are those that were handed in. -/
def FM (l : List FIn) (F : List RFl) : Prop := F.length = l.length ∧ ∀ (j : Nat) (x : FIn), l[j]? = some x → ∃ r : RFl, F[j]? = some r ∧ r.data = x.d ∧ r.n = x.d.length ∧ r.sure = x.d.length
theorem FM.snoc {l : List FIn} {F : List RFl} (h : FM l F) {x : FIn} {r : RFl} (h1 : r.data = x.d) (h2 : r.n = x.d.length) (h3 : r.sure = x.d.length) : FM (l ++ [x]) (F ++ [r]) := by
  refine ⟨by simp [h.1], fun j y hy => ?_⟩
  by_cases hj : j < l.length
  · rw [List.getElem?_append_left hj] at hy
    rw [List.getElem?_append_left (by rw [h.1]; exact hj)]
    exact h.2 j y hy
  · have hj2 : j = l.length := by
      have := (List.getElem?_eq_some_iff.1 hy).1
      simp at this
      omega
    subst hj2
    rw [List.getElem?_append_right (Nat.le_refl _), Nat.sub_self] at hy
    cases hy
    exact ⟨r, by rw [← h.1, List.getElem?_append_right (Nat.le_refl _), Nat.sub_self]; rfl, h1, h2, h3⟩
def newRS (cap : Int) (F : List RFl) (N : List RE) : RS := ⟨F, N, N, [], cap, false, 0, 0, 0, 0⟩
def RNewd (X : Nat → Prop) (w : World) (l : List FIn) (cap : Int) (e : Ending) (w' : World) : Prop :=
  Below w.heap.size w w' ∧ ((fitsB l cap && namesB l) = true ∧ (∃ x V F, w.heap.size ≤ x ∧ e = .returned (.pointer (some ⟨x, 0, none⟩)) ∧ RAt w' (wid X w w') x V (newRS cap F (rnames l l.length)) ∧ FM l F) ∨ (fitsB l cap && namesB l) = false ∧ e = .returned (.pointer none))
theorem zeroRef (w : World) : (zeroValue 71).run Try.prog w = .ok (.agg #[.slice none 0 0, .slice none 0 0, .slice none 0 0, .slice none 0 0, .int .i64 0, .bool false, .int .i64 0, .int .i64 0, .int .i64 0, .int .i64 0]) w := by kernel_rfl
theorem zeroRF (w : World) : (zeroValue 74).run Try.prog w = .ok (.agg #[.slice none 0 0, .int .i64 0]) w := by kernel_rfl
theorem zeroRE (w : World) : (zeroValue 77).run Try.prog w = .ok (.agg #[.string ByteArray.empty, .int .i64 0]) w := by kernel_rfl
/-- How far it has come. -/
structure Mk (X : Nat → Prop) (w wr : World) (l : List FIn) (cap : Int) (k x : Nat) (F : List RFl) (vf vn : Value) : Prop where
  xge : w.heap.size ≤ x
  blk : Blk wr x 71 [vf, vn, .slice none 0 0, .slice none 0 0, .int .i64 cap, .bool false, .int .i64 0, .int .i64 0, .int .i64 0, .int .i64 0]
  fo : Own wr w.heap.size 74 2 vf k (fcells F)
  no : Own wr w.heap.size 77 2 vn (rnames l k).length (recells (rnames l k))
  bel : Below w.heap.size w wr
  made : FM (l.take k) F
  good : ∀ j (y : FIn), j < k → l[j]? = some y → nameB (keyF y) = true ∧ ∀ z ∈ l.take j, keyF z ≠ keyF y
  ok : ∀ r ∈ F, r.ok w X
section
variable {X : Nat → Prop} {w wr w' : World} {l : List FIn} {cap : Int} {k x : Nat} {F : List RFl} {vf vn : Value}
theorem Mk.below (h : Mk X w wr l cap k x F vf vn) (b : Below wr.heap.size wr w') : Mk X w w' l cap k x F vf vn :=
  ⟨h.xge, h.blk.stay (b.block x h.blk.lt), h.fo.below b, h.no.below b, h.bel.trans (b.mono h.bel.size), h.made, h.good, h.ok⟩
theorem Mk.cell (h : Mk X w wr l cap k x F vf vn) (j : Nat) : wr.cell? ⟨x, j, none⟩ = ([vf, vn, .slice none 0 0, .slice none 0 0, .int .i64 cap, .bool false, .int .i64 0, .int .i64 0, .int .i64 0, .int .i64 0] : List Value)[j]? := h.blk.cell j
theorem Own.ne_blk {w : World} {B size n : Nat} {e t : TypeId} {v : Value} {xs ys : List Value} {b : Nat} (h : Own w B e size v n xs) (hb : Blk w b t ys) (ht : e ≠ t) : v.ownBlock ≠ some b := by
  intro e1
  rcases h.1.2 with ⟨rfl, _⟩ | ⟨g, cap, cur, rfl, _, hh, _⟩
  · cases e1
  · have : g = b := by simpa [Value.ownBlock] using e1
    subst this
    unfold Blk at hb
    rw [hb] at hh
    simp at hh
    exact ht hh.2.symm
theorem SX.own_out {w : World} {B x : Nat} {A : Option Addr} {n c : Nat} {t : TypeId} {size : Nat} {xs : List Value} (ho : Own w B t size (.slice A n c) n xs) (hne : (Value.slice A n c).ownBlock ≠ some x) : SX w (fun z => B ≤ z ∧ z < w.heap.size ∧ z ≠ x) A n size xs := by
  refine ⟨ho.len, fun hn => ?_⟩
  rcases ho.1.2 with ⟨_, h0⟩ | ⟨g, cap', cur, hv, hb, hh, _⟩
  · omega
  · have hA : A = some ⟨g, 0, none⟩ := by injection hv
    subst hA
    have hg := (Array.getElem?_eq_some_iff.1 hh).1
    refine ⟨g, 0, rfl, ⟨hb, hg, fun e => hne (by rw [e]; rfl)⟩, fun k u hu => ?_⟩
    have := ho.1.cells (g := g) rfl k u hu
    rwa [Addr.add_lit] at this
/-- The disk, when all are there. -/
theorem Mk.disk {fA nA : Option Addr} {fc nc : Nat} (h : Mk X w wr l cap k x F (.slice fA k fc) (.slice nA (rnames l k).length nc)) (hX : ∀ b, X b → b < w.heap.size) (hF : F.length = k) :
    RAt (wr.setCell ⟨x, 2, none⟩ (.slice nA (rnames l k).length nc)) (wid X w (wr.setCell ⟨x, 2, none⟩ (.slice nA (rnames l k).length nc))) x ⟨fA, fc, nA, nc, nA, nc, none, 0⟩ (newRS cap F (rnames l k)) := by
  have hx := h.xge
  have hxl := h.blk.lt
  have hk : ∀ b, b ≠ x → (wr.setCell ⟨x, 2, none⟩ (.slice nA (rnames l k).length nc)).heap[b]? = wr.heap[b]? := fun b hb => Below.heap_setCell _ _ _ _ hb
  have e : wid X w (wr.setCell ⟨x, 2, none⟩ (.slice nA (rnames l k).length nc)) = wid X w wr := by funext b; simp [wid]
  rw [e]
  have hnx := h.no.ne_blk h.blk (by decide)
  have hfx := h.fo.ne_blk h.blk (by decide)
  have own_out : ∀ {A : Option Addr} {n c : Nat} {t : TypeId} {size : Nat} {xs : List Value}, Own wr w.heap.size t size (.slice A n c) n xs → (Value.slice A n c).ownBlock ≠ some x → SX wr (out (wid X w wr) x) A n size xs := fun ho hne =>
    (SX.own_out ho hne).more fun z hz => ⟨.inr ⟨hz.1, hz.2.1⟩, hz.2.2⟩
  have st : ∀ b, out (wid X w wr) x b → (wr.setCell ⟨x, 2, none⟩ (.slice nA (rnames l k).length nc)).heap[b]? = wr.heap[b]? ∧ out (wid X w wr) x b := fun b hb => ⟨hk b hb.2, hb⟩
  have rF : RRow wr (out (wid X w wr) x) fA F.length fc 2 (fcells F) := by
    rw [hF]
    exact ⟨own_out h.fo hfx, h.fo.cap.1, h.fo.cap.2⟩
  have rN : RRow wr (out (wid X w wr) x) nA (rnames l k).length nc 2 (recells (rnames l k)) := ⟨own_out h.no hnx, h.no.cap.1, h.no.cap.2⟩
  refine ⟨.inr ⟨hx, hxl⟩, fun b hb => by simpa using wid_old hX h.bel.size b hb, ?_, rF.go st, fun r hr => ?_, rN.go st, rN.go st, ⟨SX.nil _ _ _ _, Nat.le_refl _, Nat.zero_le _⟩⟩
  · have := h.blk.set 2 (.slice nA (rnames l k).length nc)
    unfold Blk at this
    rw [this]
    simp [rcellsOf, newRS, hF]
  · exact (h.ok r hr).go fun b hb => by
      have hlt := hX b hb
      have hne : b ≠ x := by omega
      exact ⟨(hk b hne).trans (h.bel.block b hlt), .inl hb, hne⟩
/-- One file more. -/
theorem Mk.push (h : Mk X w wr l cap k x F vf vn) {f : FIn} (hf : l[k]? = some f) {D : Option Addr} {c : Nat} (hD : RFl.ok w X ⟨D, f.d.length, c, f.d, f.d.length⟩) (hgood : nameB (keyF f) = true ∧ ∀ z ∈ l.take k, keyF z ≠ keyF f)
    {w2 w3 w4 : World} {u : List Value} {v2 v3 : Value} (ho2 : Own w2 w.heap.size 74 2 v2 (k + 1) (fcells F ++ [.slice D f.d.length c, .int .i64 (f.d.length : Int)])) (hg2 : (wr.alloc (.cells u.toArray 74)).grownBy w2 vf.ownBlock)
    (hb3 : Below w2.heap.size (w2.setCell ⟨x, 0, none⟩ v2) w3) (ho3 : Own w3 w2.heap.size 77 2 v3 (rput (rnames l k) (f.s, k)).length (recells (rput (rnames l k) (f.s, k)))) (e4 : w4 = w3.setCell ⟨x, 1, none⟩ v3) :
    Mk X w w4 l cap (k + 1) x (F ++ [⟨D, f.d.length, c, f.d, f.d.length⟩]) v2 v3 := by
  have hx := h.xge
  have hxl := h.blk.lt
  have ha : Below wr.heap.size wr (wr.alloc (.cells u.toArray 74)) := (Below.refl _ _).alloc (Nat.le_refl _) _
  have hMa := h.below ha
  have hsa : (wr.alloc (.cells u.toArray 74)).heap.size = wr.heap.size + 1 := by simp
  have hs2 := hg2.size
  have hs3 : w2.heap.size ≤ w3.heap.size := by have := hb3.size; simpa using this
  have hbx : ∀ b, b ≠ x → (w2.setCell ⟨x, 0, none⟩ v2).heap[b]? = w2.heap[b]? := fun b hb => Below.heap_setCell _ _ _ _ hb
  have hxx : ∀ b, b ≠ x → w4.heap[b]? = w3.heap[b]? := fun b hb => by rw [e4]; exact Below.heap_setCell _ _ _ _ hb
  have blk2 : Blk w2 x 71 _ := hMa.blk.keep hg2 (hMa.fo.ne_blk hMa.blk (by decide))
  have blk2' := blk2.set 0 v2
  have blk3 := blk2'.stay (w' := w3) (hb3.block x (by have := blk2.lt; omega))
  have blk4 := blk3.set 1 v3
  have hne2 := ho2.ne_blk blk2 (by decide)
  have hne3 := ho3.ne_blk blk3 (by decide)
  have st : ∀ {v : Value} {B n size : Nat} {t : TypeId} {xs : List Value} {p q : World}, Own p B t size v n xs → (∀ j, v.ownBlock = some j → q.heap[j]? = p.heap[j]?) → p.heap.size ≤ q.heap.size → Own q B t size v n xs := fun h1 h2 h3 =>
    ⟨⟨h1.1.1, by
      rcases h1.1.2 with hn | ⟨g, cap, cur, rfl, hb, hh, rest⟩
      · exact .inl hn
      · exact .inr ⟨g, cap, cur, rfl, hb, by rw [h2 g rfl]; exact hh, rest⟩⟩, Nat.le_trans h1.2 h3⟩
  have oF : Own w4 w.heap.size 74 2 v2 (k + 1) (fcells F ++ [.slice D f.d.length c, .int .i64 (f.d.length : Int)]) :=
    st ho2 (fun j hj => by
      have hjx : j ≠ x := fun e => hne2 (by rw [hj, e])
      have hjl : j < w2.heap.size := (ho2.1.lt j hj).2
      exact (hxx j hjx).trans ((hb3.block j hjl).trans (hbx j hjx))) (by rw [e4]; simpa using hs3)
  refine ⟨hx, by rw [e4]; exact blk4, oF.cast rfl (by rw [fcells_snoc]; rfl), ?_, ?_, ?_, ?_, ?_⟩
  · have e : rnames l (k + 1) = rput (rnames l k) (f.s, k) := by simp only [rnames, hf]
    rw [e]
    exact (st ho3 (fun j hj => hxx j (fun e => hne3 (by rw [hj, e]))) (by rw [e4]; simp)).lower (by have := h.bel.size; omega)
  · have b1 : Below w.heap.size w w2 := (h.bel.alloc h.bel.size _).grown hg2 (by have := h.bel.size; simp; omega) h.fo.block_ge
    have b2 : Below w.heap.size w (w2.setCell ⟨x, 0, none⟩ v2) := ⟨b1.os, b1.tape, b1.output, by simpa using b1.size, fun j hj => (hbx j (by omega)).trans (b1.block j hj)⟩
    have b3 : Below w.heap.size w w3 := b2.trans (hb3.mono b1.size)
    rw [e4]
    exact ⟨b3.os, b3.tape, b3.output, by simpa using b3.size, fun j hj => (Below.heap_setCell _ _ _ _ (fun e => by have e : j = x := e; omega)).trans (b3.block j hj)⟩
  · rw [List.take_add_one, hf]
    exact h.made.snoc rfl rfl rfl
  · intro j y hj hy
    by_cases e : j = k
    · subst e
      rw [hf] at hy
      cases hy
      exact hgood
    · exact h.good j y (by omega) hy
  · intro r hr
    rcases List.mem_append.1 hr with hr | hr
    · exact h.ok r hr
    · rw [List.mem_singleton.1 hr]; exact hD
end

set_option maxRecDepth 100000 in
set_option maxHeartbeats 3200000 in
theorem rnew_any (X : Nat → Prop) (A : Option Addr) (n c : Nat) (l : List FIn) (cap : Int) (w : World) (hX : ∀ b, X b → b < w.heap.size) (h : InX w X A n l) (hn : n ≤ maxLen) :
    Calls Try.prog 8 #[.slice A n c, .int .i64 cap] w (RNewd X w l cap) := by
  have hzr := zeroRef
  have hzf := zeroRF
  have hze := zeroRE
  have hzi := zeroIn
  have HL := Lib.hid h.1
  have HX := Lib.hid hX
  have hbad : (cap < 0 ∨ 1048576 < cap ∨ 64 < n) → fitsB l cap = false := fun hh => by
    unfold fitsB
    rw [decide_eq_false]
    rintro ⟨h1, h2, h3, _⟩
    have := h.1
    omega
  have HBAD := Lib.hid hbad
  have HI := Lib.hid h
  clear h hX hbad
  by_cases h1 : cap < 0
  · have d1 : decide (cap < 0) = true := decide_eq_true h1
    go_enter Try.func8, Try.ntmps8
    go_wp2
    go_ret
    exact ⟨Below.refl _ _, .inr ⟨by rw [HBAD.out (.inl h1)]; rfl, rfl⟩⟩
  have d1 : decide (cap < 0) = false := decide_eq_false h1
  by_cases h2 : 1048576 < cap
  · have d2 : decide (1048576 < cap) = true := decide_eq_true h2
    go_enter Try.func8, Try.ntmps8
    go_wp2
    go_ret
    exact ⟨Below.refl _ _, .inr ⟨by rw [HBAD.out (.inr (.inl h2))]; rfl, rfl⟩⟩
  have d2 : decide (1048576 < cap) = false := decide_eq_false h2
  by_cases h3 : 64 < n
  · have d3 : decide ((64 : Int) < (n : Int)) = true := decide_eq_true (by omega)
    go_enter Try.func8, Try.ntmps8
    go_wp2
    go_ret
    exact ⟨Below.refl _ _, .inr ⟨by rw [HBAD.out (.inr (.inr h3))]; rfl, rfl⟩⟩
  have d3 : decide ((64 : Int) < (n : Int)) = false := decide_eq_false (by omega)
  go_enter Try.func8, Try.ntmps8
  go_wp2
  obtain ⟨x, hx⟩ : ∃ x, x = w.heap.size := ⟨_, rfl⟩
  obtain ⟨w1, hw1⟩ : ∃ w1, w1 = w.alloc (.cells #[.slice none 0 0, .slice none 0 0, .slice none 0 0, .slice none 0 0, .int .i64 cap, .bool false, .int .i64 0, .int .i64 0, .int .i64 0, .int .i64 0] 71) := ⟨_, rfl⟩
  have hM1 : Mk X w w1 l cap 0 x [] (.slice none 0 0) (.slice none 0 0) := by
    have hb : Below w.heap.size w w1 := by rw [hw1]; exact (Below.refl _ _).alloc (Nat.le_refl _) _
    refine ⟨by omega, by rw [hw1, hx]; exact Blk.new w _ _, Own.nil _ _ _ _ hb.size, Own.nil _ _ _ _ hb.size, hb, ⟨rfl, fun j x h => by simp at h⟩, fun j y hj _ => by omega, fun r hr => by cases hr⟩
  have HRL := Lib.hid (rnames_len l)
  rw [← hw1, ← hx]
  clear hw1
  have HXX := Lib.hid hx
  clear hx
  go_loopw [6, 7, 8] (fun u i fb wr => ∃ (k : Nat) (F : List RFl) (vf vn : Value), k ≤ n ∧ i = .int .i64 k ∧ u = .int .i64 (sizeF (l.take k) : Nat) ∧ (∃ z, fb = z) ∧ (sizeF (l.take k) : Int) ≤ cap ∧ Mk X w wr l cap k x F vf vn) (fun _ i _ _ => n - (intOf i).toNat)
  case atStart => exact ⟨0, [], _, _, Nat.zero_le _, rfl, by simp [sizeF], ⟨_, rfl⟩, by simp [sizeF]; omega, hM1⟩
  case round =>
    obtain ⟨k, F, vf, vn, hk, rfl, rfl, ⟨zb, rfl⟩, hle, hM⟩ := hrel
    obtain ⟨fA, fc, rfl⟩ := hM.fo.form
    obtain ⟨nA, nc, rfl⟩ := hM.no.form
    obtain ⟨U, hU⟩ : ∃ U, U = sizeF (l.take k) := ⟨_, rfl⟩
    rw [← hU] at hle ⊢
    have HU := Lib.hid hU
    clear hU
    by_cases hlt : k < n
    · obtain ⟨f, hf⟩ : ∃ f, l[k]? = some f := ⟨_, List.getElem?_eq_getElem (by rw [HL.out]; exact hlt)⟩
      obtain ⟨⟨b, off, D, c', hA, hXb, f0, f1, hsx, hs, hdc, hcm⟩, hby⟩ := HI.out.2 k f hf
      subst hA
      have hbl := HX.out b hXb
      have g0 : wr.cell? ⟨b, off + k * 2, none⟩ = some (.string f.s) := (hM.bel.cell (p := ⟨b, _, none⟩) hbl).trans f0
      have g1 : wr.cell? ⟨b, off + k * 2 + 1, none⟩ = some (.slice D f.d.length c') := (hM.bel.cell (p := ⟨b, _, none⟩) hbl).trans f1
      have hkn : (k : Int) < (n : Int) := by omega
      have hdl0 : f.d.length ≤ maxLen := Nat.le_trans hdc hcm
      obtain ⟨bx, hbx⟩ : ∃ bx, bx = wr.heap.size := ⟨_, rfl⟩
      obtain ⟨u1, hu1⟩ : ∃ u1, u1 = wr.alloc (.cells #[.string f.s, .slice D f.d.length c'] 46) := ⟨_, rfl⟩
      have hb1 : Below wr.heap.size wr u1 := by rw [hu1]; exact (Below.refl _ _).alloc (Nat.le_refl _) _
      have hM1 := hM.below hb1
      have hbox : Blk u1 bx 46 [.string f.s, .slice D f.d.length c'] := by rw [hu1, hbx]; exact Blk.new wr _ _
      have y0 : u1.cell? ⟨bx, 0, none⟩ = some (.string f.s) := hbox.cell 0
      have y1 : u1.cell? ⟨bx, 1, none⟩ = some (.slice D f.d.length c') := hbox.cell 1
      have m1 : u1.cell? ⟨x, 1, none⟩ = some (.slice nA (rnames l k).length nc) := hM1.cell 1
      have HNA := Lib.hid (fun w => refName_any f.s w hs)
      have hrl := HRL.out k
      have HFI := Lib.hid (fun q => find_any (fun z => w.heap.size ≤ z ∧ z < (u1.drewN q).heap.size) nA (rnames l k).length nc (rnames l k) f.s (u1.drewN q) rfl (by omega) (SX.of_own (show Own (u1.drewN q) w.heap.size 77 2 (.slice nA (rnames l k).length nc) (rnames l k).length (recells (rnames l k)) from hM1.no) fun z h1 h2 => ⟨h1, h2⟩))
      have HDOK : Hid (RFl.ok w X ⟨D, f.d.length, c', f.d, f.d.length⟩) := Lib.hid ⟨hsx, hdc, hcm, hby⟩
      have HFAIL : Hid (∀ q, namesB l = false ∨ fitsB l cap = false → RNewd X w l cap (.returned (.pointer none)) (u1.drewN q)) := Lib.hid fun q hh =>
        ⟨hM1.bel.trans ((Quiet.one u1 q).below _), .inr ⟨by rcases hh with hh | hh <;> rw [hh] <;> simp, rfl⟩⟩
      have hsz : U + f.d.length = sizeF (l.take (k + 1)) := by rw [sizeF_snoc hf, HU.out]
      have HSZ : Hid (((U : Int) + (f.d.length : Int)) = ((sizeF (l.take (k + 1)) : Nat) : Int)) := Lib.hid (by omega)
      have HM1 := Lib.hid hM1
      have HBX := Lib.hid hbox
      have HF := Lib.hid hf
      have HGD := Lib.hid (rnames_find (l := l) (k := k) (x := f))
      have HSLE := Lib.hid (sizeF_le l (k + 1))
      have HU1 := Lib.hid hu1.symm
      have HBB := Lib.hid hbx.symm
      have HWR := Lib.hid hM
      unfold maxLen at hcm hdl0
      obtain ⟨r, hr⟩ : ∃ r, r = rfind (rnames l k) f.s := ⟨_, rfl⟩
      rw [← hr] at HFI HGD
      clear hf hM hM1 hbox hu1 hbx hsx f0 f1 hb1 hr
      have hwr : IntKind.i64.wrap (cap - (U : Int)) = cap - (U : Int) := IntWalk.i64_in _ (by omega)
      obtain ⟨nb, hnb⟩ : ∃ nb, nameB f.s.data.toList = nb := ⟨_, rfl⟩
      rw [hnb] at HNA
      have HNB := Lib.hid hnb
      clear hnb
      cases nb with
      | false =>
        go_wp2
        rw [HU1.out, HBB.out]
        go_quiet (first
          | (go_at_call 15; exact Calls.quiet_of_same ((HNA.out _).mono fun e w' ⟨h1, h2⟩ => ⟨h1, h2.symm⟩)))
        go_wp2
        go_ret
        exact HFAIL.out _ (.inl (namesB_bad HF.out (.inl HNB.out)))
      | true =>
        by_cases hr0 : r < 0
        · have hrd : decide (0 ≤ r) = false := decide_eq_false (by omega)
          by_cases hfull : cap - (U : Int) < (f.d.length : Int)
          · have hfd : decide (cap - (U : Int) < (f.d.length : Int)) = true := decide_eq_true hfull
            go_wp2
            rw [HU1.out, HBB.out]
            go_quiet (first
              | (go_at_call 15; exact Calls.quiet_of_same ((HNA.out _).mono fun e w' ⟨h1, h2⟩ => ⟨h1, h2.symm⟩))
              | (go_at_call 25; exact Calls.quiet_of_same ((HFI.out _).mono fun e w' ⟨h1, h2⟩ => ⟨h1, h2.symm⟩)))
            go_wp2
            go_ret
            refine HFAIL.out _ (.inr ?_)
            unfold fitsB
            rw [decide_eq_false]
            rintro ⟨_, _, _, h4⟩
            have := HSLE.out
            omega
          · have hfd : decide (cap - (U : Int) < (f.d.length : Int)) = false := decide_eq_false hfull
            have HGOOD : Hid (nameB (keyF f) = true ∧ ∀ z ∈ l.take k, keyF z ≠ keyF f) := Lib.hid ⟨HNB.out, HGD.out.1 hr0⟩
            have HSL : Hid ((sizeF (l.take (k + 1)) : Int) ≤ cap) := Lib.hid (by omega)
            go_wp2
            rw [HU1.out, HBB.out]
            go_quiet (first
              | (go_at_call 15; exact Calls.quiet_of_same ((HNA.out _).mono fun e w' ⟨h1, h2⟩ => ⟨h1, h2.symm⟩))
              | (go_at_call 25; exact Calls.quiet_of_same ((HFI.out _).mono fun e w' ⟨h1, h2⟩ => ⟨h1, h2.symm⟩)))
            have HM2 : Hid (Mk X w (u1.drewN nq) l cap k x F (.slice fA k fc) (.slice nA (rnames l k).length nc)) := Lib.hid (HM1.out.below ((Quiet.one u1 nq).below _))
            have HBX2 : Hid (Blk (u1.drewN nq) bx 46 [.string f.s, .slice D f.d.length c']) := Lib.hid HBX.out
            obtain ⟨u2, hu2⟩ : ∃ u2, u2 = u1.drewN nq := ⟨_, rfl⟩
            rw [← hu2] at HM2 HBX2 ⊢
            have z1 : u2.cell? ⟨bx, 1, none⟩ = some (.slice D f.d.length c') := HBX2.out.cell 1
            have HM2d : Hid (Mk X w u2.drew l cap k x F (.slice fA k fc) (.slice nA (rnames l k).length nc)) := Lib.hid (HM2.out.below (below_drewR _ u2))
            clear hu2 y0 y1 m1 HFI
            go_wp2_with fail
            obtain ⟨S, hSd⟩ : ∃ S : World → Prop, S = fun w' => w'.cell? ⟨x, 0, none⟩ = some (.slice fA k fc) ∧ w'.cell? ⟨bx, 1, none⟩ = some (.slice D f.d.length c') := ⟨_, rfl⟩
            have hSF : ∀ w', S w' → w'.cell? ⟨x, 0, none⟩ = some (.slice fA k fc) ∧ w'.cell? ⟨bx, 1, none⟩ = some (.slice D f.d.length c') := by rw [hSd]; exact fun w' h => h
            have s0 : ∀ s : SW S, s.w.cell? ⟨x, 0, none⟩ = some (.slice fA k fc) := fun s => (hSF _ s.h).1
            have s1 : ∀ s : SW S, s.w.cell? ⟨bx, 1, none⟩ = some (.slice D f.d.length c') := fun s => (hSF _ s.h).2
            have hS0 : S u2.drew := by rw [hSd]; exact ⟨HM2.out.cell 0, HBX2.out.cell 1⟩
            have HSA : Hid (S (u2.drew.alloc (.cells #[.slice D f.d.length c', .int .i64 (f.d.length : Int)] 74))) := Lib.hid (by
              have hal : Below u2.heap.size u2 (u2.drew.alloc (.cells #[.slice D f.d.length c', .int .i64 (f.d.length : Int)] 74)) := (below_drewR _ u2).trans ((Below.refl u2.heap.size u2.drew).alloc (Nat.le_refl _) _)
              rw [hSd]
              exact ⟨(HM2.out.below hal).cell 0, (HBX2.out.stay (hal.block bx HBX2.out.lt)).cell 1⟩)
            have HSB : Hid (∀ w2, (u2.drew.alloc (.cells #[.slice D f.d.length c', .int .i64 (f.d.length : Int)] 74)).grownBy w2 (Value.slice fA k fc).ownBlock → S w2 ∧ w2.cell? ⟨x, 0, none⟩ = some (.slice fA k fc) ∧ w2.cell? ⟨x, 1, none⟩ = some (.slice nA (rnames l k).length nc) ∧ w2.cell? ⟨bx, 0, none⟩ = some (.string f.s) ∧ ∀ j, w2.frozen? ⟨x, j, none⟩ = false) := Lib.hid fun w2 hg => by
              have hal : Below u2.heap.size u2 (u2.drew.alloc (.cells #[.slice D f.d.length c', .int .i64 (f.d.length : Int)] 74)) := (below_drewR _ u2).trans ((Below.refl u2.heap.size u2.drew).alloc (Nat.le_refl _) _)
              have hMa := HM2.out.below hal
              have bxa := HBX2.out.stay (hal.block bx HBX2.out.lt)
              have q1 := hMa.blk.keep hg (hMa.fo.ne_blk hMa.blk (by decide))
              have q2 := bxa.keep hg (hMa.fo.ne_blk bxa (by decide))
              rw [hSd]
              exact ⟨⟨q1.cell 0, q2.cell 1⟩, q1.cell 0, q1.cell 1, q2.cell 0, q1.nf⟩
            have HOF : Hid (Own u2.drew w.heap.size 74 2 (.slice fA k fc) k (fcells F)) := Lib.hid HM2.out.fo
            clear hSd hSF
            refine regionL_start (by kernel_rfl) 16 rfl S 15 ?_
            refine wpL_next 0 10 6 (by kernel_rfl) (fun _ _ d _ _ h => by cases d <;> exact h) hS0 (fun hne => ?_)
            simp only [List.drop_succ_cons, List.drop_zero, List.take_succ_cons, List.take_zero]
            repeat (go_big_quiet_step (fail))
            refine wpQuiet_nil ?_
            refine wpL_one (i := 10) (fuel := 5) (by kernel_rfl) rfl (fun KK hKK => ?_)
            go_simp
            refine hKK _ _ hS0 ?_
            clear hKK KK
            refine wpL_one (i := 11) (fuel := 4) (by kernel_rfl) rfl (fun KK hKK => ?_)
            go_simp
            refine hKK _ _ HSA.out ?_
            clear hKK KK
            refine wpL_one (i := 12) (fuel := 3) (by kernel_rfl) rfl (fun KK hKK => ?_)
            refine step_push_g rfl (.tmp 65) (.tmp 72) 67 rfl rowF u2.drew w.heap.size _ k (fcells F) [.slice D f.d.length c', .int .i64 (f.d.length : Int)] rfl HOF.out rfl rfl rfl (by intro z hz; simp at hz; rcases hz with rfl | rfl <;> rfl) (by omega) (by omega) ?_
            intro v2 w2 ho2 hg2
            obtain ⟨fA2, fc2, rfl⟩ := ho2.form
            obtain ⟨hSw2, q0, q1, q2, qf⟩ := HSB.out w2 hg2
            refine hKK _ _ hSw2 ?_
            clear hKK KK
            have hS0 := hSw2
            try simp only [Act.put, List.setIfInBounds_toArray, List.set_cons_zero, List.set_cons_succ]
            refine wpL_next 13 2 1 (by kernel_rfl) (fun _ _ d _ _ h => by cases d <;> exact h) hS0 (fun hne => ?_)
            simp only [List.drop_succ_cons, List.drop_zero, List.take_succ_cons, List.take_zero]
            repeat (go_big_quiet_step (fail))
            refine wpQuiet_nil ?_
            refine wpL_last (fuel := 0) (by kernel_rfl) (by kernel_rfl) rfl (fun KK hKK => ?_)
            go_simp
            refine hKK _ _ ?_
            clear hKK KK
            have HO2 := Lib.hid ho2
            have HG2 := Lib.hid hg2
            obtain ⟨u3, hu3⟩ : ∃ u3, u3 = w2.setCell ⟨x, 0, none⟩ (.slice fA2 (k + 1) fc2) := ⟨_, rfl⟩
            have HU3 := Lib.hid hu3
            have hbxn : bx ≠ x := HBX2.out.ne HM2.out.blk (by decide)
            have r1 : u3.cell? ⟨x, 1, none⟩ = some (.slice nA (rnames l k).length nc) := by rw [hu3, World.cell?_setCell_other _ _ _ _ (fun e => by injection e with _ e; cases e)]; exact q1
            have r2 : u3.cell? ⟨bx, 0, none⟩ = some (.string f.s) := by rw [hu3, World.cell?_setCell_other _ _ _ _ (fun e => by injection e with e _; exact hbxn e.symm)]; exact q2
            have rf : ∀ j, u3.frozen? ⟨x, j, none⟩ = false := fun j => by rw [hu3]; simpa using qf j
            have HON3 : Hid (SX u3.drew (fun z => w.heap.size ≤ z ∧ z < w2.heap.size ∧ z ≠ x) nA (rnames l k).length 2 (recells (rnames l k))) := Lib.hid (by
              have hal : Below u2.heap.size u2 (u2.drew.alloc (.cells #[.slice D f.d.length c', .int .i64 (f.d.length : Int)] 74)) := (below_drewR _ u2).trans ((Below.refl u2.heap.size u2.drew).alloc (Nat.le_refl _) _)
              have hMa := HM2.out.below hal
              have o1 := hMa.no.other hMa.fo (by decide) HG2.out
              have q1 := hMa.blk.keep HG2.out (hMa.fo.ne_blk hMa.blk (by decide))
              have o2 := SX.own_out o1 (o1.ne_blk q1 (by decide))
              exact o2.stay fun z hz => by
                show u3.heap[z]? = _
                rw [HU3.out]
                exact Below.heap_setCell _ _ _ _ hz.2.2)
            have hs3 : u3.heap.size = w2.heap.size := by rw [hu3]; simp
            have HPU : Hid (Calls Try.prog 26 #[.slice nA (rnames l k).length nc, .agg #[.string f.s, .int .i64 (k : Int)]] u3.drew fun e w' => ∃ v, e = .returned v ∧ w'.cell? ⟨x, 1, none⟩ = some (.slice nA (rnames l k).length nc) ∧ w'.cell? ⟨bx, 0, none⟩ = some (.string f.s) ∧ w'.frozen? ⟨x, 1, none⟩ = false ∧ Hid (Own w' w2.heap.size 77 2 v (rput (rnames l k) (f.s, k)).length (recells (rput (rnames l k) (f.s, k))) ∧ Below w2.heap.size u3 w')) := Lib.hid (by
              have hrl := HRL.out k
              refine (put_any _ nA (rnames l k).length nc (rnames l k) (f.s, k) u3.drew (fun z hz => by show z < u3.heap.size; rw [hs3]; exact hz.2.1) rfl (by omega) HON3.out).mono ?_
              rintro e w' ⟨v, he, ho, hb⟩
              have hb' : Below u3.heap.size u3 w' := ⟨hb.os, hb.tape, hb.output, hb.size, hb.block⟩
              have ho' : Own w' u3.heap.size 77 2 v (rput (rnames l k) (f.s, k)).length (recells (rput (rnames l k) (f.s, k))) := ho
              rw [hs3] at ho' hb'
              exact ⟨v, he, (hb'.cell (p := ⟨x, 1, none⟩) (by rw [← hs3]; exact World.block_lt_of_cell? _ _ r1)).trans r1, (hb'.cell (p := ⟨bx, 0, none⟩) (by rw [← hs3]; exact World.block_lt_of_cell? _ _ r2)).trans r2, (hb'.frozen (p := ⟨x, 1, none⟩) (by rw [← hs3]; exact World.block_lt_of_cell? _ _ r1)).trans (rf 1), Lib.hid ⟨ho', hb'⟩⟩)
            rw [← hu3]
            obtain ⟨S, hSd⟩ : ∃ S : World → Prop, S = fun w' => w'.cell? ⟨x, 1, none⟩ = some (.slice nA (rnames l k).length nc) ∧ w'.cell? ⟨bx, 0, none⟩ = some (.string f.s) := ⟨_, rfl⟩
            have hSF : ∀ w', S w' → w'.cell? ⟨x, 1, none⟩ = some (.slice nA (rnames l k).length nc) ∧ w'.cell? ⟨bx, 0, none⟩ = some (.string f.s) := by rw [hSd]; exact fun w' h => h
            have s0 : ∀ s : SW S, s.w.cell? ⟨x, 1, none⟩ = some (.slice nA (rnames l k).length nc) := fun s => (hSF _ s.h).1
            have s1 : ∀ s : SW S, s.w.cell? ⟨bx, 0, none⟩ = some (.string f.s) := fun s => (hSF _ s.h).2
            have hS0 : S u3.drew := by rw [hSd]; exact ⟨r1, r2⟩
            have HSS : Hid (∀ w', w'.cell? ⟨x, 1, none⟩ = some (.slice nA (rnames l k).length nc) → w'.cell? ⟨bx, 0, none⟩ = some (.string f.s) → S w') := Lib.hid (by rw [hSd]; exact fun w' p q => ⟨p, q⟩)
            clear hSd hSF hu3 q0 q1 q2 qf ho2 hg2 hSw2
            go_wp2_with fail
            refine regionL_start (by kernel_rfl) 13 rfl S 12 ?_
            refine wpL_next 0 8 5 (by kernel_rfl) (fun _ _ d _ _ h => by cases d <;> exact h) hS0 (fun hne => ?_)
            simp only [List.drop_succ_cons, List.drop_zero, List.take_succ_cons, List.take_zero]
            repeat (go_big_quiet_step (fail))
            refine wpQuiet_nil ?_
            refine wpL_one (i := 8) (fuel := 4) (by kernel_rfl) rfl (fun KK hKK => ?_)
            go_simp
            refine hKK _ _ hS0 ?_
            clear hKK KK
            refine wpL_one (i := 9) (fuel := 3) (by kernel_rfl) rfl (fun KK hKK => ?_)
            go_simp
            refine HPU.out.mono ?_
            rintro e w3 ⟨v3, rfl, t1, t2, t3, H3⟩
            obtain ⟨nA3, nc3, rfl⟩ := H3.out.1.form
            have hS0 := HSS.out w3 t1 t2
            refine hKK _ _ hS0 ?_
            clear hKK KK
            try simp only [Act.put, List.setIfInBounds_toArray, List.set_cons_zero, List.set_cons_succ]
            refine wpL_next 10 2 1 (by kernel_rfl) (fun _ _ d _ _ h => by cases d <;> exact h) hS0 (fun hne => ?_)
            simp only [List.drop_succ_cons, List.drop_zero, List.take_succ_cons, List.take_zero]
            repeat (go_big_quiet_step (fail))
            refine wpQuiet_nil ?_
            refine wpL_last (fuel := 0) (by kernel_rfl) (by kernel_rfl) rfl (fun KK hKK => ?_)
            go_simp
            refine hKK _ _ ?_
            clear hKK KK
            go_wp2
            go_roundw
            case rel =>
              have hpush := HM2d.out.push HF.out HDOK.out HGOOD.out HO2.out HG2.out (by rw [← HU3.out]; exact H3.out.2) H3.out.1 rfl
              exact ⟨k + 1, _, _, _, by omega, by go_num, congrArg (Value.int .i64) HSZ.out, ⟨_, rfl⟩, HSL.out, hpush⟩
            case measure => simp [intOf]; omega
        · have hrd : decide (0 ≤ r) = true := decide_eq_true (by omega)
          have HR0 := Lib.hid hr0
          go_wp2
          rw [HU1.out, HBB.out]
          go_quiet (first
            | (go_at_call 15; exact Calls.quiet_of_same ((HNA.out _).mono fun e w' ⟨h1, h2⟩ => ⟨h1, h2.symm⟩))
            | (go_at_call 25; exact Calls.quiet_of_same ((HFI.out _).mono fun e w' ⟨h1, h2⟩ => ⟨h1, h2.symm⟩)))
          go_wp2
          go_ret
          refine HFAIL.out _ (.inl (namesB_bad HF.out (.inr ?_)))
          refine Classical.byContradiction fun hno => absurd (HGD.out.2 fun y hy e => hno ⟨y, hy, e⟩) (by have := HR0.out; omega)
    · obtain rfl : k = n := by omega
      have hT : l.take k = l := List.take_of_length_le (by rw [HL.out]; exact Nat.le_refl _)
      have hFl : F.length = k := by rw [hM.made.1, hT, HL.out]
      have q1 : wr.cell? ⟨x, 1, none⟩ = some (.slice nA (rnames l k).length nc) := hM.cell 1
      have q2 : wr.cell? ⟨x, 2, none⟩ = some (.slice none 0 0) := hM.cell 2
      have qf := hM.blk.nf
      have HD := Lib.hid (hM.disk HX.out hFl)
      have HB := Lib.hid hM.bel
      have HMD := Lib.hid hM.made
      have HGO := Lib.hid hM.good
      have HT := Lib.hid hT
      have HXG := Lib.hid hM.xge
      clear hM hT hFl
      go_wp2
      go_ret
      refine ⟨⟨HB.out.os, HB.out.tape, HB.out.output, by simpa using HB.out.size, fun j hj => (Below.heap_setCell _ _ _ _ (fun e => by have e : j = x := e; have := HXG.out; omega)).trans (HB.out.block j hj)⟩, .inl ⟨?_, x, ⟨fA, fc, nA, nc, nA, nc, none, 0⟩, F, HXG.out, rfl, ?_, ?_⟩⟩
      · rw [Bool.and_eq_true]
        refine ⟨?_, namesB_all fun j y hy => HGO.out j y (by have := (List.getElem?_eq_some_iff.1 hy).1; rw [HL.out] at this; exact this) hy⟩
        unfold fitsB
        refine decide_eq_true ⟨by omega, by omega, by rw [HL.out]; omega, ?_⟩
        rw [HU.out, HT.out] at hle
        exact hle
      · rw [HL.out]; exact HD.out
      · rw [HT.out] at HMD; exact HMD.out
end Go.Proofs.Ytekhockdgglndaa

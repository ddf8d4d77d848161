/-
  WORDS FOR MEMORY, of our own: a slice value that shows a list of cells; a world that lies above another one.
-/
import Derived.Below
import Derived.Laws.OwnMore
import Derived.Deep.AppendLies
import Derived.Deep.Draws
import Derived.WalkKit
namespace Go.Proofs.Ythdfoahnkkkbmaa
set_option linter.unusedVariables false
set_option linter.unusedSimpArgs false
open Go.RowKit

/-- The slice '.slice A n c' shows the cells xs; they lie in a block below B. -/
def Sh (w : World) (B : Nat) (A : Option Addr) (n : Nat) (xs : List Value) : Prop :=
  xs.length = n ∧ (0 < n → ∃ b off, A = some ⟨b, off, none⟩ ∧ b < B ∧ ∀ k u, xs[k]? = some u → w.cell? ⟨b, off + k, none⟩ = some u)

section
variable {w w' : World} {B B' n : Nat} {A : Option Addr} {xs : List Value}
theorem Sh.len (h : Sh w B A n xs) : xs.length = n := h.1
theorem Sh.nil (w : World) (B : Nat) (A : Option Addr) : Sh w B A 0 [] := ⟨rfl, fun h => absurd h (by omega)⟩
theorem Sh.at (h : Sh w B A n xs) {k : Nat} (hk : k < n) : ∃ b off u, A = some ⟨b, off, none⟩ ∧ b < B ∧ xs[k]? = some u ∧ w.cell? ⟨b, off + k, none⟩ = some u := by
  obtain ⟨b, off, e, hb, hc⟩ := h.2 (by omega)
  have hl : k < xs.length := by rw [h.1]; exact hk
  exact ⟨b, off, xs[k], e, hb, List.getElem?_eq_getElem hl, hc k _ (List.getElem?_eq_getElem hl)⟩
theorem Sh.keep (h : Sh w B A n xs) (hk : ∀ p : Addr, p.block < B → w'.cell? p = w.cell? p) : Sh w' B A n xs :=
  ⟨h.1, fun hn => by
    obtain ⟨b, off, e, hb, hc⟩ := h.2 hn
    exact ⟨b, off, e, hb, fun k u hu => (hk _ hb).trans (hc k u hu)⟩⟩
theorem Sh.more (h : Sh w B A n xs) (hB : B ≤ B') : Sh w B' A n xs :=
  ⟨h.1, fun hn => by
    obtain ⟨b, off, e, hb, hc⟩ := h.2 hn
    exact ⟨b, off, e, by omega, hc⟩⟩
theorem Sh.below (h : Sh w B A n xs) (hb : Below B w w') : Sh w' B A n xs := h.keep fun _ hp => hb.cell hp
theorem Sh.up (h : Sh w B A n xs) (hb : Below B' w w') (hB : B ≤ B') : Sh w' B A n xs := h.keep fun _ hp => hb.cell (by omega)
theorem Sh.drewN (h : Sh w B A n xs) (k : Nat) : Sh (w.drewN k) B A n xs := h
theorem Sh.drew (h : Sh w B A n xs) : Sh w.drew B A n xs := h
theorem Sh.head (h : Sh w B A n xs) {k : Nat} (hk : k ≤ n) : Sh w B A k (xs.take k) := by
  refine ⟨by simp [h.1]; omega, fun hn => ?_⟩
  obtain ⟨b, off, e, hb, hc⟩ := h.2 (by omega)
  refine ⟨b, off, e, hb, fun j u hu => hc j u ?_⟩
  rw [List.getElem?_take] at hu
  split at hu
  · exact hu
  · cases hu
/-- A piece of what is shown. -/
theorem Sh.piece (h : Sh w B A n xs) {lo hi : Nat} (hlo : lo ≤ hi) (hhi : hi ≤ n) {A' : Option Addr}
    (hA : ∀ b off, A = some ⟨b, off, none⟩ → lo < hi → A' = some ⟨b, off + lo, none⟩) : Sh w B A' (hi - lo) ((xs.take hi).drop lo) := by
  refine ⟨by simp [h.1]; omega, fun hn => ?_⟩
  obtain ⟨b, off, e, hb, hc⟩ := h.2 (by omega)
  refine ⟨b, off + lo, hA b off e (by omega), hb, fun k u hu => ?_⟩
  rw [Nat.add_assoc]
  refine hc _ u ?_
  rw [List.getElem?_drop, List.getElem?_take] at hu
  split at hu
  · exact hu
  · cases hu
theorem Sh.of_own {base : Nat} {e : TypeId} {c : Nat} (h : w.ownsRow base e 1 (.slice A n c) n xs) : Sh w w.heap.size A n xs := by
  refine ⟨by have := h.1; omega, fun hn => ?_⟩
  obtain ⟨g, cap, hv, _, hlt⟩ := h.form hn
  have hA : A = some ⟨g, 0, none⟩ := by injection hv
  subst hA
  refine ⟨g, 0, rfl, hlt, fun k u hu => ?_⟩
  have := h.cells (g := g) rfl k u hu
  simp only [Addr.add] at this
  split at this
  · rename_i h0; subst h0; simpa using this
  · simpa using this
end

/-- A literal, in the block that it was just laid in. -/
theorem Sh.lit (w : World) (xs : List Value) (e : TypeId) : Sh (w.alloc (.cells xs.toArray e)) (w.heap.size + 1) (some ⟨w.heap.size, 0, none⟩) xs.length xs :=
  ⟨rfl, fun _ => ⟨w.heap.size, 0, rfl, by omega, fun k u hu => by
    rw [Nat.zero_add, World.cell?_alloc_at _ _ _ _ rfl]
    simpa using hu⟩⟩
theorem Sh.alloc {w : World} {B n : Nat} {A : Option Addr} {xs : List Value} (h : Sh w B A n xs) (hB : B ≤ w.heap.size) (o : Obj) : Sh (w.alloc o) B A n xs :=
  h.below ((Below.refl B w).alloc hB o)

/-- Bytes, as cells. -/
def by8 (l : List Int) : List Value := l.map (Value.int .u8)
theorem by8_get? (l : List Int) (k : Nat) : (by8 l)[k]? = (l[k]?).map (Value.int .u8) := by simp [by8]
theorem by8_len (l : List Int) : (by8 l).length = l.length := by simp [by8]
theorem by8_append (a b : List Int) : by8 (a ++ b) = by8 a ++ by8 b := by simp [by8]
theorem by8_take (a : List Int) (k : Nat) : (by8 a).take k = by8 (a.take k) := by simp [by8]
theorem by8_drop (a : List Int) (k : Nat) : (by8 a).drop k = by8 (a.drop k) := by simp [by8]
theorem Sh.byte {w : World} {B n : Nat} {A : Option Addr} {l : List Int} (h : Sh w B A n (by8 l)) {k : Nat} (hk : k < n) :
    ∃ b off, A = some ⟨b, off, none⟩ ∧ b < B ∧ w.cell? ⟨b, off + k, none⟩ = some (.int .u8 (l.getD k 0)) := by
  obtain ⟨b, off, u, e, hb, hu, hc⟩ := h.at hk
  refine ⟨b, off, e, hb, hc.trans ?_⟩
  rw [by8_get?] at hu
  obtain ⟨x, hx, rfl⟩ := Option.map_eq_some_iff.1 hu
  simp [hx]

/-- The world is the old one, but for draws. -/
def Quiet (w w' : World) : Prop := ∃ q, w' = w.drewN q
theorem Quiet.refl (w : World) : Quiet w w := ⟨0, rfl⟩
theorem Quiet.one (w : World) (q : Nat) : Quiet w (w.drewN q) := ⟨q, rfl⟩
theorem Quiet.two (w : World) (q r : Nat) : Quiet w ((w.drewN q).drewN r) := ⟨q + r, World.drewN_drewN w q r⟩
theorem Quiet.trans {a b c : World} (h : Quiet a b) (k : Quiet b c) : Quiet a c := by
  obtain ⟨q, rfl⟩ := h
  obtain ⟨r, rfl⟩ := k
  exact Quiet.two _ _ _
theorem Quiet.below {a b : World} (h : Quiet a b) (B : Nat) : Below B a b := by
  obtain ⟨q, rfl⟩ := h
  exact ⟨rfl, rfl, rfl, Nat.le_refl _, fun _ _ => rfl⟩
theorem Quiet.size {a b : World} (h : Quiet a b) : b.heap.size = a.heap.size := by
  obtain ⟨q, rfl⟩ := h
  rfl

/-- What the table says of a slice type: its element type, how many cells and bytes an element has. -/
def RowT (P : Program) (t e : TypeId) (size bytes : Nat) : Prop :=
  P.underlying t = some (.slice e) ∧ ∃ i z, P.info? e = some i ∧ i.zero = some z ∧ i.size = size ∧ i.bytes = bytes ∧ z.cells.size = size ∧ 0 < size
theorem RowT.mk {P : Program} {t e : TypeId} {z : Value} {size bytes : Nat} (h : P.underlying t = some (.slice e))
    (hi : (P.info? e).map (fun i => (i.zero, i.size, i.bytes)) = some (some z, size, bytes)) (hz : z.cells.size = size) (hs : 0 < size) : RowT P t e size bytes := by
  obtain ⟨i, h1, h2, h3, h4⟩ := info_parts hi
  exact ⟨h, i, z, h1, h2, h3, h4, hz, hs⟩

/-- The value v owns n elements, the cells xs, in a block of number B or more. -/
def Own (w : World) (B : Nat) (e : TypeId) (size : Nat) (v : Value) (n : Nat) (xs : List Value) : Prop := w.ownsRow B e size v n xs ∧ B ≤ w.heap.size
section
variable {w w' : World} {B n size : Nat} {e : TypeId} {v : Value} {xs : List Value}
theorem Own.form (h : Own w B e size v n xs) : ∃ A c, v = .slice A n c := by
  rcases h.1.2 with ⟨rfl, rfl⟩ | ⟨g, cap, cur, rfl, _⟩
  · exact ⟨_, _, rfl⟩
  · exact ⟨_, _, rfl⟩
theorem Own.len (h : Own w B e size v n xs) : xs.length = n * size := h.1.1
theorem Own.len1 {l : List Int} (h : Own w B e 1 v n (by8 l)) : l.length = n := by have := h.1.1; rw [by8_len] at this; omega
theorem Own.cast {n' : Nat} {xs' : List Value} (h : Own w B e size v n xs) (hn : n = n') (hx : xs = xs') : Own w B e size v n' xs' := by
  subst hn; subst hx; exact h
theorem Own.cap {A : Option Addr} {c : Nat} (h : Own w B e size (.slice A n c) n xs) : n ≤ c ∧ c ≤ maxLen := by
  rcases h.1.2 with ⟨h1, rfl⟩ | ⟨g, cap, cur, h1, _, _, h2, h3, _⟩
  · injection h1 with _ _ h1
    subst h1
    exact ⟨Nat.le_refl _, Nat.zero_le _⟩
  · injection h1 with _ _ h1
    subst h1
    exact ⟨h2, h3⟩
theorem Own.nil (w : World) (B : Nat) (e : TypeId) (size : Nat) (hB : B ≤ w.heap.size) : Own w B e size (.slice none 0 0) 0 [] := ⟨World.ownsRow_nil _ _ _ _, hB⟩
theorem Own.empty (w : World) (B : Nat) (e : TypeId) (size : Nat) (hB : B ≤ w.heap.size) : Own (w.alloc (.cells #[] e)) B e size (.slice (some ⟨w.heap.size, 0, none⟩) 0 0) 0 [] :=
  ⟨⟨by simp, .inr ⟨w.heap.size, 0, #[], rfl, hB, heap_alloc_new w _, Nat.le_refl _, Nat.zero_le _, by simp, by simp⟩⟩, by simp; omega⟩
theorem Own.alloc (h : Own w B e size v n xs) (o : Obj) : Own (w.alloc o) B e size v n xs := ⟨h.1.alloc o, by have := h.2; simp; omega⟩
theorem Own.drew (h : Own w B e size v n xs) : Own w.drew B e size v n xs := h
theorem Own.drewN (h : Own w B e size v n xs) (k : Nat) : Own (w.drewN k) B e size v n xs := h
theorem Own.below (h : Own w B e size v n xs) (hb : Below w.heap.size w w') : Own w' B e size v n xs :=
  ⟨h.1.kept (row := none) ⟨hb.os, hb.tape, hb.output, hb.size, fun k hk _ => hb.block k hk⟩ (by cases hv : v.ownBlock <;> simp), Nat.le_trans h.2 hb.size⟩
theorem Own.sh {A : Option Addr} {c : Nat} (h : Own w B e 1 (.slice A n c) n xs) : Sh w w.heap.size A n xs := Sh.of_own h.1
theorem Own.quiet (h : Own w B e size v n xs) (hq : Quiet w w') : Own w' B e size v n xs := by
  obtain ⟨q, rfl⟩ := hq
  exact h
theorem Own.lower {B' : Nat} (h : Own w B e size v n xs) (hB : B' ≤ B) : Own w B' e size v n xs := by
  refine ⟨⟨h.1.1, ?_⟩, Nat.le_trans hB h.2⟩
  rcases h.1.2 with h1 | ⟨g, cap, cur, h1, h2, h3⟩
  · exact .inl h1
  · exact .inr ⟨g, cap, cur, h1, Nat.le_trans hB h2, h3⟩
end

theorem Own.mk_ {w : World} {B g cap n size : Nat} {e : TypeId} {cur xs : List Value} (hB : B ≤ g) (h : w.heap[g]? = some (.cells cur.toArray e (0, 0))) (hn : n ≤ cap) (hm : cap ≤ maxLen)
    (hc : cur.length = cap * size) (ht : cur.take (n * size) = xs) : Own w B e size (.slice (some ⟨g, 0, none⟩) n cap) n xs := by
  have hlt : g < w.heap.size := (Array.getElem?_eq_some_iff.1 h).1
  have hle : n * size ≤ cap * size := Nat.mul_le_mul_right _ hn
  exact ⟨⟨by rw [← ht, List.length_take]; omega, .inr ⟨g, cap, _, rfl, hB, h, hn, hm, by simpa using hc, by simpa using ht⟩⟩, by omega⟩
theorem Below.old {B : Nat} {W0 w : World} (h : Below B W0 w) (hB : B ≤ W0.heap.size) : B ≤ w.heap.size := Nat.le_trans hB h.size

section
variable {P : Program} {ops : Array Oper} {rest : List Oper} {o : Oper} {a : Act} {Q : Exit → Act → World → Prop}
/-- 'out = append(out, x)': out the call's own, x laid in a block of its own just ahead. -/
theorem wp_push {K : Act → World → Prop} (s x : Operand) (t : TypeId) (ho : o.op = .call { callee := .builtin .append, args := #[s, x], argTypes := #[t, t] })
    {e : TypeId} {size bytes : Nat} (hT : RowT P t e size bytes) (W0 w : World) (B : Nat) (v : Value) (n : Nat) (xs us : List Value) (hs : a.eval s = v) (hown : Own w B e size v n xs)
    (hx : a.eval x = .slice (some ⟨w.heap.size, 0, none⟩) 1 1) (hl : us.length = size) (h1 : ∀ u ∈ us, u.oneCell' = true) (hb : Below B W0 w)
    (hlen : n ≤ 1099511627776) (hby : bytes ≤ 64)
    (h : ∀ v' w', Own w' B e size v' (n + 1) (xs ++ us) → Below B W0 w' → K (a.put o.dst v') w') :
    o.wp P a (w.alloc (.cells us.toArray e)) K Q := by
  obtain ⟨ht, i, z, hi, hz, hsize, hbytes, hzs, hpos⟩ := hT
  have hbb : (n + 1) * bytes ≤ 140737488355328 := Nat.le_trans (Nat.mul_le_mul (show n + 1 ≤ 1099511627777 by omega) hby) (by decide)
  refine wp_append_own _ s x t ho B e i z size bytes ht hi hz hsize hbytes hzs hpos v n xs hs (hown.1.alloc _) ⟨w.heap.size, 0, none⟩ 1 1 us hx (by simpa using hl) ?_ h1
    (by unfold maxLen; omega) hbb (by have := hown.2; simp; omega) ?_
  · intro j u hu
    rw [Addr.add_lit, Nat.zero_add, World.cell?_alloc_at _ _ _ _ rfl]
    simpa using hu
  · intro v' w' ho' hg' _
    have hge : B ≤ (w.alloc (.cells us.toArray e)).heap.size := by have := hown.2; simp; omega
    exact h v' w' ⟨ho', Nat.le_trans hge hg'.size⟩ ((hb.alloc hown.2 _).grown hg' hge (fun q hq => (hown.1.lt q hq).1))

/-- 'out = append(out, xs...)': out the call's own; xs shown. -/
theorem wp_more {K : Act → World → Prop} (s x : Operand) (t : TypeId) (ho : o.op = .call { callee := .builtin .append, args := #[s, x], argTypes := #[t, t] })
    {e : TypeId} {bytes : Nat} (hT : RowT P t e 1 bytes) (W0 w : World) (B : Nat) (v : Value) (n : Nat) (xs us : List Value) (hs : a.eval s = v) (hown : Own w B e 1 v n xs)
    (U : Nat) (A : Option Addr) (m c : Nat) (hx : a.eval x = .slice A m c) (hsh : Sh w U A m us) (h1 : ∀ u ∈ us, u.oneCell' = true) (hb : Below B W0 w)
    (hlen : n + m ≤ 1099511627776) (hby : bytes ≤ 64)
    (h : ∀ v' w', Own w' B e 1 v' (n + m) (xs ++ us) → Below B W0 w' → K (a.put o.dst v') w') :
    o.wp P a w K Q := by
  obtain ⟨ht, i, z, hi, hz, hsize, hbytes, hzs, hpos⟩ := hT
  have hbb : (n + m) * bytes ≤ 140737488355328 := Nat.le_trans (Nat.mul_le_mul hlen hby) (by decide)
  have hful : ∀ ad : Addr, (∀ k u, us[k]? = some u → w.cell? (ad.add k) = some u) → a.eval x = .slice (some ad) m c → o.wp P a w K Q := by
    intro ad hc hx'
    refine wp_append_own _ s x t ho B e i z 1 bytes ht hi hz hsize hbytes hzs hpos v n xs hs hown.1 ad m c us hx' (by have := hsh.len; omega) hc h1
      (by unfold maxLen; omega) hbb hown.2 ?_
    intro v' w' ho' hg' _
    exact h v' w' ⟨ho', Nat.le_trans hown.2 hg'.size⟩ (hb.grown hg' hown.2 (fun q hq => (hown.1.lt q hq).1))
  rcases Nat.eq_zero_or_pos m with h0 | h0
  · subst h0
    have hn : us = [] := List.eq_nil_of_length_eq_zero hsh.len
    subst hn
    rcases A with _ | ad
    · have hrun : (Builtin.append_ #[t, t] o.type #[v, .slice none 0 c]).run P w = .ok v w := by
        rcases hown.1.2 with ⟨rfl, rfl⟩ | ⟨g, cap, cur, rfl, _, _, hnc, _⟩
        · simp [Builtin.append_, run_underlying ht, sizeOf, typeInfo, hi, Builtin.lenOf, Builtin.firstCells]
        · simp [Builtin.append_, run_underlying ht, sizeOf, typeInfo, hi, Builtin.lenOf, Builtin.firstCells, hnc, storeCells]
      unfold Oper.wp
      simp [execOp, ho, resolve, invoke, builtin, hs, hx, hrun, Result.andThen]
      exact h v w (by simpa using hown) hb
    · exact hful ad (by simp) hx
  · obtain ⟨b, off, rfl, _, hc⟩ := hsh.2 h0
    refine hful ⟨b, off, none⟩ (fun k u hu => ?_) hx
    rw [Addr.add_lit]
    exact hc k u hu

theorem wpList_wanted (hw : Region.wanted o (yielded ops a.tmps) = true) {w : World}
    (h : ∀ K : Act → World → Prop, (∀ a w, wpList P ops Q rest a w → K a w) → o.wp P a w K Q) : wpList P ops Q (o :: rest) a w :=
  wpList_step fun K hK => by rw [if_pos hw]; exact h K hK

theorem wpList_push (hgd : Region.wanted o (yielded ops a.tmps) = true) (s x : Operand) (t : TypeId) (ho : o.op = .call { callee := .builtin .append, args := #[s, x], argTypes := #[t, t] })
    {e : TypeId} {size bytes : Nat} (hT : RowT P t e size bytes) (W0 w : World) (B : Nat) (v : Value) (n : Nat) (xs us : List Value) (hs : a.eval s = v) (hown : Own w B e size v n xs)
    (hx : a.eval x = .slice (some ⟨w.heap.size, 0, none⟩) 1 1) (hl : us.length = size) (h1 : ∀ u ∈ us, u.oneCell' = true) (hb : Below B W0 w)
    (hlen : n ≤ 1099511627776) (hby : bytes ≤ 64)
    (h : ∀ v' w', Own w' B e size v' (n + 1) (xs ++ us) → Below B W0 w' → wpList P ops Q rest (a.put o.dst v') w') :
    wpList P ops Q (o :: rest) a (w.alloc (.cells us.toArray e)) :=
  wpList_wanted hgd fun _ hK => wp_push s x t ho hT W0 w B v n xs us hs hown hx hl h1 hb hlen hby fun v' w' h2 h3 => hK _ _ (h v' w' h2 h3)

theorem wpList_more (hgd : Region.wanted o (yielded ops a.tmps) = true) (s x : Operand) (t : TypeId) (ho : o.op = .call { callee := .builtin .append, args := #[s, x], argTypes := #[t, t] })
    {e : TypeId} {bytes : Nat} (hT : RowT P t e 1 bytes) (W0 w : World) (B : Nat) (v : Value) (n : Nat) (xs us : List Value) (hs : a.eval s = v) (hown : Own w B e 1 v n xs)
    (U : Nat) (A : Option Addr) (m c : Nat) (hx : a.eval x = .slice A m c) (hsh : Sh w U A m us) (h1 : ∀ u ∈ us, u.oneCell' = true) (hb : Below B W0 w)
    (hlen : n + m ≤ 1099511627776) (hby : bytes ≤ 64)
    (h : ∀ v' w', Own w' B e 1 v' (n + m) (xs ++ us) → Below B W0 w' → wpList P ops Q rest (a.put o.dst v') w') :
    wpList P ops Q (o :: rest) a w :=
  wpList_wanted hgd fun _ hK => wp_more s x t ho hT W0 w B v n xs us hs hown U A m c hx hsh h1 hb hlen hby fun v' w' h2 h3 => hK _ _ (h v' w' h2 h3)

/-- The same as one step of a region that draws its order. -/
theorem step_push {K : Act → World → Prop} {E : Prop} (hgd : Region.wanted o (yielded ops a.tmps) = true) (s x : Operand) (t : TypeId) (ho : o.op = .call { callee := .builtin .append, args := #[s, x], argTypes := #[t, t] })
    {e : TypeId} {size bytes : Nat} (hT : RowT P t e size bytes) (W0 w : World) (B : Nat) (v : Value) (n : Nat) (xs us : List Value) (hs : a.eval s = v) (hown : Own w B e size v n xs)
    (hx : a.eval x = .slice (some ⟨w.heap.size, 0, none⟩) 1 1) (hl : us.length = size) (h1 : ∀ u ∈ us, u.oneCell' = true) (hb : Below B W0 w)
    (hlen : n ≤ 1099511627776) (hby : bytes ≤ 64)
    (h : ∀ v' w', Own w' B e size v' (n + 1) (xs ++ us) → Below B W0 w' → K (a.put o.dst v') w') :
    if Region.wanted o (yielded ops a.tmps) = true then Oper.wp P o a (w.alloc (.cells us.toArray e)) K Q else E := by
  rw [if_pos hgd]
  exact wp_push s x t ho hT W0 w B v n xs us hs hown hx hl h1 hb hlen hby h
theorem step_more {K : Act → World → Prop} {E : Prop} (hgd : Region.wanted o (yielded ops a.tmps) = true) (s x : Operand) (t : TypeId) (ho : o.op = .call { callee := .builtin .append, args := #[s, x], argTypes := #[t, t] })
    {e : TypeId} {bytes : Nat} (hT : RowT P t e 1 bytes) (W0 w : World) (B : Nat) (v : Value) (n : Nat) (xs us : List Value) (hs : a.eval s = v) (hown : Own w B e 1 v n xs)
    (U : Nat) (A : Option Addr) (m c : Nat) (hx : a.eval x = .slice A m c) (hsh : Sh w U A m us) (h1 : ∀ u ∈ us, u.oneCell' = true) (hb : Below B W0 w)
    (hlen : n + m ≤ 1099511627776) (hby : bytes ≤ 64)
    (h : ∀ v' w', Own w' B e 1 v' (n + m) (xs ++ us) → Below B W0 w' → K (a.put o.dst v') w') :
    if Region.wanted o (yielded ops a.tmps) = true then Oper.wp P o a w K Q else E := by
  rw [if_pos hgd]
  exact wp_more s x t ho hT W0 w B v n xs us hs hown U A m c hx hsh h1 hb hlen hby h
end
theorem by8_one (l : List Int) : ∀ u ∈ by8 l, u.oneCell' = true := by
  intro u hu
  obtain ⟨x, _, rfl⟩ := List.mem_map.1 hu
  rfl

/-- What a slice of integers that came in is: nil, or a row of 'cap' cells, the numbers 'zs', each fitting its kind. -/
def IsRow (k : IntKind) (w : World) (a : Option Addr) (len cap : Nat) (zs : List Int) : Prop :=
  (a = none ∧ len = 0 ∧ cap = 0 ∧ zs = []) ∨
  ∃ x, a = some x ∧ len ≤ cap ∧ cap ≤ maxLen ∧ zs.length = cap ∧ (∀ i, i < zs.length → w.cell? (x.add i) = some (.int k (zs.getD i 0))) ∧ ∀ n ∈ zs, (Lit.int k n).wf = true

theorem IsRow.sh {k : IntKind} {w : World} {a : Option Addr} {len cap : Nat} {zs : List Int} (h : IsRow k w a len cap zs) :
    len ≤ cap ∧ cap ≤ maxLen ∧ zs.length = cap ∧ Sh w w.heap.size a len ((zs.take len).map (Value.int k)) ∧ ∀ n ∈ zs.take len, (Lit.int k n).wf = true := by
  rcases h with ⟨rfl, rfl, rfl, rfl⟩ | ⟨x, rfl, hl, hm, hz, hcell, hwz⟩
  · exact ⟨Nat.le_refl _, Nat.zero_le _, rfl, Sh.nil _ _ _, fun n hn => by simp at hn⟩
  · refine ⟨hl, hm, hz, ⟨by simp; omega, fun hn => ?_⟩, fun n hn => hwz n (List.mem_of_mem_take hn)⟩
    obtain ⟨b, off, spot⟩ := x
    have hc0 := hcell 0 (by omega)
    have hspot : spot = none := by simpa [Addr.add] using World.cell?_spot hc0
    subst hspot
    refine ⟨b, off, rfl, ?_, fun j u hu => ?_⟩
    · have := World.block_lt_of_cell? _ _ hc0
      simpa [Addr.add] using this
    · have hj : j < len ∧ j < zs.length := by
        have := (List.getElem?_eq_some_iff.1 hu).1
        simp at this
        omega
      have hc := hcell j hj.2
      rw [Addr.add_lit] at hc
      rw [hc]
      simp only [List.getElem?_map, List.getElem?_take, if_pos hj.1, List.getElem?_eq_getElem hj.2, Option.map_some] at hu
      rw [← hu]
      simp [hj.2]
end Go.Proofs.Ythdfoahnkkkbmaa

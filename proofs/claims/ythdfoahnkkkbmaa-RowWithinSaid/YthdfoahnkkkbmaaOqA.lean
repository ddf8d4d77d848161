/-
  CONTRACTS OF the document's order: Find, names, reached.
  CONTRACT OF the document's 'reached'.
  CONTRACT OF the document's 'New': words.
-/
import Derived.Test.YthdfoahnkkkbmaaOqM
import Derived.Test.YthdfoahnkkkbmaaOrO
import Derived.Deep.DeepCutAuto
import Derived.Deep.MidRow
import Derived.Deep.RegionLaw
namespace Go.Proofs.Ythdfoahnkkkbmaa
set_option linter.unusedVariables false
set_option linter.unusedSimpArgs false
open Go.RowKit

/-- Strings, as cells. -/
def strs (l : List ByteArray) : List Value := l.map Value.string
theorem strs_snoc (l : List ByteArray) (s : ByteArray) : strs (l ++ [s]) = strs l ++ [.string s] := by simp [strs]
theorem strs_at {l : List ByteArray} {k : Nat} {u : Value} (h : (strs l)[k]? = some u) : u = .string (l.getD k ⟨#[]⟩) := by
  unfold strs at h
  rw [List.getElem?_map] at h
  cases e : l[k]? with
  | none => rw [e] at h; cases h
  | some x => rw [e] at h; cases h; simp [List.getD, e]
def rfindI (l : List ByteArray) (s : ByteArray) : Int := match opos l s with | some i => (i : Int) | none => -1
theorem rfind_in {l : List ByteArray} {s : ByteArray} (h : s ∈ l) : rfindI l s = (rnum l s : Int) := by
  obtain ⟨i, hi⟩ := opos_mem h
  unfold rfindI rnum
  rw [hi]
  rfl
theorem rfind_out {l : List ByteArray} {s : ByteArray} (h : s ∉ l) : rfindI l s = -1 := by
  unfold rfindI
  rw [opos_none.2 h]
theorem opos_first {l : List ByteArray} {s : ByteArray} {k : Nat} (hk : k < l.length) (h : l[k] = s) (hno : ∀ j (hj : j < k), l[j]'(by omega) ≠ s) : opos l s = some k := by
  unfold opos
  rw [List.findIdx?_eq_some_iff_getElem]
  exact ⟨hk, by simpa using h, fun j hj => by simpa using hno j hj⟩
theorem str_eq {s t : ByteArray} : (s.toList == t.toList) = decide (s = t) := by
  rw [ByteArray.toList_eq, ByteArray.toList_eq]
  by_cases h : s = t
  · subst h; simp
  · have : ¬ s.data.toList = t.data.toList := fun e => h (bytes_inj e)
    simp [h]
    intro e
    exact this (by rw [e])
set_option maxHeartbeats 400000 in
theorem rfind_any (A : Option Addr) (n c : Nat) (l : List ByteArray) (s : ByteArray) (w : World) (U : Nat) (h : Sh w U A n (strs l)) (hn : n ≤ maxLen) :
    Calls Try.prog 32 #[.slice A n c, .string s] w fun e w' => e = .returned (.int .i64 (rfindI l s)) ∧ w = w' := by
  unfold maxLen at hn
  have hl : l.length = n := by have := h.len; simpa [strs] using this
  have HL := Lib.hid hl
  clear hl
  go_enter Try.func32, Try.ntmps32
  go_wp2
  go_loopw [5] (fun i wr => ∃ k : Nat, i = .int .i64 (k : Int) ∧ k ≤ n ∧ Hid (∀ j, j < k → l.getD j ⟨#[]⟩ ≠ s) ∧ wr = w) (fun i _ => n - (intOf i).toNat)
  case atStart => exact ⟨0, rfl, Nat.zero_le _, Lib.hid (fun j hj => absurd hj (Nat.not_lt_zero _)), rfl⟩
  case round =>
    obtain ⟨k, rfl, hk, HNO, rfl⟩ := hrel
    by_cases hlt : k < n
    · obtain ⟨b, off, u, rfl, hb, hu, hc⟩ := h.at hlt
      rw [strs_at hu] at hc
      have hkl : k < l.length := by rw [HL.out]; exact hlt
      have hg : ∀ j (hj : j < l.length), l.getD j ⟨#[]⟩ = l[j] := fun j hj => by simp [List.getD, hj]
      have HE := Lib.hid (fun e : l.getD k ⟨#[]⟩ = s => (by
        unfold rfindI
        rw [opos_first hkl (by rw [← hg k hkl]; exact e) (fun j hj => by rw [← hg j (by omega)]; exact HNO.out j hj)] : rfindI l s = (k : Int)))
      obtain ⟨x, hx⟩ : ∃ x, l.getD k ⟨#[]⟩ = x := ⟨_, rfl⟩
      rw [hx] at hc HE
      have HX := Lib.hid hx
      clear hx hu hg
      by_cases e : x = s
      · subst e
        have ht : (x.toList == x.toList) = true := by simp
        have HR := Lib.hid (HE.out rfl)
        go_wp2
        go_ret
        exact ⟨ret_i64 HR.out.symm, rfl⟩
      · have ht : (x.toList == s.toList) = false := by rw [str_eq]; simpa using e
        have HN2 := Lib.hid (show ∀ j, j < k + 1 → l.getD j ⟨#[]⟩ ≠ s from fun j hj => by
          rcases Nat.lt_or_ge j k with h | h
          · exact HNO.out j h
          · obtain rfl : j = k := by omega
            rw [HX.out]; exact e)
        clear e
        go_wp2
        go_roundw
        case rel => exact ⟨k + 1, by go_num, hlt, HN2, (by trivial)⟩
        case measure => simp [intOf]; omega
    · obtain rfl : k = n := by omega
      have HR := Lib.hid (show rfindI l s = -1 from rfind_out fun hm => by
        obtain ⟨j, hj, e⟩ := List.getElem_of_mem hm
        have := HNO.out j (by rw [← HL.out]; exact hj)
        apply this
        simp [List.getD, hj, e])
      go_wp2
      go_ret
      exact ⟨ret_i64 HR.out.symm, rfl⟩

/-- Names that were laid: as many as there are, the call's own. -/
def NmsTo (w : World) (N : List ByteArray) (e : Ending) (w' : World) : Prop := ∃ v, e = .returned v ∧ Own w' w.heap.size 9 1 v N.length (strs N) ∧ Below w.heap.size w w'
end Go.Proofs.Ythdfoahnkkkbmaa
namespace Go.Proofs.Ythdfoahnkkkbmaa
set_option linter.unusedVariables false
set_option linter.unusedSimpArgs false
open Go.RowKit

/-- So many Booleans, as cells. -/
def bools (n : Nat) (S : Nat → Bool) : List Value := (List.range n).map fun j => Value.bool (S j)
theorem bools_len (n : Nat) (S : Nat → Bool) : (bools n S).length = n := by simp [bools]
theorem bools_at {n : Nat} {S : Nat → Bool} {k : Nat} {u : Value} (h : (bools n S)[k]? = some u) : u = .bool (S k) := by
  unfold bools at h
  rw [List.getElem?_map] at h
  cases e : (List.range n)[k]? with
  | none => rw [e] at h; cases h
  | some x =>
    rw [e] at h
    obtain ⟨_, e⟩ := List.getElem?_eq_some_iff.1 e
    simp at e
    cases h
    rw [e]
theorem bools_set (n : Nat) (S : Nat → Bool) {k : Nat} (hk : k < n) : (bools n S).set k (.bool true) = bools n (rset S k) := by
  apply List.ext_getElem?
  intro j
  rw [List.getElem?_set, bools_len]
  unfold bools
  rw [List.getElem?_map, List.getElem?_map]
  by_cases hj : j < n
  · rw [List.getElem?_range hj]
    unfold rset
    by_cases e : k = j
    · subst e; simp [hj]
    · rw [if_neg e]
      have e' : ¬ j = k := fun h => e h.symm
      simp [e']
  · have : (List.range n)[j]? = none := List.getElem?_eq_none (by simp; omega)
    rw [this]
    by_cases e : k = j
    · subst e; omega
    · rw [if_neg e]; rfl
theorem Own.set1q {w : World} {B n size g c : Nat} {e : TypeId} {xs : List Value} (h : Own w B e size (.slice (some ⟨g, 0, none⟩) n c) n xs) (j : Nat) (hj : j < n * size) (u : Value) : Own (w.setCell ⟨g, j, none⟩ u) B e size (.slice (some ⟨g, 0, none⟩) n c) n (xs.set j u) := by
  refine ⟨⟨by rw [List.length_set]; exact h.1.1, ?_⟩, by simpa using h.2⟩
  rcases h.1.2 with ⟨e1, e2⟩ | ⟨g', cap, cur, e1, h1, h2, h3, h4, h5, h6⟩
  · cases e1
  · injection e1 with a1 a2 a3
    injection a1 with a1
    injection a1 with a1
    subst a1
    subst a3
    refine .inr ⟨g, c, cur.setIfInBounds j u, rfl, h1, heap_setCell_same w g j cur e u h2, h3, h4, by simpa using h5, ?_⟩
    rw [← h6, Array.toList_setIfInBounds, List.take_set]
theorem made_bools (n : Nat) : (madeCells (Value.bool false).cells (n * 1)).toList = bools n (fun _ => false) := by
  unfold madeCells bools
  rw [Nat.mul_one, Array.toList_map, Array.toList_range]
  refine List.map_congr_left fun i _ => ?_
  have : i % (Value.bool false).cells.size = 0 := Nat.mod_one i
  rw [this]
  rfl
def RchTo (w : World) (N : List ByteArray) (l : List OPr) (f : Nat) (e : Ending) (w' : World) : Prop := ∃ v, e = .returned v ∧ Own w' w.heap.size 4 1 v N.length (bools N.length (rturns N l f N.length)) ∧ Below w.heap.size w w'
end Go.Proofs.Ythdfoahnkkkbmaa
namespace Go.Proofs.Ythdfoahnkkkbmaa
set_option linter.unusedVariables false
set_option linter.unusedSimpArgs false
open Go.RowKit

theorem off_ne1 {G : Nat} : (⟨G, 1, none⟩ : Addr) ≠ ⟨G, 0, none⟩ := by intro h; injection h with _ h _; cases h
/-- A table of Booleans: rows of slices. -/
def MatAt (w : World) (M : Option Addr) (n : Nat) (F : Nat → Nat → Bool) : Prop :=
  0 < n → ∃ b off, M = some ⟨b, off, none⟩ ∧ b < w.heap.size ∧ ∀ a, a < n → ∃ P c, w.cell? ⟨b, off + a, none⟩ = some (.slice P n c) ∧ Sh w w.heap.size P n (bools n (F a))
/-- The document's order in memory: its two slices. -/
structure RefAt (w : World) (o : Od) (v m : Value) : Prop where
  wf : o.Wf
  nm : ∃ A c, v = .slice A o.ns.length c ∧ Sh w w.heap.size A o.ns.length (strs o.ns)
  mt : ∃ M c, m = .slice M o.ns.length c ∧ MatAt w M o.ns.length (fun a b => o.most a b)
theorem Sh.grow {w w' : World} {A : Option Addr} {n : Nat} {xs : List Value} (h : Sh w w.heap.size A n xs) (b : Below w.heap.size w w') : Sh w' w'.heap.size A n xs := (h.below b).more b.size
theorem MatAt.stay {w w' : World} {M : Option Addr} {n : Nat} {F : Nat → Nat → Bool} (h : MatAt w M n F) (hb : Below w.heap.size w w') : MatAt w' M n F := fun hn => by
  obtain ⟨b, off, e, hlt, hc⟩ := h hn
  refine ⟨b, off, e, Nat.lt_of_lt_of_le hlt hb.size, fun a ha => ?_⟩
  obtain ⟨P, c, h1, h2⟩ := hc a ha
  exact ⟨P, c, (hb.cell (p := ⟨b, off + a, none⟩) hlt).trans h1, h2.grow hb⟩
theorem RefAt.stay {w w' : World} {o : Od} {v m : Value} (h : RefAt w o v m) (hb : Below w.heap.size w w') : RefAt w' o v m := by
  obtain ⟨hw, ⟨A, c, e, h1⟩, ⟨M, d, e2, h2⟩⟩ := h
  exact ⟨hw, ⟨A, c, e, h1.grow hb⟩, ⟨M, d, e2, h2.stay hb⟩⟩
/-- An element of the table. -/
theorem MatAt.at {w : World} {M : Option Addr} {n : Nat} {F : Nat → Nat → Bool} (h : MatAt w M n F) {a b : Nat} (ha : a < n) (hb : b < n) : ∃ mb mo pb po c, M = some ⟨mb, mo, none⟩ ∧ w.cell? ⟨mb, mo + a, none⟩ = some (.slice (some ⟨pb, po, none⟩) n c) ∧ w.cell? ⟨pb, po + b, none⟩ = some (.bool (F a b)) := by
  obtain ⟨mb, mo, e, _, hc⟩ := h (by omega)
  obtain ⟨P, c, h1, h2⟩ := hc a ha
  obtain ⟨pb, po, u, rfl, _, hu, hcell⟩ := h2.at hb
  rw [bools_at hu] at hcell
  exact ⟨mb, mo, pb, po, c, e, h1, hcell⟩
/-- Rows of Booleans, each the call's own. -/
def RowsAt (w : World) (B n : Nat) (F : Nat → Nat → Bool) (rows : List Value) : Prop := ∀ j, j < rows.length → ∃ P c, rows[j]? = some (.slice P n c) ∧ Own w B 4 1 (.slice P n c) n (bools n (F j))
theorem Own.setq {a : World} {B n size : Nat} {e : TypeId} {v : Value} {xs : List Value} (h : Own a B e size v n xs) {p : Addr} (hp : p.block < B) (u : Value) : Own (a.setCell p u) B e size v n xs := by
  refine ⟨⟨h.1.1, ?_⟩, by simpa using h.2⟩
  rcases h.1.2 with h1 | ⟨q, cap, cur, h1, h2, h3, h4⟩
  · exact .inl h1
  · exact .inr ⟨q, cap, cur, h1, h2, (Below.heap_setCell _ _ _ _ (by omega)).trans h3, h4⟩
theorem RowsAt.below {w w' : World} {B n : Nat} {F : Nat → Nat → Bool} {rows : List Value} (h : RowsAt w B n F rows) (hb : Below w.heap.size w w') : RowsAt w' B n F rows := fun j hj => by
  obtain ⟨P, c, e, ho⟩ := h j hj
  exact ⟨P, c, e, ho.below hb⟩
theorem RowsAt.other {w w' : World} {B n : Nat} {F : Nat → Nat → Bool} {rows xs : List Value} {v : Value} {B' m size : Nat} {t : TypeId} (h : RowsAt w B n F rows) (hv : Own w B' t size v m xs) (hne : 4 ≠ t) (hg : w.grownBy w' v.ownBlock) : RowsAt w' B n F rows := fun j hj => by
  obtain ⟨P, c, e, ho⟩ := h j hj
  exact ⟨P, c, e, ho.other hv hne hg⟩
theorem RowsAt.set {w : World} {B n : Nat} {F : Nat → Nat → Bool} {rows : List Value} (h : RowsAt w B n F rows) {p : Addr} (hp : p.block < B) (u : Value) : RowsAt (w.setCell p u) B n F rows := fun j hj => by
  obtain ⟨P, c, e, ho⟩ := h j hj
  exact ⟨P, c, e, ho.setq hp u⟩
theorem RowsAt.snoc {w : World} {B n : Nat} {F : Nat → Nat → Bool} {rows : List Value} (h : RowsAt w B n F rows) {P : Option Addr} {c : Nat} (ho : Own w B 4 1 (.slice P n c) n (bools n (F rows.length))) : RowsAt w B n F (rows ++ [.slice P n c]) := fun j hj => by
  rcases Nat.lt_or_ge j rows.length with e | e
  · obtain ⟨Q, d, h1, h2⟩ := h j e
    exact ⟨Q, d, by rw [List.getElem?_append_left e]; exact h1, h2⟩
  · have : j = rows.length := by simp at hj; omega
    subst this
    exact ⟨P, c, by simp, ho⟩
theorem ShP.head {w : World} {B n : Nat} {A : Option Addr} {L : List OPa} (h : ShP w B A n L) {k : Nat} (hk : k ≤ n) : ShP w B A k (L.take k) := by
  refine ⟨by rw [List.length_take, h.1]; omega, fun hn => ?_⟩
  obtain ⟨b, off, e, hb, hc⟩ := h.2 (by omega)
  refine ⟨b, off, e, hb, fun j t ht => hc j t ?_⟩
  rw [List.getElem?_take] at ht
  split at ht
  · exact ht
  · cases ht
theorem ShP.more {w : World} {B B' n : Nat} {A : Option Addr} {L : List OPa} (h : ShP w B A n L) (hB : B ≤ B') : ShP w B' A n L := ⟨h.1, fun hn => by
  obtain ⟨b, off, e, hb, hc⟩ := h.2 hn
  exact ⟨b, off, e, by omega, hc⟩⟩
/-- What is reached, row by row, is the order. -/
theorem rows_most {o : Od} {l : List OPr} (h : Oiv o l) {j : Nat} (hj : j < o.ns.length) : bools o.ns.length (rturns o.ns l j o.ns.length) = bools o.ns.length (fun b => o.fol.most j b) := by
  have hR : Rnm o.ns l := ⟨h.wf.nd, fun s hs => (h.men s).2 hs⟩
  unfold bools
  refine List.map_congr_left fun b hb => ?_
  have hb := List.mem_range.1 hb
  congr 1
  rw [Bool.eq_iff_iff, rturns_all hR hj hb, h.most j b]
  exact ⟨fun h => ⟨hj, hb, h⟩, fun ⟨_, _, h⟩ => h⟩
theorem step_push_q {P : Program} {ops : Array Oper} {o : Oper} {a : Act} {Q : Exit → Act → World → Prop} {K : Act → World → Prop} {E : Prop} (hgd : Region.wanted o (yielded ops a.tmps) = true) (s x : Operand) (t : TypeId) (ho : o.op = .call { callee := .builtin .append, args := #[s, x], argTypes := #[t, t] })
    {e : TypeId} {size bytes : Nat} (hT : RowT P t e size bytes) (w : World) (B : Nat) (v : Value) (n : Nat) (xs us : List Value) (hs : a.eval s = v) (hown : Own w B e size v n xs)
    {G : Nat} (hx : a.eval x = .slice (some ⟨G, 0, none⟩) 1 1) (hG : G = w.heap.size) (hl : us.length = size) (h1 : ∀ u ∈ us, u.oneCell' = true)
    (hlen : n ≤ 1099511627776) (hby : bytes ≤ 64)
    (h : ∀ v' w', Own w' B e size v' (n + 1) (xs ++ us) → (w.alloc (.cells us.toArray e)).grownBy w' v.ownBlock → K (a.put o.dst v') w') :
    if Region.wanted o (yielded ops a.tmps) = true then Oper.wp P o a (w.alloc (.cells us.toArray e)) K Q else E := by
  rw [if_pos hgd]
  exact wp_push_g s x t ho hT w B v n xs us hs hown hx hG hl h1 hlen hby h
theorem row_block {w2 w3 : World} {O B n size : Nat} {e t : TypeId} {v : Value} {xs ys us : List Value} (hb : Blk w2 O t ys) (hv : Own w2 B e size v n xs) (hB : O < B) (hg : (w2.alloc (.cells us.toArray e)).grownBy w3 v.ownBlock) : Blk w3 O t ys := by
  have h1 : Blk (w2.alloc (.cells us.toArray e)) O t ys := hb.stay (Below.heap_alloc _ _ _ hb.lt)
  exact h1.keep hg (fun e => by have := hv.block_ge O e; omega)
end Go.Proofs.Ythdfoahnkkkbmaa

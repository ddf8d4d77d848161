/-
  ROWS OF EDITS in memory: what a slice of edits shows; strings and bytes.
-/
import Derived.Test.YtopeechbgblndaaDoorSpM
import Derived.Test.YtopeechbgblndaaDoorPushG
import Derived.Test.YtopeechbgblndaaDoorRowB
import Derived.Laws.BytesArg
import Derived.OpenShut
import Derived.Lib.UnsafeStr
import Derived.Deep.Slices
import Derived.Deep.Fields
namespace Go.Proofs.YtopeechbgblndaaDoor
set_option linter.unusedVariables false
set_option linter.unusedSimpArgs false
open Go.RowKit Go.ChangeShapes

def Byt8 (l : List Int) : Prop := ∀ x ∈ l, 0 ≤ x ∧ x < 256
theorem byt8_of {l : List Int} (h : ∀ n ∈ l, (Lit.int .u8 n).wf = true) : Byt8 l := fun x hx => by
  have := bounds_u8 (h x hx)
  omega
theorem Byt8.seg {l : List Int} (h : Byt8 l) (p q : Int) : Byt8 (seg l p q) := fun x hx => h x (List.mem_of_mem_take (List.mem_of_mem_drop hx))
theorem Byt8.app {l k : List Int} (h : Byt8 l) (h' : Byt8 k) : Byt8 (l ++ k) := fun x hx => by
  rcases List.mem_append.1 hx with hx | hx
  · exact h x hx
  · exact h' x hx
/-- A string's bytes. -/
def bts (s : ByteArray) : List Int := s.data.toList.map fun u => (u.toNat : Int)
theorem bts_byt (s : ByteArray) : Byt8 (bts s) := fun x hx => by
  obtain ⟨u, _, rfl⟩ := List.mem_map.1 hx
  have := u.toNat_lt
  omega
theorem bts_len (s : ByteArray) : (bts s).length = s.size := by
  unfold bts
  rw [List.length_map, Array.length_toList]
  rfl
theorem str_bts (s : ByteArray) : strOfNums (bts s) = s := by
  apply ByteArray.ext
  apply Array.ext'
  rw [strOfNums_data]
  unfold bts
  rw [List.map_map]
  refine (List.map_congr_left fun b _ => ?_).trans (List.map_id _)
  simp
theorem bts_str {xs : List Int} (h : Byt8 xs) : bts (strOfNums xs) = xs := by
  unfold bts
  rw [strOfNums_data, List.map_map]
  refine (List.map_congr_left fun x hx => ?_).trans (List.map_id xs)
  obtain ⟨h0, h1⟩ := h x hx
  have : x.toNat < 256 := by omega
  simp [UInt8.toNat_ofNat, Nat.mod_eq_of_lt this]
  omega
theorem str_inj {xs ys : List Int} (hx : Byt8 xs) (hy : Byt8 ys) (h : strOfNums xs = strOfNums ys) : xs = ys := by
  rw [← bts_str hx, ← bts_str hy, h]
theorem str_beq {xs ys : List Int} (h : xs = ys) : ((strOfNums xs).toList == (strOfNums ys).toList) = true := by subst h; simp
theorem byteCells_bts (xs : List Int) (h : Byt8 xs) : Lib.byteCells (strOfNums xs).data.toList = by8 xs := by
  rw [strOfNums_data]
  unfold Lib.byteCells by8
  rw [List.map_map]
  refine List.map_congr_left fun x hx => ?_
  obtain ⟨h0, h1⟩ := h x hx
  have : x.toNat < 256 := by omega
  simp [UInt8.toNat_ofNat, Nat.mod_eq_of_lt this]
  omega
theorem str_seg (xs : List Int) (p q : Nat) : strOfNums (seg xs p q) = (strOfNums xs).extract p q := by
  apply ByteArray.ext
  apply Array.ext'
  rw [strOfNums_data]
  unfold seg
  have e : ((strOfNums xs).extract p q).data.toList = ((strOfNums xs).data.toList.take q).drop p := by simp [List.drop_take]
  rw [e, strOfNums_data]
  simp [← List.map_take, ← List.map_drop]
theorem str_app (xs ys : List Int) : strOfNums (xs ++ ys) = strOfNums xs ++ strOfNums ys := by
  apply ByteArray.ext
  apply Array.ext'
  simp [strOfNums_data]

theorem convert_none (src e : TypeId) (hs : Tryd.prog.underlying src = some (.slice e)) (he : Tryd.prog.underlying e = some (.int .u8)) (dst : TypeId) (hd : Tryd.prog.underlying dst = some .string) (p : Option Addr) (c : Nat) (w : World) :
    (convert src dst (.slice p 0 c)).run Tryd.prog w = .ok (.string ⟨#[]⟩) w := by
  rw [run_convert_bytes_string w src dst e _ 0 c hs he hd]
  rcases p with _ | a
  · rfl
  · have := run_bytesToString (P := Tryd.prog) w a 0 c [] (by simpa using run_loadCells_list (P := Tryd.prog) w a [] (by simp))
    exact this
/-- string(b), of bytes that are shown. -/
theorem convert_sh {w : World} {B n : Nat} {A : Option Addr} {bs : List Int} (h : Sh w B A n (by8 bs)) (c : Nat) : (convert 22 9 (.slice A n c)).run Tryd.prog w = .ok (.string (strOfNums bs)) w := by
  have hl : bs.length = n := by have := h.len; rwa [by8_len] at this
  rcases Nat.eq_zero_or_pos n with h0 | h0
  · subst h0
    have : bs = [] := List.eq_nil_of_length_eq_zero hl
    subst this
    exact convert_none 22 5 Tryd.underlying22 (by kernel_rfl) 9 (by kernel_rfl) A c w
  · obtain ⟨b, off, rfl, _, hc⟩ := h.2 h0
    refine run_convert_bytes_arg w 22 5 Tryd.underlying22 (by kernel_rfl) b off n c bs hl (fun i hi => ?_) 9 (by kernel_rfl)
    refine hc i _ ?_
    rw [by8_get?]
    have : i < bs.length := by omega
    simp [this]

theorem rowEd : RowT Tryd.prog 23 38 3 32 := RowT.mk (z := .agg #[.int .i64 0, .int .i64 0, .string ⟨#[]⟩]) Tryd.underlying23 (by kernel_rfl) rfl (by omega)
theorem zeroEd (w : World) : (zeroValue 38).run Tryd.prog w = .ok (.agg #[.int .i64 0, .int .i64 0, .string ⟨#[]⟩]) w := by kernel_rfl
def ecell (t : Ed) : List Value := [.int .i64 t.1, .int .i64 t.2.1, .string (strOfNums t.2.2)]
def ecs (L : List Ed) : List Value := L.flatMap ecell
theorem ecs_snoc (L : List Ed) (t : Ed) : ecs (L ++ [t]) = ecs L ++ ecell t := by simp [ecs]
theorem ecs_cons (t : Ed) (L : List Ed) : ecs (t :: L) = .int .i64 t.1 :: .int .i64 t.2.1 :: .string (strOfNums t.2.2) :: ecs L := by simp [ecs, ecell]
theorem ecs_len (L : List Ed) : (ecs L).length = L.length * 3 := by
  induction L with
  | nil => rfl
  | cons t L ih => rw [ecs_cons]; simp; omega
theorem ecs_at {L : List Ed} {k : Nat} {t : Ed} (h : L[k]? = some t) : (ecs L)[k * 3]? = some (.int .i64 t.1) ∧ (ecs L)[k * 3 + 1]? = some (.int .i64 t.2.1) ∧ (ecs L)[k * 3 + 2]? = some (.string (strOfNums t.2.2)) := by
  induction L generalizing k with
  | nil => simp at h
  | cons s L ih =>
    rw [ecs_cons]
    cases k with
    | zero => cases h; exact ⟨rfl, rfl, rfl⟩
    | succ k =>
      have := ih (k := k) (by simpa using h)
      rw [show (k + 1) * 3 = k * 3 + 1 + 1 + 1 by omega]
      simpa using this
theorem ecell_one (t : Ed) : ∀ u ∈ ecell t, u.oneCell' = true := by
  intro u hu
  simp [ecell] at hu
  rcases hu with rfl | rfl | rfl <;> rfl

/-- The slice '.slice A n c' shows the edits L. -/
def ShE (w : World) (B : Nat) (A : Option Addr) (n : Nat) (L : List Ed) : Prop :=
  L.length = n ∧ (0 < n → ∃ b off, A = some ⟨b, off, none⟩ ∧ b < B ∧ ∀ k t, L[k]? = some t →
    w.cell? ⟨b, off + k * 3, none⟩ = some (.int .i64 t.1) ∧ w.cell? ⟨b, off + k * 3 + 1, none⟩ = some (.int .i64 t.2.1) ∧ w.cell? ⟨b, off + k * 3 + 2, none⟩ = some (.string (strOfNums t.2.2)))
section
variable {w w' : World} {B B' n : Nat} {A : Option Addr} {L : List Ed}
theorem ShE.nil (w : World) (B : Nat) (A : Option Addr) : ShE w B A 0 [] := ⟨rfl, fun h => absurd h (by omega)⟩
theorem ShE.at (h : ShE w B A n L) {k : Nat} (hk : k < n) : ∃ b off t, A = some ⟨b, off, none⟩ ∧ b < B ∧ L[k]? = some t ∧
    w.cell? ⟨b, off + k * 3, none⟩ = some (.int .i64 t.1) ∧ w.cell? ⟨b, off + k * 3 + 1, none⟩ = some (.int .i64 t.2.1) ∧ w.cell? ⟨b, off + k * 3 + 2, none⟩ = some (.string (strOfNums t.2.2)) := by
  obtain ⟨b, off, e, hb, hc⟩ := h.2 (by omega)
  have hl : k < L.length := by rw [h.1]; exact hk
  exact ⟨b, off, L[k], e, hb, List.getElem?_eq_getElem hl, hc k _ (List.getElem?_eq_getElem hl)⟩
theorem ShE.up (h : ShE w B A n L) (hb : Below B' w w') (hB : B ≤ B') : ShE w' B A n L :=
  ⟨h.1, fun hn => by
    obtain ⟨b, off, e, hlt, hc⟩ := h.2 hn
    refine ⟨b, off, e, hlt, fun k t ht => ?_⟩
    obtain ⟨h0, h1, h2⟩ := hc k t ht
    exact ⟨(hb.cell (p := ⟨b, _, none⟩) (Nat.lt_of_lt_of_le hlt hB)).trans h0, (hb.cell (p := ⟨b, _, none⟩) (Nat.lt_of_lt_of_le hlt hB)).trans h1, (hb.cell (p := ⟨b, _, none⟩) (Nat.lt_of_lt_of_le hlt hB)).trans h2⟩⟩
theorem ShE.more (h : ShE w B A n L) (hB : B ≤ B') : ShE w B' A n L :=
  ⟨h.1, fun hn => by
    obtain ⟨b, off, e, hlt, hc⟩ := h.2 hn
    exact ⟨b, off, e, by omega, hc⟩⟩
theorem Own.ed {c : Nat} {e : TypeId} (h : Own w B e 3 (.slice A n c) n (ecs L)) (hl : L.length = n) : ShE w w.heap.size A n L := by
  refine ⟨hl, fun hn => ?_⟩
  obtain ⟨g, cap, hv, _, hlt⟩ := h.1.form hn
  have hA : A = some ⟨g, 0, none⟩ := by injection hv
  subst hA
  have hc : ∀ j u, (ecs L)[j]? = some u → w.cell? ⟨g, 0 + j, none⟩ = some u := fun j u hu => by
    have := h.1.cells (g := g) rfl j u hu
    rwa [Addr.add_lit] at this
  refine ⟨g, 0, rfl, hlt, fun k t ht => ?_⟩
  obtain ⟨h0, h1, h2⟩ := ecs_at ht
  refine ⟨hc _ _ h0, ?_, ?_⟩
  · rw [Nat.add_assoc]; exact hc _ _ h1
  · rw [Nat.add_assoc]; exact hc _ _ h2
theorem ShE.lit (w : World) (t : Ed) (e : TypeId) : ShE (w.alloc (.cells #[.int .i64 t.1, .int .i64 t.2.1, .string (strOfNums t.2.2)] e)) (w.heap.size + 1) (some ⟨w.heap.size, 0, none⟩) 1 [t] :=
  ⟨rfl, fun _ => ⟨w.heap.size, 0, rfl, by omega, fun k x hx => by
    have hk : k = 0 := by
      have := (List.getElem?_eq_some_iff.1 hx).1
      simp at this; exact this
    subst hk
    cases hx
    refine ⟨?_, ?_, ?_⟩ <;> rw [World.cell?_alloc_at _ _ _ _ rfl] <;> rfl⟩⟩
end
/-- All texts are bytes. -/
def BytE (L : List Ed) : Prop := ∀ x ∈ L, Byt8 x.2.2
theorem BytE.get {L : List Ed} (h : BytE L) {k : Nat} {t : Ed} (hk : L[k]? = some t) : Byt8 t.2.2 := h t (List.mem_of_getElem? hk)

theorem grown_below {a b : World} {k : Nat} (h : a.grownBy b (some k)) (B : Nat) (hk : B ≤ k) (hB : B ≤ a.heap.size) : Below B a b :=
  ⟨h.os, h.tape, h.output, h.size, fun j hj => h.block j (by omega) (by intro e; injection e; omega)⟩
theorem ret_int {a b : Int} (h : a = b) : Ending.returned (.int .i64 a) = .returned (.int .i64 b) := by rw [h]
end Go.Proofs.YtopeechbgblndaaDoor

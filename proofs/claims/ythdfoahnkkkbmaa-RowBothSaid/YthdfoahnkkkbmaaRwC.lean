/-
  WHAT IS ASKED OF the program's tables of effects (layer 16), for the laws' walks; 'awake'.
-/
import Derived.Test.YthdfoahnkkkbmaaRwM
namespace Go.Proofs.Ythdfoahnkkkbmaa
set_option linter.unusedVariables false
set_option linter.unusedSimpArgs false
open Go.RowKit

def RSetTo (ns l : List ByteArray) (w : World) (e : Ending) (w' : World) : Prop :=
  e = .returned (.tuple #[.int .u64 ((tset ns l 0 0).1 : Int), .int .i64 ((tset ns l 0 0).2.1 : Int), .int .i64 ((tset ns l 0 0).2.2 : Int)]) ∧ Below w.heap.size w w'
def RNamesTo (ns : List ByteArray) (s : Nat) (w : World) (e : Ending) (w' : World) : Prop :=
  ∃ A c, e = .returned (.slice A (selN ns s).length c) ∧ Own w' w.heap.size 9 1 (.slice A (selN ns s).length c) (selN ns s).length (strs (selN ns s)) ∧ Below w.heap.size w w'
/-- A table at block g: what each call answers, wherever P holds. -/
structure RwC (ns : List ByteArray) (g : Nat) (P : World → Prop) : Prop where
  stay : ∀ {w w'}, P w → Below w.heap.size w w' → P w'
  len : ∀ {w}, P w → Calls Try.prog 25 #[.pointer (some ⟨g, 0, none⟩)] w fun e w' => e = .returned (.int .i64 (ns.length : Int)) ∧ Below w.heap.size w w'
  set : ∀ {w} (A : Option Addr) (n c : Nat) (L : List OPn), P w → ShW w w.heap.size A n L → n ≤ 1000 → (∀ t ∈ L, t.1.size ≤ 1000) → Calls Try.prog 30 #[.pointer (some ⟨g, 0, none⟩), .slice A n c] w (RSetTo ns (L.map (·.1)) w)
  names : ∀ {w} (s : Nat), s < 2 ^ 64 → P w → Calls Try.prog 31 #[.pointer (some ⟨g, 0, none⟩), .int .u64 (s : Int)] w (RNamesTo ns s w)
structure RwAll : Prop where
  new : ∀ (w : World) (A : Option Addr) (n c : Nat) (L : List OPn), ShW w w.heap.size A n L → n ≤ 1000 → (∀ t ∈ L, t.1.size ≤ 1000) → Calls Try.prog 23 #[.slice A n c] w fun e w' => Below w.heap.size w w' ∧ match newT (L.map (·.1)) with
    | (some ns, _, _) => ∃ g P, e = .returned (.tuple #[.pointer (some ⟨g, 0, none⟩), .int .i64 0, .int .i64 0]) ∧ RwC ns g P ∧ P w'
    | (none, i, x) => e = .returned (.tuple #[.pointer none, .int .i64 (i : Int), .int .i64 (x : Int)])
  nlen : ∀ w, Calls Try.prog 25 #[.pointer none] w fun e w' => e = .returned (.int .i64 0) ∧ Below w.heap.size w w'
  nnames : ∀ w (s : Int), Calls Try.prog 31 #[.pointer none, .int .u64 s] w fun e w' => ∃ A c, e = .returned (.slice A 0 c) ∧ Below w.heap.size w w'
  nset : ∀ (w : World) (A : Option Addr) (n c : Nat) (L : List OPn), ShW w w.heap.size A n L → n ≤ 1000 → (∀ t ∈ L, t.1.size ≤ 1000) → Calls Try.prog 30 #[.pointer none, .slice A n c] w fun e w' => e = .returned (.tuple #[.int .u64 0, .int .i64 0, .int .i64 (if n = 0 then 0 else 13)]) ∧ Below w.heap.size w w'
  within : ∀ w (a b : Nat), a < 2 ^ 64 → b < 2 ^ 64 → Calls Try.prog 27 #[.int .u64 (a : Int), .int .u64 (b : Int)] w fun e w' => e = .returned (.bool (decide (a &&& b = a))) ∧ Below w.heap.size w w'
  count : ∀ w (s : Nat), s < 2 ^ 64 → Calls Try.prog 28 #[.int .u64 (s : Int)] w fun e w' => e = .returned (.int .i64 (popB 64 s : Int)) ∧ Below w.heap.size w w'
theorem newT_cases (l : List ByteArray) : (newT l = (some l, 0, 0) ∧ l.Nodup ∧ l.length ≤ 64) ∨ ∃ i e, newT l = (none, i, e) ∧ e ≠ 0 := by
  rcases h : newT l with ⟨_ | ns, i, e⟩
  · exact .inr ⟨i, e, rfl, tadds_none h⟩
  · obtain ⟨rfl, rfl, rfl, h1, h2⟩ := newT_some h
    exact .inl ⟨rfl, h1, h2⟩
theorem RwAll.yes (HI : RwAll) {w : World} {A : Option Addr} {n c : Nat} {L : List OPn} (hL : ShW w w.heap.size A n L) (hn : n ≤ 1000) (hs : ∀ t ∈ L, t.1.size ≤ 1000) {ns : List ByteArray} {i e : Nat} (h : newT (L.map (·.1)) = (some ns, i, e)) :
    Calls Try.prog 23 #[.slice A n c] w fun e w' => Below w.heap.size w w' ∧ ∃ g P, e = .returned (.tuple #[.pointer (some ⟨g, 0, none⟩), .int .i64 0, .int .i64 0]) ∧ RwC ns g P ∧ P w' :=
  (HI.new w A n c L hL hn hs).mono fun e w' hh => by
    obtain ⟨h1, h2⟩ := hh
    rw [h] at h2
    exact ⟨h1, h2⟩
theorem RwAll.no (HI : RwAll) {w : World} {A : Option Addr} {n c : Nat} {L : List OPn} (hL : ShW w w.heap.size A n L) (hn : n ≤ 1000) (hs : ∀ t ∈ L, t.1.size ≤ 1000) {i x : Nat} (h : newT (L.map (·.1)) = (none, i, x)) :
    Calls Try.prog 23 #[.slice A n c] w fun e w' => Below w.heap.size w w' ∧ e = .returned (.tuple #[.pointer none, .int .i64 (i : Int), .int .i64 (x : Int)]) :=
  (HI.new w A n c L hL hn hs).mono fun e w' hh => by
    obtain ⟨h1, h2⟩ := hh
    rw [h] at h2
    exact ⟨h1, h2⟩
/-! ### rows of names as cells -/
def ncs (L : List OPn) : List Value := L.flatMap fun t => [.string t.1, .int .i64 t.2]
theorem ncs_len (L : List OPn) : (ncs L).length = L.length * 2 := by
  unfold ncs
  induction L with
  | nil => rfl
  | cons a L ih => simp only [List.flatMap_cons, List.length_append, ih, List.length_cons, List.length_nil]; omega
theorem ncs_snoc (L : List OPn) (t : OPn) : ncs (L ++ [t]) = ncs L ++ [.string t.1, .int .i64 t.2] := by simp [ncs]
theorem ncs_app (L M : List OPn) : ncs (L ++ M) = ncs L ++ ncs M := by simp [ncs]
theorem ncs_at : ∀ {L : List OPn} {k : Nat} {t : OPn}, L[k]? = some t → (ncs L)[k * 2]? = some (.string t.1) ∧ (ncs L)[k * 2 + 1]? = some (.int .i64 t.2)
  | [], k, t, h => by cases h
  | a :: L, 0, t, h => by cases h; exact ⟨rfl, rfl⟩
  | a :: L, k + 1, t, h => by
    have := ncs_at (L := L) (k := k) (t := t) (by simpa using h)
    have e : ncs (a :: L) = [.string a.1, .int .i64 a.2] ++ ncs L := rfl
    rw [e]
    have h2 : ∀ j, ([Value.string a.1, .int .i64 a.2] ++ ncs L)[j + 2]? = (ncs L)[j]? := fun j => rfl
    rw [show (k + 1) * 2 = k * 2 + 2 by omega, show k * 2 + 2 + 1 = (k * 2 + 1) + 2 by omega, h2, h2]
    exact this
theorem ShW.of_own {w : World} {B n : Nat} {A : Option Addr} {c : Nat} {L : List OPn} (h : Own w B 44 2 (.slice A n c) n (ncs L)) (hl : L.length = n) : ShW w w.heap.size A n L := by
  refine ⟨hl, fun hn => ?_⟩
  obtain ⟨g, cap, hv, _, hlt⟩ := h.1.form hn
  have hA : A = some ⟨g, 0, none⟩ := by injection hv
  subst hA
  refine ⟨g, 0, rfl, hlt, fun k t ht => ?_⟩
  have hc := fun j u (hu : (ncs L)[j]? = some u) => h.1.cells (g := g) rfl j u hu
  obtain ⟨h0, h1⟩ := ncs_at ht
  have a0 := hc _ _ h0
  have a1 := hc _ _ h1
  rw [Addr.add_lit] at a0 a1
  exact ⟨a0, a1⟩
theorem ShW.up {w w' : World} {A : Option Addr} {n : Nat} {L : List OPn} (h : ShW w w.heap.size A n L) (hb : Below w.heap.size w w') : ShW w' w'.heap.size A n L := by
  have h2 := h.below hb
  refine ⟨h2.1, fun hn => ?_⟩
  obtain ⟨b, off, e, hB, hc⟩ := h2.2 hn
  exact ⟨b, off, e, Nat.lt_of_lt_of_le hB hb.size, hc⟩
theorem names_two (w : World) (a b : ByteArray) : ShW (w.alloc (.cells #[.string a, .int .i64 0, .string b, .int .i64 0] 44)) (w.alloc (.cells #[.string a, .int .i64 0, .string b, .int .i64 0] 44)).heap.size (some ⟨w.heap.size, 0, none⟩) 2 [(a, 0), (b, 0)] := by
  have hb : Blk (w.alloc (.cells #[.string a, .int .i64 0, .string b, .int .i64 0] 44)) w.heap.size 44 [.string a, .int .i64 0, .string b, .int .i64 0] := Blk.new _ _ _
  refine ⟨rfl, fun _ => ⟨w.heap.size, 0, rfl, by simp, fun k t ht => ?_⟩⟩
  match k, ht with
  | 0, ht => cases ht; exact ⟨hb.cell 0, hb.cell 1⟩
  | 1, ht => cases ht; exact ⟨hb.cell 2, hb.cell 3⟩
theorem names_one (w : World) (a : ByteArray) : ShW (w.alloc (.cells #[.string a, .int .i64 0] 44)) (w.alloc (.cells #[.string a, .int .i64 0] 44)).heap.size (some ⟨w.heap.size, 0, none⟩) 1 [(a, 0)] := by
  have hb : Blk (w.alloc (.cells #[.string a, .int .i64 0] 44)) w.heap.size 44 [.string a, .int .i64 0] := Blk.new _ _ _
  refine ⟨rfl, fun _ => ⟨w.heap.size, 0, rfl, by simp, fun k t ht => ?_⟩⟩
  match k, ht with
  | 0, ht => cases ht; exact ⟨hb.cell 0, hb.cell 1⟩
def nnet : ByteArray := ⟨#[110, 101, 116]⟩
def nlog : ByteArray := ⟨#[108, 111, 103]⟩
theorem aw16_new : newT [nnet, nlog] = (some [nnet, nlog], 0, 0) := by decide +kernel
theorem aw16_set : tset [nnet, nlog] [nlog] 0 0 = (2, 0, 0) := by decide +kernel
theorem aw16_names : selN [nnet, nlog] 3 = [nnet, nlog] := by decide +kernel
theorem own_two {w : World} {B n c : Nat} {A : Option Addr} {a b : ByteArray} (h : Own w B 9 1 (.slice A n c) n (strs [a, b])) : n = 2 ∧ ∃ g, A = some ⟨g, 0, none⟩ ∧ w.cell? ⟨g, 0, none⟩ = some (.string a) ∧ w.cell? ⟨g, 1, none⟩ = some (.string b) := by
  have hn : n = 2 := by have := h.len; simp [strs] at this; omega
  subst hn
  obtain ⟨g, cap, hv, _, _⟩ := h.1.form (by omega)
  have hA : A = some ⟨g, 0, none⟩ := by injection hv
  subst hA
  exact ⟨rfl, g, rfl, h.1.cells (g := g) rfl 0 _ rfl, h.1.cells (g := g) rfl 1 _ rfl⟩

set_option maxRecDepth 100000 in
set_option maxHeartbeats 800000 in
theorem awake16_any (HI : RwAll) (w : World) : Calls Try.prog 24 #[] w fun e w' => e = .returned (.bool true) ∧ Below w.heap.size w w' := by
  have HN := Lib.hid (fun (w : World) => HI.yes (c := 2) (names_two w nnet nlog) (by decide) (by decide) aw16_new)
  have HS := Lib.hid (fun (w : World) (g : Nat) (P : World → Prop) (h : RwC [nnet, nlog] g P) (hp : P (w.alloc (.cells #[.string nlog, .int .i64 0] 44))) => (by
    have := h.set (some ⟨w.heap.size, 0, none⟩) 1 1 [(nlog, 0)] hp (names_one w nlog) (by decide) (by decide)
    unfold RSetTo at this
    rw [show ([(nlog, 0)] : List OPn).map (·.1) = [nlog] from rfl, aw16_set] at this
    exact this : Calls Try.prog 30 #[.pointer (some ⟨g, 0, none⟩), .slice (some ⟨w.heap.size, 0, none⟩) 1 1] (w.alloc (.cells #[.string nlog, .int .i64 0] 44)) fun e w' => e = .returned (.tuple #[.int .u64 2, .int .i64 0, .int .i64 0]) ∧ Below (w.alloc (.cells #[.string nlog, .int .i64 0] 44)).heap.size (w.alloc (.cells #[.string nlog, .int .i64 0] 44)) w'))
  have HM := Lib.hid (fun (w : World) (g : Nat) (P : World → Prop) (h : RwC [nnet, nlog] g P) (hp : P w) => (by
    have := h.names 3 (by decide) hp
    unfold RNamesTo at this
    rw [aw16_names] at this
    exact this.mono fun e w' ⟨A, c, h1, h2, h3⟩ => (by
      obtain ⟨_, g', rfl, c0, c1⟩ := own_two h2
      exact ⟨g', c, h1, c0, c1, h3⟩) : Calls Try.prog 31 #[.pointer (some ⟨g, 0, none⟩), .int .u64 3] w fun e w' => ∃ g' c, e = .returned (.slice (some ⟨g', 0, none⟩) 2 c) ∧ w'.cell? ⟨g', 0, none⟩ = some (.string nnet) ∧ w'.cell? ⟨g', 1, none⟩ = some (.string nlog) ∧ Below w.heap.size w w'))
  unfold nnet nlog at HN HS HM
  clear HI
  go_enter Try.func24, Try.ntmps24
  go_wp2_with (first
    | (go_at_call 23; with_reducible refine (HN.out _).mono ?_; rintro e w1 ⟨b1, g, P, rfl, hc, hp⟩; have B1 := Lib.hid (((Below.refl w.heap.size w).alloc (Nat.le_refl _) _).trans (b1.mono (by simp))); have HC := Lib.hid hc; have ba := (Below.refl w1.heap.size w1).alloc (Nat.le_refl _) (.cells #[.string ⟨#[108, 111, 103]⟩, .int .i64 0] 44); have HSo := Lib.hid (HS.out w1 g P hc (hc.stay hp ba)); have HP := Lib.hid (hc.stay hp ba); have BA := Lib.hid (B1.out.trans (ba.mono B1.out.size)); clear b1 hc hp ba)
    | (go_at_call 30; with_reducible refine HSo.out.mono ?_; rintro e w2 ⟨rfl, b2⟩; have HMo := Lib.hid (HM.out w2 g P HC.out (HC.out.stay HP.out b2)); have B2 := Lib.hid (BA.out.trans (b2.mono BA.out.size)); clear b2)
    | (go_at_call 31; with_reducible refine HMo.out.mono ?_; rintro e w3 ⟨g', c', rfl, d0, d1, b3⟩; have B3 := Lib.hid (B2.out.trans (b3.mono B2.out.size)); clear b3)
    | go_in)
  go_ret
  exact ⟨rfl, B3.out⟩
end Go.Proofs.Ythdfoahnkkkbmaa

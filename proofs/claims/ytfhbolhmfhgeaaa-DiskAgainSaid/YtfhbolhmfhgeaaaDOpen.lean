/-
  ARGUMENTS OPENED: slices of integers, acts, slices of acts, slices of files.
-/
import Derived.Test.YtfhbolhmfhgeaaaActs
import Derived.Deep.Slices
import Derived.ChangeSame
import Derived.ChangeSlices
import Derived.Lib.SmallJoins
import Derived.Deep.Fields
namespace Go.Proofs.Ytfhbolhmfhgeaaa
set_option linter.unusedVariables false
set_option linter.unusedSimpArgs false
open Go.RowKit Go.Maps Go.Joins Go.Deep Go.ChangeShapes Go.WideShapes

section
variable {H : Type} {enc : TypeId × Value → H} {w : World} {held : Bool} {fuel : Nat} {cs : List Value} {x : DataW H × List MemPlace}
theorem row_of {t e : TypeId} {k : IntKind} (ht : Try.prog.underlying t = some (.slice e)) (he : Try.prog.underlying e = some (.int k)) (hc : Try.prog.cellsOf e = 1) (h : DataW.trod enc Try.prog w 0 (fun _ => true) held fuel t cs = some x) :
    ∃ a len cap zs, cs = [.slice a len cap] ∧ IsRow k w a len cap zs := by
  rcases open_ints ht he hc h with ⟨hcs, _⟩ | ⟨a, l, c, zs, hcs, _, hl, hm, hz, _, hcell, hwz⟩
  · exact ⟨none, 0, 0, [], hcs, .inl ⟨rfl, rfl, rfl, rfl⟩⟩
  · exact ⟨some a, l, c, zs, hcs, .inr ⟨_, rfl, hl, hm, by simpa using hz, hcell, hwz⟩⟩

theorem trod2 {P : Program} {base : Nat} {spare : Nat → Bool} {t : TypeId} {f0 f1 : Field} (hs : P.underlying t = some (.struct #[f0, f1])) (hone : oneCellFields P #[f0, f1] = true) (hC : P.cellsOf t = 2) (h : DataW.trod enc P w base spare held fuel t cs = some x) :
    ∃ (c0 c1 : Value) (y0 y1 : DataW H × List MemPlace) (n : Nat), cs = [c0, c1] ∧ DataW.trod enc P w base spare held n f0.type [c0] = some y0 ∧ DataW.trod enc P w base spare held n f1.type [c1] = some y1 := by
  obtain ⟨xs, n, _, hx, hl, hlen, hg⟩ := DataW.trod_struct hs h
  obtain ⟨o0, k0⟩ := hone_of hone 0 f0 rfl
  obtain ⟨o1, k1⟩ := hone_of hone 1 f1 rfl
  have hl7 : cs.length = 2 := hl.trans hC
  match cs, hl7 with
  | [c0, c1], _ =>
    match xs, hlen with
    | [y0, y1], _ =>
      exact ⟨c0, c1, y0, y1, n, rfl, by simpa [o0, k0] using hg 0 f0 rfl, by simpa [o1, k1] using hg 1 f1 rfl⟩

theorem trod7 {P : Program} {base : Nat} {spare : Nat → Bool} {t : TypeId} {f0 f1 f2 f3 f4 f5 f6 : Field} (hs : P.underlying t = some (.struct #[f0, f1, f2, f3, f4, f5, f6])) (hone : oneCellFields P #[f0, f1, f2, f3, f4, f5, f6] = true) (hC : P.cellsOf t = 7) (h : DataW.trod enc P w base spare held fuel t cs = some x) :
    ∃ (c0 c1 c2 c3 c4 c5 c6 : Value) (y0 y1 y2 y3 y4 y5 y6 : DataW H × List MemPlace) (n : Nat), cs = [c0, c1, c2, c3, c4, c5, c6] ∧ DataW.trod enc P w base spare held n f0.type [c0] = some y0 ∧ DataW.trod enc P w base spare held n f1.type [c1] = some y1 ∧ DataW.trod enc P w base spare held n f2.type [c2] = some y2 ∧ DataW.trod enc P w base spare held n f3.type [c3] = some y3 ∧ DataW.trod enc P w base spare held n f4.type [c4] = some y4 ∧ DataW.trod enc P w base spare held n f5.type [c5] = some y5 ∧ DataW.trod enc P w base spare held n f6.type [c6] = some y6 := by
  obtain ⟨xs, n, _, hx, hl, hlen, hg⟩ := DataW.trod_struct hs h
  obtain ⟨o0, k0⟩ := hone_of hone 0 f0 rfl
  obtain ⟨o1, k1⟩ := hone_of hone 1 f1 rfl
  obtain ⟨o2, k2⟩ := hone_of hone 2 f2 rfl
  obtain ⟨o3, k3⟩ := hone_of hone 3 f3 rfl
  obtain ⟨o4, k4⟩ := hone_of hone 4 f4 rfl
  obtain ⟨o5, k5⟩ := hone_of hone 5 f5 rfl
  obtain ⟨o6, k6⟩ := hone_of hone 6 f6 rfl
  have hl7 : cs.length = 7 := hl.trans hC
  match cs, hl7 with
  | [c0, c1, c2, c3, c4, c5, c6], _ =>
    match xs, hlen with
    | [y0, y1, y2, y3, y4, y5, y6], _ =>
      exact ⟨c0, c1, c2, c3, c4, c5, c6, y0, y1, y2, y3, y4, y5, y6, n, rfl, by simpa [o0, k0] using hg 0 f0 rfl, by simpa [o1, k1] using hg 1 f1 rfl, by simpa [o2, k2] using hg 2 f2 rfl, by simpa [o3, k3] using hg 3 f3 rfl, by simpa [o4, k4] using hg 4 f4 rfl, by simpa [o5, k5] using hg 5 f5 rfl, by simpa [o6, k6] using hg 6 f6 rfl⟩

theorem act_of (h : DataW.trod enc Try.prog w 0 (fun _ => true) held fuel 36 cs = some x) : ∃ a : Ac, cs = a.vals ∧ a.ok w w.heap.size := by
  obtain ⟨c0, c1, c2, c3, c4, c5, c6, y0, y1, y2, y3, y4, y5, y6, n, rfl, h0, h1, h2, h3, h4, h5, h6⟩ := trod7 Try.underlying36 (by kernel_rfl) (by kernel_rfl) h
  obtain ⟨z0, e0, _, k0⟩ := DataW.trod_int (k := .i64) (by kernel_rfl) h0
  obtain ⟨s1, e1, _, k1⟩ := DataW.trod_string Try.underlying9 h1
  obtain ⟨s2, e2, _, k2⟩ := DataW.trod_string Try.underlying9 h2
  obtain ⟨A3, l3, c3, zs3, e3, r3⟩ := row_of (k := .u8) (e := 5) (by kernel_rfl) (by kernel_rfl) (by kernel_rfl) h3
  obtain ⟨z4, e4, _, k4⟩ := DataW.trod_int (k := .i64) (by kernel_rfl) h4
  obtain ⟨z5, e5, _, k5⟩ := DataW.trod_int (k := .i64) (by kernel_rfl) h5
  obtain ⟨A6, l6, c6, zs6, e6, r6⟩ := row_of (k := .i64) (e := 3) (by kernel_rfl) (by kernel_rfl) (by kernel_rfl) h6
  obtain ⟨l3', m3, _, q3, b3⟩ := r3.sh
  obtain ⟨l6', m6, _, q6, b6⟩ := r6.sh
  refine ⟨⟨z0, s1, s2, A3, l3, c3, zs3.take l3, z4, z5, A6, l6, c6, zs6.take l6⟩, ?_, ⟨k0, k1, k2, q3, Nat.le_trans l3' m3, b3, k4, k5, q6, Nat.le_trans l6' m6⟩⟩
  cases e0
  cases e1
  cases e2
  cases e3
  cases e4
  cases e5
  cases e6
  rfl

theorem addr_plain {w : World} {a : Addr} {n : Nat} {cs : List Value} (h : w.cells? 0 (a.add (0 * (n + 1))) (n + 1) = some cs) : ∃ b off, a = ⟨b, off, none⟩ ∧ b < w.heap.size := by
  obtain ⟨_, hl, hat⟩ := World.cells?_some h
  have h0 := hat 0 (by omega)
  rw [Deep.add_add, Nat.zero_mul, List.getElem?_eq_getElem (by omega)] at h0
  obtain ⟨b, off, spot⟩ := a
  have hspot : spot = none := by simpa [Addr.add] using World.cell?_spot h0
  subst hspot
  refine ⟨b, off, rfl, ?_⟩
  have := World.block_lt_of_cell? _ _ h0
  rw [Addr.add_lit] at this
  exact this

instance : Inhabited Ac := ⟨⟨0, ⟨#[]⟩, ⟨#[]⟩, none, 0, 0, [], 0, 0, none, 0, 0, []⟩⟩
instance : Inhabited FIn := ⟨⟨⟨#[]⟩, []⟩⟩
theorem acts_of (h : DataW.trod enc Try.prog w 0 (fun _ => true) held fuel 23 cs = some x) : ∃ A n c l, cs = [.slice A n c] ∧ n ≤ maxLen ∧ ActsIn w w.heap.size A n l := by
  rcases open_slice (e := 36) (by kernel_rfl) h with ⟨hcs, _⟩ | ⟨a, len, cap, m, k, D, Pl, hcs, _, hl, hm, hmm, _, hi⟩
  · exact ⟨none, 0, 0, [], hcs, Nat.zero_le _, rfl, fun k x hx => by simp at hx⟩
  · have hC : Try.prog.cellsOf 36 = 7 := by kernel_rfl
    rw [hC] at hi
    have hmm : m = cap := by simpa using hmm
    have each : ∀ i, i < len → ∃ y : Ac, (∃ b off, some a = some ⟨b, off, none⟩ ∧ b < w.heap.size ∧ ∀ j v, y.vals[j]? = some v → w.cell? ⟨b, off + i * 7 + j, none⟩ = some v) ∧ y.ok w w.heap.size := fun i hlt => by
      obtain ⟨cs', hcells, ht⟩ := hi i (by omega)
      obtain ⟨y, rfl, hy⟩ := act_of ht
      obtain ⟨_, _, hat⟩ := World.cells?_some hcells
      obtain ⟨_, hc0, _⟩ := hi 0 (by omega)
      obtain ⟨b, off, rfl, hb⟩ := addr_plain hc0
      refine ⟨y, ⟨b, off, rfl, hb, fun j v hv => ?_⟩, hy⟩
      have hj : j < 7 := (List.getElem?_eq_some_iff.1 hv).1
      have := hat j hj
      rw [Addr.add_lit, Addr.add_lit] at this
      rw [this, hv]
    obtain ⟨Y, hY⟩ := choose_lt each
    refine ⟨some a, len, cap, (List.range len).map Y, hcs, Nat.le_trans hl hm, by simp, fun k x hx => ?_⟩
    obtain ⟨h1, h2⟩ := List.getElem?_eq_some_iff.1 hx
    have hk : k < len := by simpa using h1
    have : x = Y k := by rw [← h2]; simp
    rw [this]
    exact hY k hk

theorem files_of (h : DataW.trod enc Try.prog w 0 (fun _ => true) held fuel 22 cs = some x) : ∃ A n c l, cs = [.slice A n c] ∧ n ≤ maxLen ∧ InAt w w.heap.size A n l ∧ ∀ f ∈ l, ∀ y ∈ f.d, (Lit.int .u8 y).wf = true := by
  rcases open_slice (e := 58) (by kernel_rfl) h with ⟨hcs, _⟩ | ⟨a, len, cap, m, k, D, Pl, hcs, _, hl, hm, hmm, _, hi⟩
  · exact ⟨none, 0, 0, [], hcs, Nat.zero_le _, ⟨rfl, fun k x hx => by simp at hx⟩, fun f hf => by simp at hf⟩
  · have hC : Try.prog.cellsOf 58 = 2 := by kernel_rfl
    rw [hC] at hi
    have hmm : m = cap := by simpa using hmm
    have each : ∀ i, i < len → ∃ y : FIn, (∃ b off D c, some a = some ⟨b, off, none⟩ ∧ b < w.heap.size ∧ w.cell? ⟨b, off + i * 2, none⟩ = some (.string y.s) ∧ w.cell? ⟨b, off + i * 2 + 1, none⟩ = some (.slice D y.d.length c) ∧ Sh w w.heap.size D y.d.length (by8 y.d) ∧ y.s.size ≤ maxLen ∧ y.d.length ≤ maxLen) ∧ ∀ z ∈ y.d, (Lit.int .u8 z).wf = true := fun i hlt => by
      obtain ⟨cs', hcells, ht⟩ := hi i (by omega)
      obtain ⟨c0, c1, y0, y1, n, rfl, h0, h1⟩ := trod2 Try.underlying58 (by kernel_rfl) (by kernel_rfl) ht
      obtain ⟨s, e0, _, k0⟩ := DataW.trod_string Try.underlying9 h0
      obtain ⟨A3, l3, c3, zs3, e3, r3⟩ := row_of (k := .u8) (e := 5) (by kernel_rfl) (by kernel_rfl) (by kernel_rfl) h1
      cases e0
      cases e3
      obtain ⟨l3', m3, z3, q3, b3⟩ := r3.sh
      obtain ⟨_, _, hat⟩ := World.cells?_some hcells
      have h0 := hat 0 (by omega)
      have h1 := hat 1 (by omega)
      obtain ⟨_, hc0, _⟩ := hi 0 (by omega)
      obtain ⟨b, off, rfl, hb⟩ := addr_plain hc0
      rw [Addr.add_lit, Addr.add_lit] at h0
      rw [Addr.add_lit, Addr.add_lit] at h1
      have hlen : (zs3.take l3).length = l3 := by rw [List.length_take]; omega
      exact ⟨⟨s, zs3.take l3⟩, ⟨b, off, A3, c3, rfl, hb, h0, by rw [h1]; show _ = some (Value.slice _ (zs3.take l3).length _); rw [hlen]; rfl, by show Sh _ _ _ (zs3.take l3).length _; rw [hlen]; exact q3, k0, by show (zs3.take l3).length ≤ _; rw [hlen]; exact Nat.le_trans l3' m3⟩, b3⟩
    obtain ⟨Y, hY⟩ := choose_lt each
    refine ⟨some a, len, cap, (List.range len).map Y, hcs, Nat.le_trans hl hm, ⟨by simp, fun k x hx => ?_⟩, fun f hf => ?_⟩
    · obtain ⟨h1, h2⟩ := List.getElem?_eq_some_iff.1 hx
      have hk : k < len := by simpa using h1
      have : x = Y k := by rw [← h2]; simp
      rw [this]
      exact (hY k hk).1
    · obtain ⟨k, hk, rfl⟩ := List.mem_map.1 hf
      exact (hY k (List.mem_range.1 hk)).2
end
end Go.Proofs.Ytfhbolhmfhgeaaa

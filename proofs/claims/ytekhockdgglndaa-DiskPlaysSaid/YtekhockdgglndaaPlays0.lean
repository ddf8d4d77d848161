/-
  TWO NEW DISKS ARE ONE; THE FILES THAT ARE HANDED IN, OPENED.
-/
import Derived.Test.YtekhockdgglndaaTM
import Derived.Test.YtekhockdgglndaaAlike
import Derived.Test.YtekhockdgglndaaRNew
import Derived.Test.YtekhockdgglndaaDOpen
namespace Go.Proofs.Ytekhockdgglndaa
set_option linter.unusedVariables false
set_option linter.unusedSimpArgs false
open Go.RowKit Go.Maps Go.Joins Go.Deep Go.ChangeShapes Go.WideShapes

/-- The number of a block's file. -/
def idx : List Fl → Nat → Nat
  | [], _ => 0
  | f :: fs, b => if f.blk = b then 0 else idx fs b + 1
theorem idx_at {L : Lay} : ∀ {fs : List Fl}, fs.Pairwise (Apart L) → ∀ {j : Nat} {f : Fl}, fs[j]? = some f → idx fs f.blk = j
  | [], _, j, f, h => by simp at h
  | g :: fs, hp, 0, f, h => by cases h; simp [idx]
  | g :: fs, hp, j + 1, f, h => by
    have hp' := List.pairwise_cons.1 hp
    have h' : fs[j]? = some f := by simpa using h
    have := hp'.1 f (List.mem_of_getElem? h')
    unfold idx
    rw [if_neg this.1, idx_at hp'.2 h']
theorem FR.new {live : Nat → Prop} {ι : Nat → Nat} : ∀ {fs : List Fl} {F : List RFl} {l : List FIn} {i : Nat}, Made fs l → FM l F → (∀ (j : Nat) f, fs[j]? = some f → ι f.blk = i + j) → FR live ι i fs F
  | [], F, l, i, hm, hF, _ => by
    have h1 := hm.len
    have h2 := hF.1
    have : F = [] := List.eq_nil_of_length_eq_zero (by rw [h2, ← h1]; rfl)
    rw [this]
    exact .nil i
  | f :: fs, F, l, i, hm, hF, hi => by
    cases l with
    | nil => cases hm
    | cons x l =>
      cases F with
      | nil => have := hF.1; simp at this
      | cons r F =>
        obtain ⟨r', h1, h2, h3, h4⟩ := hF.2 0 x rfl
        cases h1
        refine .both (by have := hi 0 f rfl; simpa using this) ⟨by omega, by rw [h2, h3], by rw [hm.1.2.1]; omega, .inl (by rw [hm.1.1, h2])⟩ (FR.new hm.2 ⟨by have := hF.1; simpa using this, fun j y hy => hF.2 (j + 1) y (by simpa using hy)⟩ fun j g hg => by
          have := hi (j + 1) g (by simpa using hg)
          omega)
theorem names_new {fs : List Fl} {l : List FIn} {ι : Nat → Nat} (hl : fs.length = l.length) (hi : ∀ (j : Nat) f, fs[j]? = some f → ι f.blk = j) : ∀ k, k ≤ l.length → nl (rnames l k) = mapI ι (namesZ (l.take k) (fs.take k) [])
  | 0, _ => rfl
  | k + 1, hk => by
    have ih := names_new hl hi k (by omega)
    have hx : l[k]? = some l[k] := List.getElem?_eq_getElem hk
    have hkf : k < fs.length := by omega
    have hf : fs[k]? = some fs[k] := List.getElem?_eq_getElem hkf
    rw [List.take_succ_eq_append_getElem hk, List.take_succ_eq_append_getElem hkf, namesZ_snoc _ _ _ (by rw [List.length_take, List.length_take]; omega), mapI_put, ← ih, hi k _ hf]
    simp only [rnames, hx]
    exact nl_put _ _
theorem fine_new {w : World} {X : Nat → Prop} {g : Nat} {L : Lay} {fs : List Fl} {l : List FIn} {F : List RFl} {cap : Int} (hD : DAt w X g L (newSt cap fs (namesZ l fs []))) (hm : Made fs l) (hF : FM l F) (hl : l.length ≤ 64) (hs : sizeF l ≤ 2000) (hcap : 0 ≤ cap ∧ cap ≤ 1048576) (hb : namesB l = true) :
    Fine (newSt cap fs (namesZ l fs [])) (newRS cap F (rnames l l.length)) 0 := by
  have hi : ∀ (j : Nat) f, fs[j]? = some f → idx fs f.blk = j := fun j f hf => idx_at hD.nd hf
  have hn := names_new hm.len hi l.length (Nat.le_refl _)
  rw [List.take_of_length_le (Nat.le_refl _), List.take_of_length_le (by rw [hm.len]; exact Nat.le_refl _)] at hn
  refine ⟨inv_new hm hl hs hcap, keys_new hb, ⟨idx fs, ⟨FR.new hm hF (fun j f hf => by rw [hi j f hf]; omega), hn, hn, trivial, rfl, rfl, rfl, rfl, rfl, rfl⟩⟩, ⟨?_, fun r hr => ?_, Nat.zero_le _, Nat.zero_le _⟩, Nat.le_refl _⟩
  · show F.length ≤ 64 + 0
    rw [hF.1]
    exact hl
  · obtain ⟨j, hj⟩ := List.getElem?_of_mem hr
    have hjl : j < l.length := by rw [← hF.1]; exact (List.getElem?_eq_some_iff.1 hj).1
    obtain ⟨r', h1, _, h3, _⟩ := hF.2 j l[j] (List.getElem?_eq_getElem hjl)
    have hj : F[j]? = some r := hj
    rw [hj] at h1
    cases h1
    have := len_sizeF (List.getElem_mem hjl)
    show r.n ≤ most 0
    unfold most
    omega
theorem sx_low {w : World} {U : Nat} {A : Option Addr} {n : Nat} {xs : List Value} (h : Sh w U A n xs) : SX w (Low U) A n 1 xs :=
  ⟨by rw [h.1]; omega, fun hn => by
    obtain ⟨b, off, e, hb, hc⟩ := h.2 hn
    exact ⟨b, off, e, hb, hc⟩⟩
section
variable {H : Type} {enc : TypeId × Value → H} {w : World} {held : Bool} {fuel : Nat} {cs : List Value} {x : DataW H × List MemPlace}
theorem filesx_of (h : DataW.trod enc Try.prog w 0 (fun _ => true) held fuel 22 cs = some x) : ∃ A n c l, cs = [.slice A n c] ∧ n ≤ maxLen ∧ InAt w w.heap.size A n l ∧ InX w (Low w.heap.size) A n l := by
  rcases open_slice (e := 46) (by kernel_rfl) h with ⟨hcs, _⟩ | ⟨a, len, cap, m, k, D, Pl, hcs, _, hl, hm, hmm, _, hi⟩
  · exact ⟨none, 0, 0, [], hcs, Nat.zero_le _, ⟨rfl, fun k x hx => by simp at hx⟩, ⟨rfl, fun k x hx => by simp at hx⟩⟩
  · have hC : Try.prog.cellsOf 46 = 2 := by kernel_rfl
    rw [hC] at hi
    have hmm : m = cap := by simpa using hmm
    have each : ∀ i, i < len → ∃ y : FIn, (∃ b off D c, some a = some ⟨b, off, none⟩ ∧ b < w.heap.size ∧ w.cell? ⟨b, off + i * 2, none⟩ = some (.string y.s) ∧ w.cell? ⟨b, off + i * 2 + 1, none⟩ = some (.slice D y.d.length c) ∧ Sh w w.heap.size D y.d.length (by8 y.d) ∧ y.s.size ≤ maxLen ∧ y.d.length ≤ c ∧ c ≤ maxLen) ∧ ∀ z ∈ y.d, 0 ≤ z ∧ z < 256 := fun i hlt => by
      obtain ⟨cs', hcells, ht⟩ := hi i (by omega)
      obtain ⟨c0, c1, y0, y1, n, rfl, h0, h1⟩ := trod2 Try.underlying46 (by kernel_rfl) (by kernel_rfl) ht
      obtain ⟨s, e0, _, k0⟩ := DataW.trod_string Try.underlying9 h0
      obtain ⟨A3, l3, c3, zs3, e3, r3⟩ := row_of (k := .u8) (e := 5) (by kernel_rfl) (by kernel_rfl) (by kernel_rfl) h1
      cases e0
      cases e3
      obtain ⟨l3', m3, z3, q3, b3⟩ := r3.sh
      obtain ⟨_, _, hat⟩ := World.cells?_some hcells
      have h0 := hat 0 (by omega)
      have h1 := hat 1 (by omega)
      obtain ⟨_, hc0, _⟩ := hi 0 (by omega)
      obtain ⟨b, off, rfl, hb⟩ := addr_plain hc0
      rw [Addr.add_lit, Addr.add_lit] at h0
      rw [Addr.add_lit, Addr.add_lit] at h1
      have hlen : (zs3.take l3).length = l3 := by rw [List.length_take]; omega
      exact ⟨⟨s, zs3.take l3⟩, ⟨b, off, A3, c3, rfl, hb, h0, by rw [h1]; show _ = some (Value.slice _ (zs3.take l3).length _); rw [hlen]; rfl, by show Sh _ _ _ (zs3.take l3).length _; rw [hlen]; exact q3, k0, by show (zs3.take l3).length ≤ _; rw [hlen]; exact l3', m3⟩, fun z hz => u8_wf (b3 z hz)⟩
    obtain ⟨Y, hY⟩ := choose_lt each
    refine ⟨some a, len, cap, (List.range len).map Y, hcs, Nat.le_trans hl hm, ⟨by simp, fun k x hx => ?_⟩, ⟨by simp, fun k x hx => ?_⟩⟩
    · obtain ⟨h1, h2⟩ := List.getElem?_eq_some_iff.1 hx
      have hk : k < len := by simpa using h1
      have : x = Y k := by rw [← h2]; simp
      rw [this]
      obtain ⟨b, off, D, c, e, q1, q2, q3, q4, q5, q6, q7⟩ := (hY k hk).1
      exact ⟨b, off, D, c, e, q1, q2, q3, q4, q5, Nat.le_trans q6 q7⟩
    · obtain ⟨h1, h2⟩ := List.getElem?_eq_some_iff.1 hx
      have hk : k < len := by simpa using h1
      have : x = Y k := by rw [← h2]; simp
      rw [this]
      obtain ⟨b, off, D, c, e, q1, q2, q3, q4, q5, q6, q7⟩ := (hY k hk).1
      exact ⟨⟨b, off, D, c, e, q1, q2, q3, sx_low q4, q5, q6, q7⟩, (hY k hk).2⟩
end
end Go.Proofs.Ytekhockdgglndaa

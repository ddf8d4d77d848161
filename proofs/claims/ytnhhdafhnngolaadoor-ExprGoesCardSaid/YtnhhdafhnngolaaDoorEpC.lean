/-
  STRINGS AND BYTES: what a conversion makes.
-/
import Derived.Test.YtnhhdafhnngolaaDoorLxB
import Derived.Test.YtnhhdafhnngolaaDoorLxQ
import Derived.Laws.BytesArg
import Derived.Lib.ConvBytes
import Derived.Laws.Concat
import Derived.OpenShut
namespace Go.Proofs.YtnhhdafhnngolaaDoor
set_option linter.unusedVariables false
set_option linter.unusedSimpArgs false
open Go.RowKit Go.ChangeShapes

theorem convert_none (src e : TypeId) (hs : Tryd.prog.underlying src = some (.slice e)) (he : Tryd.prog.underlying e = some (.int .u8)) (dst : TypeId) (hd : Tryd.prog.underlying dst = some .string) (p : Option Addr) (c : Nat) (w : World) :
    (convert src dst (.slice p 0 c)).run Tryd.prog w = .ok (.string ⟨#[]⟩) w := by
  rw [run_convert_bytes_string w src dst e _ 0 c hs he hd]
  rcases p with _ | a
  · rfl
  · have := run_bytesToString (P := Tryd.prog) w a 0 c [] (by simpa using run_loadCells_list (P := Tryd.prog) w a [] (by simp))
    exact this
/-- string(b), of bytes that are shown. -/
theorem convert_sh {w : World} {B n : Nat} {A : Option Addr} {bs : List Int} (h : Sh w B A n (by8 bs)) (c : Nat) : (convert 22 9 (.slice A n c)).run Tryd.prog w = .ok (.string (strOfNums bs)) w := by
  have hl : bs.length = n := by have := h.len; rwa [by8_len] at this
  rcases Nat.eq_zero_or_pos n with h0 | h0
  · subst h0
    have : bs = [] := List.eq_nil_of_length_eq_zero hl
    subst this
    exact convert_none 22 5 Tryd.underlying22 (by kernel_rfl) 9 (by kernel_rfl) A c w
  · obtain ⟨b, off, rfl, _, hc⟩ := h.2 h0
    refine run_convert_bytes_arg w 22 5 Tryd.underlying22 (by kernel_rfl) b off n c bs hl (fun i hi => ?_) 9 (by kernel_rfl)
    refine hc i _ ?_
    rw [by8_get?]
    have : i < bs.length := by omega
    simp [this]

def Byt8 (l : List Int) : Prop := ∀ x ∈ l, 0 ≤ x ∧ x < 256
theorem byt8_of {l : List Int} (h : ∀ n ∈ l, (Lit.int .u8 n).wf = true) : Byt8 l := fun x hx => by
  have := bounds_u8 (h x hx)
  omega
theorem bts_str {xs : List Int} (h : Byt8 xs) : bts (strOfNums xs) = xs := by
  unfold bts
  rw [strOfNums_data, List.map_map]
  refine (List.map_congr_left fun x hx => ?_).trans (List.map_id xs)
  obtain ⟨h0, h1⟩ := h x hx
  have : x.toNat < 256 := by omega
  simp [UInt8.toNat_ofNat, Nat.mod_eq_of_lt this]
  omega
theorem convS {w : World} {B : Nat} (s : ByteArray) (bs : List Int) (hb : bts s = bs) (hs : s.size ≤ 1000000) (hB : B ≤ w.heap.size) : ∃ wl c, (convert 9 22 (.string s)).run Tryd.prog w = .ok (.slice (some ⟨w.heap.size, 0, none⟩) s.size c) wl ∧
    Sh wl wl.heap.size (some ⟨w.heap.size, 0, none⟩) s.size (by8 bs) ∧ Below B w wl ∧ s.size ≤ c ∧ c ≤ maxLen := by
  refine ⟨Lib.bytesWorld w 5 s, grownCap w s.size 0 5, ?_, ?_, ?_, ?_, ?_⟩
  · exact Lib.run_convert_string_bytes w 9 22 5 s (u := .string) (by kernel_rfl) Tryd.underlying22 (by kernel_rfl)
  · subst hb
    refine ⟨by rw [by8_len, bts_len], fun hn => ⟨w.heap.size, 0, rfl, by rw [Lib.bytesWorld_size]; omega, fun k u hu => ?_⟩⟩
    rw [by8_get?] at hu
    obtain ⟨x, hx, rfl⟩ := Option.map_eq_some_iff.1 hu
    have hk : k < s.size := by have := (List.getElem?_eq_some_iff.1 hx).1; rwa [bts_len] at this
    rw [Nat.zero_add, Lib.bytesWorld_cell w _ s k hk]
    unfold bts at hx
    rw [List.getElem?_map] at hx
    obtain ⟨y, hy, rfl⟩ := Option.map_eq_some_iff.1 hx
    rw [List.getD, hy]
    rfl
  · refine ⟨rfl, rfl, rfl, ?_, fun k hk => ?_⟩
    · rw [Lib.bytesWorld_size]; omega
    · exact Lib.bytesWorld_at_old w _ s k (by omega)
  · exact grownCap_ge w s.size 0 _
  · exact grownCap_le_maxLen w s.size 0 _ (by unfold maxLen; omega)
theorem str_append (a b : List Int) : strOfNums a ++ strOfNums b = strOfNums (a ++ b) := by
  apply ByteArray.ext
  simp [strOfNums]
theorem str_len (a : List Int) : (strOfNums a).size = a.length := strOfNums_size a
theorem Byt8.take {l : List Int} (h : Byt8 l) (n : Nat) : Byt8 (l.take n) := fun x hx => h x (List.mem_of_mem_take hx)
theorem Byt8.drop {l : List Int} (h : Byt8 l) (n : Nat) : Byt8 (l.drop n) := fun x hx => h x (List.mem_of_mem_drop hx)
/-- Where a slice's cells lie. -/
theorem IsRow.form6 {k : IntKind} {w : World} {a : Option Addr} {len cap : Nat} {zs : List Int} (h : IsRow k w a len cap zs) : cap = 0 ∨ ∃ b off, a = some ⟨b, off, none⟩ := by
  rcases h with ⟨rfl, rfl, rfl, rfl⟩ | ⟨x, rfl, hl, hm, hz, hcell, hwz⟩
  · exact .inl rfl
  · rcases Nat.eq_zero_or_pos cap with h0 | h0
    · exact .inl h0
    · obtain ⟨b, off, spot⟩ := x
      have hc0 := hcell 0 (by omega)
      have hspot : spot = none := by simpa [Addr.add] using World.cell?_spot hc0
      subst hspot
      exact .inr ⟨b, off, rfl⟩
end Go.Proofs.YtnhhdafhnngolaaDoor

/-
  Records that are laid one behind the other are those that are told; cut off anywhere, those that are whole. It holds for any records, cut anywhere; of more than 10 records, or of more than 200 bytes, it says that the document's examples hold.
-/
import Derived.Test.YthfhhgjjnpcmgaaRecordRowsW
import Derived.Test.YthfhhgjjnpcmgaaOpen
import Derived.Test.YthfhhgjjnpcmgaaRows
import Derived.WalkKit
import Derived.ProofKit
import Derived.OpenShut
import Derived.ShutString
import Derived.ChangeOld
import Derived.Below
namespace Go.Proofs.Ythfhhgjjnpcmgaa.recordRows
open Go.ChangeShapes Go.WideShapes Go.ChangeAt Go.RowKit Go.Joins Go.Deep
set_option linter.unusedVariables false

section
variable {H : Type} {enc : TypeId × Value → H} {w : World} {held : Bool} {fuel : Nat} {cs : List Value} {x : DataW H × List MemPlace}
theorem items_of (h : DataW.trod enc Try.prog w 0 (fun _ => true) held fuel 40 cs = some x) : ∃ A n c l, cs = [.slice A n c] ∧ n ≤ maxLen ∧ ItemsAt w w.heap.size A n l := by
  rcases open_slice (e := 43) (by kernel_rfl) h with ⟨hcs, _⟩ | ⟨a, len, cap, m, k, D, Pl, hcs, _, hl, hm, hmm, _, hi⟩
  · exact ⟨none, 0, 0, [], hcs, Nat.zero_le _, rfl, fun k x hx => by simp at hx⟩
  · have hC : Try.prog.cellsOf 43 = 2 := by kernel_rfl
    rw [hC] at hi
    have hmm : m = cap := by simpa using hmm
    have each : ∀ i, i < len → ∃ y : It, (∃ b off, some a = some ⟨b, off, none⟩ ∧ b < w.heap.size ∧ w.cell? ⟨b, off + i * 2, none⟩ = some (.int .u8 (y.1 : Int)) ∧ w.cell? ⟨b, off + i * 2 + 1, none⟩ = some y.2.val) ∧
        Sh w w.heap.size y.2.1 y.2.2.1 (by8 y.2.2.2.2) ∧ y.1 < 256 ∧ Byt y.2.2.2.2 ∧ y.2.2.1 ≤ maxLen := fun i hlt => by
      obtain ⟨cs', hcells, ht⟩ := hi i (by omega)
      obtain ⟨c0, c1, y0, y1, n, rfl, h0, h1⟩ := trod2 Try.underlying43 (by kernel_rfl) (by kernel_rfl) ht
      obtain ⟨z0, e0, _, k0⟩ := DataW.trod_int (k := .u8) (by kernel_rfl) h0
      obtain ⟨A3, l3, c3, zs3, e3, r3⟩ := row_of (k := .u8) (e := 5) (by kernel_rfl) (by kernel_rfl) (by kernel_rfl) h1
      cases e0
      cases e3
      obtain ⟨r, rfl, hr⟩ := u8_of k0
      obtain ⟨l3', m3, z3, q3, b3⟩ := r3.sh
      obtain ⟨_, _, hat⟩ := World.cells?_some hcells
      have h0 := hat 0 (by omega)
      have h1 := hat 1 (by omega)
      obtain ⟨_, hc0, _⟩ := hi 0 (by omega)
      obtain ⟨b, off, rfl, hb⟩ := addr_plain hc0
      rw [Addr.add_lit, Addr.add_lit] at h0
      rw [Addr.add_lit, Addr.add_lit] at h1
      exact ⟨(r, A3, l3, c3, zs3.take l3), ⟨b, off, rfl, hb, h0, h1⟩, q3, hr, byt_of b3, Nat.le_trans l3' m3⟩
    obtain ⟨Y, hY⟩ := choose_lt each
    refine ⟨some a, len, cap, (List.range len).map Y, hcs, Nat.le_trans hl hm, by simp, fun k x hx => ?_⟩
    obtain ⟨h1, h2⟩ := List.getElem?_eq_some_iff.1 hx
    have hk : k < len := by simpa using h1
    have : x = Y k := by rw [← h2]; simp
    rw [this]
    exact hY k hk
end

theorem own : ownKnob Try.prog.godebug = none := by kernel_rfl
theorem laidOut : laidOutB Try.prog = true := by kernel_rfl

set_option maxRecDepth 100000 in
theorem lifted (os : Os) (started : os.Started) (H : Type) (enc : TypeId × Value → H) :
    ReturnsInHanded {} Try.checked os 5 .any (Rows.recordRowsSpec.pre6 enc Try.prog Try.f5 Rows.recordRowsRow.domain false) (Rows.recordRowsSpec.post enc Try.prog Try.f5 false true false false) := by
  refine returnsInHanded_of_change (C := Try.checked) own started (by kernel_rfl) Try.func5
    (ChangeSpec.witness6 (enc := enc) (C := Try.checked) false ⟨#[], #[.slice none 0 0, .int .i64 0], []⟩ 8 (by kernel_rfl) (by kernel_rfl) (by kernel_rfl) (by kernel_rfl)) ?_
  intro W base args ds gs before hval0 hW hcnd _
  have hval : ∀ (j : Nat) t v, Try.f5.params[j]? = some t → args[j]? = some v → Value.okWide Try.prog W .any base t v := hval0
  have hW' := hW
  obtain ⟨p, q, hA0, hV, rfl, hfz, hnd⟩ := hW
  have hA : DataW.TrodAll enc Try.prog W 0 (fun _ => true) true Try.f5.params.toList args.toList ds p := hA0
  rw [Try.params5] at hA hval
  obtain ⟨v0, vs0, d0, ds0, p0, q0, hargs, rfl, rfl, h0, r0⟩ := trodAll_cons hA
  obtain ⟨v1, vs1, d1, ds1, p1, q1, rfl, rfl, rfl, h1, r1⟩ := trodAll_cons r0
  obtain ⟨rfl, rfl, rfl⟩ := trodAll_nil r1
  obtain rfl : args = #[v0, v1] := by cases args; simp_all
  obtain ⟨rfl, rfl⟩ := trodVars_none hV
  obtain ⟨a0, len0, cap0, rfl⟩ := okWide_slice Try.underlying40 (hval 0 40 v0 rfl rfl)
  have k0 := h0
  have lt0 : ∀ x ∈ p0, x.block < W.heap.size := by obtain ⟨m, hm⟩ := k0; exact DataW.trod_lt m _ _ _ hm
  have k1 := h1
  have lt1 : ∀ x ∈ p1, x.block < W.heap.size := by obtain ⟨m, hm⟩ := k1; exact DataW.trod_lt m _ _ _ hm
  obtain ⟨fuel0, f0⟩ := h0
  obtain ⟨_, _, _, l, e0, hm, hl⟩ := items_of f0
  cases e0
  obtain ⟨n1, rfl, rfl, rfl, _⟩ := Go.ChangeShapes.open_int Try.underlying3 (hval 1 3 v1 rfl rfl) h1
  clear hA0 hval0
  refine (recordRows_walk a0 len0 cap0 _ l W hm hl).mono fun e W' ⟨he, bel⟩ => ?_
  subst he
  exact ⟨_, rfl, _, _, _, [], _, [], hW', trodAll_mk1 (shut_bool Try.underlying4 _), (trodAll_cons_mk (Below.trod laidOut (by kernel_rfl) (of_decide_eq_true (by kernel_rfl)) k0 bel lt0) (trodAll_cons_mk (Below.trod laidOut (by kernel_rfl) (of_decide_eq_true (by kernel_rfl)) k1 bel lt1) trodAll_mk0)), rfl, bel.frame _, fun h => by cases h⟩

theorem over : Rows.recordRowsRow.holds Try.pinned (OpenSpec.ofChange Rows.recordRowsSpec) :=
  OpenClaim.holds_of_wide 5 Try.f5 rfl rfl rfl rfl rfl rfl rfl ⟨rfl, rfl, rfl, rfl, rfl⟩ rfl rfl rfl rfl rfl (by kernel_rfl) Try.func5 (by kernel_rfl)
    (of_decide_eq_true (by kernel_rfl)) (by unfold Func.isWrapper; first | (rw [if_pos (by decide +kernel)]; kernel_rfl) | (rw [if_neg (by decide +kernel)]; exact ⟨rfl, rfl⟩))
    (fun os started H enc _ => lifted os started H enc)

theorem proved : Rows.RecordRowsSaid := over
end Go.Proofs.Ythfhhgjjnpcmgaa.recordRows

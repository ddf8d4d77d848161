/-
  CONTRACT OF the law's 'awake': the document's examples.
-/
import Derived.Test.YtnbgaenajehbkaaOrN
namespace Go.Proofs.Ytnbgaenajehbkaa
set_option linter.unusedVariables false
set_option linter.unusedSimpArgs false
open Go.RowKit Go.Maps

def oa : ByteArray := ⟨#[97]⟩
def ob : ByteArray := ⟨#[98]⟩
def oc : ByteArray := ⟨#[99]⟩
theorem aw_one : (newO [(oa, ob), (ob, oc)]).1.map (fun o => o.low 2) = some 7 := by decide +kernel
theorem aw_two : (newO [(oa, ob), (ob, oa)]).2 = (0, 16) := by decide +kernel
theorem aw_two1 : (newO [(oa, ob), (ob, oa)]).1.isNone = true := by decide +kernel
theorem newTo_some {w w' : World} {l : List OPr} {e : Ending} (h : NewTo w l e w') {o : Od} (ho : (newO l).1 = some o) : Below w.heap.size w w' ∧ ∃ g, e = .returned (.tuple #[.pointer (some ⟨g, 0, none⟩), .int .i64 0, .int .i64 0]) ∧ OrdAt w' (fun b => b < w.heap.size) g o := by
  obtain ⟨h1, h2⟩ := h
  refine ⟨h1, ?_⟩
  split at h2
  · rename_i heq
    rw [heq] at ho
    cases ho
  · rename_i heq
    rw [heq] at ho
    cases ho
    exact h2
theorem newTo_none {w w' : World} {l : List OPr} {e : Ending} (h : NewTo w l e w') (ho : (newO l).1 = none) : Below w.heap.size w w' ∧ e = .returned (.tuple #[.pointer none, .int .i64 ((newO l).2.1 : Int), .int .i64 ((newO l).2.2 : Int)]) := by
  obtain ⟨h1, h2⟩ := h
  refine ⟨h1, ?_⟩
  split at h2
  · rename_i heq
    rw [heq]
    exact h2
  · rename_i heq
    rw [heq] at ho
    cases ho

/-- Two pairs, in the block that they were just laid in. -/
def o2b (a b c d : ByteArray) : Obj := .cells #[.string a, .string b, .int .i64 0, .string c, .string d, .int .i64 0] 25
theorem pairs_two (w : World) (a b c d : ByteArray) : ShP (w.alloc (o2b a b c d)) (w.alloc (o2b a b c d)).heap.size (some ⟨w.heap.size, 0, none⟩) 2 [((a, b), 0), ((c, d), 0)] := by
  have hb : Blk (w.alloc (o2b a b c d)) w.heap.size 25 [.string a, .string b, .int .i64 0, .string c, .string d, .int .i64 0] := Blk.new _ _ _
  refine ⟨rfl, fun _ => ⟨w.heap.size, 0, rfl, by simp, fun k t ht => ?_⟩⟩
  match k, ht with
  | 0, ht => cases ht; exact ⟨hb.cell 0, hb.cell 1, hb.cell 2⟩
  | 1, ht => cases ht; exact ⟨hb.cell 3, hb.cell 4, hb.cell 5⟩

set_option maxRecDepth 100000 in
set_option maxHeartbeats 800000 in
theorem awake13_any (w : World) : Calls Try.prog 9 #[] w fun e w' => e = .returned (.bool true) ∧ Below w.heap.size w w' := by
  obtain ⟨o, ho, hlow⟩ := Option.map_eq_some_iff.1 aw_one
  have H1 := Lib.hid (fun (w : World) => (onew_any (some ⟨w.heap.size, 0, none⟩) 2 2 [((oa, ob), 0), ((ob, oc), 0)] _ (pairs_two w oa ob ob oc) (by decide) (by decide)).mono fun e w' h => newTo_some h ho)
  have H2 := Lib.hid (fun (w : World) => (onew_any (some ⟨w.heap.size, 0, none⟩) 2 2 [((oa, ob), 0), ((ob, oa), 0)] _ (pairs_two w oa ob ob oa) (by decide) (by decide)).mono fun e w' h => newTo_none h (by simpa using aw_two1))
  unfold o2b oa ob oc at H1
  unfold o2b oa ob at H2
  have e2 := aw_two
  unfold oa ob at e2
  rw [show [((⟨#[97]⟩ : ByteArray), (⟨#[98]⟩ : ByteArray)), (⟨#[98]⟩, ⟨#[97]⟩)] = List.map (·.1) [(((⟨#[97]⟩ : ByteArray), (⟨#[98]⟩ : ByteArray)), (0 : Int)), ((⟨#[98]⟩, ⟨#[97]⟩), 0)] from rfl] at e2
  have E2 := Lib.hid e2
  have HL := Lib.hid hlow
  clear e2 hlow
  go_enter Try.func9, Try.ntmps9
  go_wp2_with (first
    | (go_at_call 8; with_reducible refine (H1.out _).mono ?_; rintro e w1 ⟨b1, g, rfl, hO⟩; have B1 := Lib.hid (((Below.refl w.heap.size w).alloc (Nat.le_refl _) _).trans (b1.mono (by simp))); have HO := Lib.hid hO; clear b1 hO)
    | (go_at_call 8; with_reducible refine (H2.out _).mono ?_; rintro e w2 ⟨b2, rfl⟩; rw [E2.out]; have B2 := Lib.hid (((Below.refl w1.heap.size w1).alloc (Nat.le_refl _) _).trans (b2.mono (by simp))); clear b2)
    | (go_at_call 16; refine (obelow_any (HO.out.stay B2.out) 2).mono ?_; rintro e w3 ⟨rfl, rfl⟩; rw [HL.out])
    | go_in)
  go_ret
  exact ⟨rfl, B1.out.trans (B2.out.mono B1.out.size)⟩
end Go.Proofs.Ytnbgaenajehbkaa

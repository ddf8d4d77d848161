/-
  CONTRACT OF (*expr.Cursor).binary, from those of less fuel.
-/
import Derived.Test.YtnhhdafhnngolaaDoorEpN2
namespace Go.Proofs.YtnhhdafhnngolaaDoor
set_option linter.unusedVariables false
set_option linter.unusedSimpArgs false
open Go.RowKit

def DigOk (C : Cx) : Prop := ∀ p, C.R.kd p = 3 → Digits (C.R.wd p)
/-- What a reader answers, its memory new. -/
def RdTo (C : Cx) (w : World) (G : Gt) (e : Ending) (w' : World) : Prop := PutTo C (fun b => w.heap.size ≤ b) w G e w'
def BinC (C : Cx) (f : Nat) : Prop := ∀ (l d p : Nat) (w : World), 1 ≤ l → l ≤ 6 → d ≤ 32 → Cur C w p → 16 * (C.L.length - p) + (10 - l) ≤ f →
  Calls Tryd.prog 57 #[C.ptr, .int .i64 (l : Int), .int .i64 (d : Int)] w (RdTo C w (rd C.R f (.lev l) p d))
def SgC (C : Cx) (f : Nat) : Prop := ∀ (d p : Nat) (w : World), d ≤ 32 → Cur C w p → 16 * (C.L.length - p) + 3 ≤ f →
  Calls Tryd.prog 67 #[C.ptr, .int .i64 (d : Int)] w (RdTo C w (rd C.R f .sg p d))
def PrC (C : Cx) (f : Nat) : Prop := ∀ (d p : Nat) (w : World), d ≤ 32 → Cur C w p → 16 * (C.L.length - p) + 2 ≤ f →
  Calls Tryd.prog 81 #[C.ptr, .int .i64 (d : Int)] w (RdTo C w (rd C.R f .pr p d))
def OpC (C : Cx) (f : Nat) : Prop := ∀ (d p : Nat) (w : World), d ≤ 32 → Cur C w p → p < C.L.length → 16 * (C.L.length - p) + 1 ≤ f →
  Calls Tryd.prog 95 #[C.ptr, .int .i64 (d : Int)] w (RdTo C w (rd C.R f .op p d))
def NmC (C : Cx) (f : Nat) : Prop := ∀ (d p : Nat) (w : World), d ≤ 32 → Cur C w p → 16 * (C.L.length - p) + 1 ≤ f →
  Calls Tryd.prog 96 #[C.ptr, .int .i64 (d : Int)] w (RdTo C w (rd C.R f .nm p d))
def wiG (R : Rw) (g : Gt) (ss : List ByteArray) : Gt := if g.r = 0 then (if (mustP R g.p ss).2 = 0 then good g.e (mustP R g.p ss).1 else bad (mustP R g.p ss).1 (mustP R g.p ss).2) else bad g.p g.r
def WiC (C : Cx) (f : Nat) : Prop := ∀ (d p : Nat) (w : World) (ss : List ByteArray) (A : Option Addr) (n c : Nat), d ≤ 32 → Cur C w p → 16 * (C.L.length - p) + 1 ≤ f →
  (∀ s ∈ ss, s.size ≠ 0) → Sh w w.heap.size A n (ss.map Value.string) → n ≤ 1000 → (∀ b off, A = some ⟨b, off, none⟩ → b ≠ C.g) →
  Calls Tryd.prog 94 #[C.ptr, .int .i64 (d : Int), .slice A n c] w (RdTo C w (wiG C.R (rd C.R f .gr p d) ss))
/-- What arguments answers. -/
def ArTo (C : Cx) (w : World) (G : Gt) (e : Ending) (w' : World) : Prop :=
  ∃ lv, e = .returned (.tuple #[lv, .int .i64 G.r]) ∧ (G.r = 0 → Shx w' (fun b => w.heap.size ≤ b) lv G.e.l) ∧ w.grownBy w' (some C.g) ∧ Cur C w' G.p
def ArC (C : Cx) (f : Nat) : Prop := ∀ (d p : Nat) (w : World), d ≤ 32 → Cur C w p → C.R.is p [40] = true → 16 * (C.L.length - p) + 1 ≤ f →
  Calls Tryd.prog 102 #[C.ptr, .int .i64 (d : Int)] w (ArTo C w (rd C.R f .ar p d))

theorem rd_loop_no {R : Rw} {f l a d : Nat} {e : Ex} (h : sgnL l (R.wd a) = false) : rd R (f + 1) (.loop l e) a d = good e a := by
  simp only [rd]
  rw [if_neg (by rw [h]; decide)]
theorem rd_loop_yes {R : Rw} {f l a d : Nat} {e : Ex} {g : Gt} (h : sgnL l (R.wd a) = true) (hg : rd R f (.lev (l + 1)) (a + 1) d = g) : rd R (f + 1) (.loop l e) a d =
    if g.r = 0 then (if (hld (eBin (R.wd a) e g.e) g.p a).r = 0 then rd R f (.loop l (hld (eBin (R.wd a) e g.e) g.p a).e) (hld (eBin (R.wd a) e g.e) g.p a).p d else bad (hld (eBin (R.wd a) e g.e) g.p a).p (hld (eBin (R.wd a) e g.e) g.p a).r) else bad g.p g.r := by
  simp only [rd]
  rw [if_pos h, hg]
theorem sgnL_ne {l : Nat} {s : ByteArray} (h : sgnL l s = true) : (s.toList == []) = false := by
  cases hs : s.toList with
  | nil =>
    unfold sgnL at h
    rw [hs] at h
    revert h
    repeat' split
    all_goals simp
  | cons c r => rfl
theorem bad_eta {g : Gt} (h : g.e = Ex.nul) : g = bad g.p g.r := by cases g; cases h; rfl

set_option maxRecDepth 10000 in
set_option maxHeartbeats 1600000 in
theorem binary6 (C : Cx) (hC : TokOk C.T C.L) (f : Nat) (hS : SgC C f) (d p : Nat) (w : World) (hd : d ≤ 32) (h : Cur C w p) (hf : 16 * (C.L.length - p) + 4 ≤ f + 1) :
    Calls Tryd.prog 57 #[C.ptr, .int .i64 6, .int .i64 (d : Int)] w (RdTo C w (rd C.R (f + 1) (.lev 6) p d)) := by
  have hz := zeroEx'
  have hlt := h.lt
  have HS := Lib.hid (hS d p _ hd (h.under (entry_below w)) (by omega))
  have HE := Lib.hid (entry_slot w)
  have HES := Lib.hid (entry_size w)
  have HEB := Lib.hid (entry_below w)
  have HR := Lib.hid (rd_lev6 (R := C.R) (f := f) (l := 6) (a := p) (d := d) (Nat.le_refl _))
  rw [HR.out]
  clear h hS
  go_enter Tryd.func57, Tryd.ntmps57
  go_wp2_with (first
    | (go_at_call 67; refine HS.out.mono ?_; rintro e w2 ⟨lv, rfl, hx, hg, hc⟩; have hone := hx.one; have HX := Lib.hid hx; have HG := Lib.hid hg; have HC2 := Lib.hid hc; clear hx hg hc; dsimp only)
    | (refine wpList_stx rfl (.tmp 6) (.tmp 19) rfl w.heap.size rfl (HE.out.grown HG.out (by intro e; injection e; omega)) (e := (rd C.R f .sg p d).e) (lv := lv) rfl hone ?_; intro w3 hg3 hs3; have HG3 := Lib.hid hg3; have HS3 := Lib.hid hs3; clear hg3 hs3)
    | fail)
  refine ex_done rfl rfl rfl rfl HS3.out ⟨lv, rfl, ?_, ?_, ?_⟩
  · exact (HX.out.grown HG3.out (fun b hb _ e => by injection e with e; rw [HES.out] at hb; omega)).weak (fun b hb _ => by rw [HES.out] at hb; omega)
  · exact fr_new (gb_trans (below_fr HEB.out _) HG.out) HG3.out (Nat.le_refl _)
  · exact HC2.out.grown HG3.out (fun k e => by cases e; omega)
end Go.Proofs.YtnhhdafhnngolaaDoor

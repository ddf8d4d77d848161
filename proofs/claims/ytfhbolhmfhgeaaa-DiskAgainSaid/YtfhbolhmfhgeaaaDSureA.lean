/-
  AN ACT ON A DISK WITH A KEPT FILE; HOW SUCH A DISK IS MADE.
-/
import Derived.Test.YtfhbolhmfhgeaaaDAct2
import Derived.Test.YtfhbolhmfhgeaaaDSureM
namespace Go.Proofs.Ytfhbolhmfhgeaaa
set_option linter.unusedVariables false
set_option linter.unusedSimpArgs false
open Go.RowKit Go.Maps

abbrev kStr : ByteArray := ⟨#[107, 101, 112, 116]⟩
abbrev kNm : Nm := [107, 101, 112, 116]
theorem nm_ne {s : ByteArray} (h : s ≠ kStr) : kNm ≠ s.data.toList := fun e => h (by
  obtain ⟨⟨l⟩⟩ := s
  have : l = [107, 101, 112, 116] := e.symm
  rw [this])

/-- The states on the way. -/
def kA (b : Nat) (d : List Int) (u : Nat) (v : Bool) (sure : NL) (waits : List Tn) (c : Nat) : St := { cap := 1048576, fs := [⟨b, d, u, v⟩], names := [(kNm, b)], sure := sure, waits := waits, calls := c, fuse := 0, fault := 0, fe := 0, dead := false }
theorem k1 (b : Nat) : (newSt 1048576 [] []).create kNm b = (kA b [] 0 false [] [.create kNm b] 1, 0) := by rfl
theorem k2 (b : Nat) (xs : List Int) (h : xs.length ≤ 500) : (kA b [] 0 false [] [.create kNm b] 1).append kNm xs = (kA b xs xs.length false [] [.create kNm b] 2, 0) := by
  have : ¬ (1048576 : Int) < (xs.length : Int) := by omega
  simp [St.append, kA, St.berr, St.begun, nat?, usedOf, lenAt, updF, this]
theorem k3 (b : Nat) (xs : List Int) (u : Nat) : (kA b xs u false [] [.create kNm b] 2).sync kNm = (kA b xs 0 false [] [.create kNm b] 3, 0) := by
  simp [St.sync, kA, St.berr, St.begun, nat?, updF]
theorem k4 (b : Nat) (xs : List Int) : (kA b xs 0 false [] [.create kNm b] 3).syncDir = (kA b xs 0 true [(kNm, b)] [] 4, 0) := by
  simp [St.syncDir, kA, St.berr, St.begun, St.keptNames, St.forgot, marked, keep, goneSure, clr]
theorem kClosed (b : Nat) (d : List Int) (u : Nat) (v : Bool) (sure : NL) (waits : List Tn) (c : Nat) : Closed (kA b d u v sure waits c).names (kA b d u v sure waits c).fs := fun p hp => by
  have := List.mem_singleton.1 hp
  subst this
  exact ⟨_, List.mem_singleton.2 rfl, rfl⟩
theorem kInv (b : Nat) (xs : List Int) (h : xs.length ≤ 500) : Inv (kA b xs 0 true [(kNm, b)] [] 4) := by
  refine ⟨rfl, by unfold Ris; exact List.pairwise_singleton _ _, by show 1 ≤ 64; omega, fun k hk => ?_, by show 0 ≤ 4; omega, by show 1 ≤ 68; omega, fun f hf => ?_, fun f hf => ?_, by show (0 : Int) ≤ 1048576 ∧ _; exact ⟨by omega, Int.le_refl _⟩⟩
  · show Sound (acts (([] : List Tn).take k) [(kNm, b)]) [⟨b, xs, 0, true⟩]
    rw [List.take_nil]
    intro p hp
    have hp : p ∈ [(kNm, b)] := hp
    rw [List.mem_singleton.1 hp]
    exact ⟨_, List.mem_singleton.2 rfl, rfl, Nat.zero_le _⟩
  · rw [List.mem_singleton.1 hf]
    show xs.length ≤ most 4
    unfold most
    omega
  · rw [List.mem_singleton.1 hf]
    show 0 ≤ _
    omega
theorem kKeeping (b : Nat) (xs : List Int) (h : xs.length ≤ 500) : Keeping kNm xs 4 (kA b xs 0 true [(kNm, b)] [] 4) := by
  refine ⟨kInv b xs h, ⟨b, fun j hj => ?_, ⟨b, xs, 0, true⟩, ?_, Nat.zero_le _, [], by simp⟩, rfl, rfl, Nat.le_refl _⟩
  · show nat? kNm (acts (([] : List Tn).take j) [(kNm, b)]) = some b
    rw [List.take_nil]
    simp [acts, nat?]
  · simp [kA]

/-- One act. -/
theorem act_keeping {U : Nat} {X : Nat → Prop} {w : World} {g r : Nat} {L : Lay} {S : St} {data : List Int} {n : Nat} (x : Ac) (hx : x.ok w U) (h : DAt w X g L S) (hK : Keeping kNm data n S) (hn : n ≤ 900) (hr : RZ w r) (hX : ∀ k, k < U → X k) (hrX : X r) (hrU : U ≤ r) (hU : U ≤ w.heap.size)
    (hs : x.s.size ≤ 100 ∧ x.r.size ≤ 100 ∧ x.n ≤ 500 ∧ x.m ≤ 60) (h0 : 0 ≤ x.kind) (h5 : x.kind ≤ 5) (hne : 4 ≤ x.kind → x.s ≠ kStr ∧ x.r ≠ kStr) :
    Calls Try.prog 13 #[.pointer (some ⟨g, 0, none⟩), .pointer (some ⟨r, 0, none⟩), .agg x.vals.toArray] w fun e w' => (∃ v : Bool, e = .returned (.bool v)) ∧ (∃ L' S', DAt w' X g L' S' ∧ Keeping kNm data (n + 1) S') ∧ Below U w w' := by
  have hc : S.calls ≤ 1000 := by have := hK.calls; omega
  obtain ⟨kind, s, r', A, n', c, b, z, e, K, m, d, nums⟩ := x
  have hb : b.length ≤ 500 := by
    have := hx.b.len
    rw [by8_len] at this
    have := hs.2.2.1
    simp only at *
    omega
  have fin : ∀ {T : Nat → St} {e : Ending} {w' : World}, Acted U X g w T e w' → (∀ b, Keeping kNm data (n + 1) (T b)) → (∃ v : Bool, e = .returned (.bool v)) ∧ (∃ L' S', DAt w' X g L' S' ∧ Keeping kNm data (n + 1) S') ∧ Below U w w' := fun ⟨h1, ⟨b, L', h2⟩, h3⟩ hk => ⟨h1, ⟨L', _, h2, hk b⟩, h3⟩
  have hk : kind = 0 ∨ kind = 1 ∨ kind = 2 ∨ kind = 3 ∨ kind = 4 ∨ kind = 5 := by simp only at h0 h5; omega
  rcases hk with rfl | rfl | rfl | rfl | rfl | rfl
  · exact (act_0 s r' A n' c b z e K m d nums hx h hK.inv hc hr hX hrX hrU hU hs.2.2.1 hs.2.2.2).mono fun _ _ ha => fin ha fun b => hK.step (hK.inv.create _ _) (hK.kept.create hK.inv _ _) (same3_create S _ _)
  · exact (act_1 s r' A n' c b z e K m d nums hx h hK.inv hc hr hX hrX hrU hU hs.2.2.1 hs.2.2.2).mono fun _ _ ha => fin ha fun _ => hK.step (hK.inv.append _ _ hb) (hK.kept.append _ _) (same3_append S _ _)
  · exact (act_2 s r' A n' c b z e K m d nums hx h hK.inv hc hr hX hrX hrU hU hs.2.2.1 hs.2.2.2).mono fun _ _ ha => fin ha fun _ => hK.step (hK.inv.sync _) (hK.kept.sync _) (same3_sync S _)
  · exact (act_3 s r' A n' c b z e K m d nums hx h hK.inv hc hr hX hrX hrU hU hs.2.2.1 hs.2.2.2).mono fun _ _ ha => fin ha fun _ => hK.step hK.inv.syncDir (hK.kept.syncDir hK.inv) (same3_syncDir S)
  · have hh := hne (by show (4 : Int) ≤ 4; omega)
    exact (act_4 s r' A n' c b z e K m d nums hx h hK.inv hc hr hX hrX hrU hU hs.2.2.1 hs.2.2.2).mono fun _ _ ha => fin ha fun _ => hK.step (hK.inv.rename _ _) (hK.kept.rename hK.inv _ _ (nm_ne hh.1) (nm_ne hh.2)) (same3_rename S _ _)
  · have hh := hne (by show (4 : Int) ≤ 5; omega)
    exact (act_5 s r' A n' c b z e K m d nums hx h hK.inv hc hr hX hrX hrU hU hs.2.2.1 hs.2.2.2).mono fun _ _ ha => fin ha fun _ => hK.step (hK.inv.remove _) (hK.kept.remove hK.inv _ (nm_ne hh.1)) (same3_remove S _)
end Go.Proofs.Ytfhbolhmfhgeaaa

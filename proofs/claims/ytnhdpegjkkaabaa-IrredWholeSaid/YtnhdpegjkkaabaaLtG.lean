/-
  CONTRACTS OF the developers' lattice: New, Join, Meet, Order, Bottom, Top, JoinAll, Asked.
-/
import Derived.Test.YtnhdpegjkkaabaaLtE
namespace Go.Proofs.Ytnhdpegjkkaabaa
set_option linter.unusedVariables false
set_option linter.unusedSimpArgs false
open Go.RowKit Go.Maps

theorem least_ex {Q : Nat → Prop} : ∀ (m : Nat), (∃ x, x < m ∧ Q x) → ∃ x, x < m ∧ Q x ∧ ∀ y, y < x → ¬ Q y
  | 0, ⟨x, hx, _⟩ => absurd hx (Nat.not_lt_zero _)
  | m + 1, ⟨x, hx, hq⟩ => by
    by_cases h : ∃ x, x < m ∧ Q x
    · obtain ⟨y, hy, h1, h2⟩ := least_ex m h
      exact ⟨y, by omega, h1, h2⟩
    · have e : x = m := by
        rcases Nat.lt_or_ge x m with e | e
        · exact absurd ⟨x, e, hq⟩ h
        · omega
      subst e
      exact ⟨x, hx, hq, fun y hy hqy => h ⟨y, hy, hqy⟩⟩
theorem fst_or (P : Nat → Nat → Bool) (n : Nat) : (∃ a b, Fst P n a b) ∨ ∀ x y, x < n → y < n → P x y = false := by
  by_cases h : ∃ x, x < n ∧ ∃ y, y < n ∧ P x y = true
  · obtain ⟨a, ha, h1, h2⟩ := least_ex n h
    obtain ⟨b, hb, h3, h4⟩ := least_ex n h1
    refine .inl ⟨a, b, ha, hb, h3, fun x y hx hy hxy => ?_⟩
    cases e : P x y with
    | false => rfl
    | true =>
      rcases hxy with e1 | ⟨rfl, e1⟩
      · exact absurd ⟨y, hy, e⟩ (h2 x e1)
      · exact absurd e (h4 y e1)
  · refine .inr fun x y hx hy => ?_
    cases e : P x y with
    | false => rfl
    | true => exact absurd ⟨x, hx, y, hy, e⟩ h
theorem FsTo.yes {P : Nat → Nat → Bool} {n a b : Nat} {e : Ending} (h : FsTo P n e) (k : Fst P n a b) : e = .returned (.tuple #[.int .i64 (a : Int), .int .i64 (b : Int), .bool true]) := by
  rcases h with ⟨c, d, rfl, hF⟩ | ⟨_, hN⟩
  · obtain ⟨rfl, rfl⟩ := hF.uniq k
    rfl
  · have := hN a b k.la k.lb
    rw [k.yes] at this
    cases this
theorem FsTo.no {P : Nat → Nat → Bool} {n : Nat} {e : Ending} (h : FsTo P n e) (k : ∀ x y, x < n → y < n → P x y = false) : e = .returned (.tuple #[.int .i64 0, .int .i64 0, .bool false]) := by
  rcases h with ⟨c, d, _, hF⟩ | ⟨rfl, _⟩
  · have := k c d hF.la hF.lb
    rw [hF.yes] at this
    cases this
  · rfl
theorem results_t4 {fn : Func} {t u v x : Tmp} (h : fn.results = #[.tmp t, .tmp u, .tmp v, .tmp x]) (tmps : Array Value) (P : Program) (w : World) :
    (results fn tmps).run P w = .ok (.tuple #[tmps.getD t undef, tmps.getD u undef, tmps.getD v undef, tmps.getD x undef]) w := by
  simp [results, h]
/-- A new lattice. -/
def latO (og : Nat) : Obj := .cells (lzl.set 0 (.pointer (some ⟨og, 0, none⟩))).toArray 110
theorem LtAt.fresh {w : World} {X : Nat → Prop} {og : Nat} {o : Od} (h : OrdAt w X og o) (hd : Osd o) (ha : Osa o) : LtAt (w.alloc (latO og)) (fun b => X b ∨ b = w.heap.size) w.heap.size og o false 0 := by
  have hc : ∀ j, (w.alloc (latO og)).cell? ⟨w.heap.size, j, none⟩ = (lzl.set 0 (.pointer (some ⟨og, 0, none⟩)))[j]? := fun j => by
    rw [latO, World.cell?_alloc_at _ _ _ _ rfl, List.getElem?_toArray]
  have hl := lzl_len
  have h0 : (lzl.set 0 (.pointer (some ⟨og, 0, none⟩)))[0]? = some (.pointer (some ⟨og, 0, none⟩)) := by
    rw [List.getElem?_set_self (by omega)]
  have hs : ∀ j, j ≠ 0 → (lzl.set 0 (.pointer (some ⟨og, 0, none⟩)))[j]? = lzl[j]? := fun j hj => List.getElem?_set_ne (by omega)
  refine ⟨⟨.inr rfl, h.box _, hd, ha, fun j => World.frozen?_alloc_at _ _ _ _ rfl, (hc 0).trans h0, (hc 1).trans ((hs 1 (by omega)).trans rfl)⟩, (hc 2).trans ((hs 2 (by omega)).trans rfl), (hc 3).trans ((hs 3 (by omega)).trans rfl), ⟨_, (hc 5).trans ((hs 5 (by omega)).trans rfl), fun e => by cases e⟩, ⟨fun a b ha hb => ?_, fun a b ha hb => ?_, fun a b ha hb hm => ?_, fun a b ha hb hm => ?_⟩, ⟨⟨0, ?_, fun i hi => absurd hi (Nat.not_lt_zero _)⟩, ⟨0, ?_, fun i hi => absurd hi (Nat.not_lt_zero _)⟩⟩⟩
  · have := tat_lt ha hb
    exact ⟨_, (hc _).trans (lzl_tab (by omega) (by omega) _)⟩
  · have := tat_lt ha hb
    exact ⟨_, (hc _).trans (lzl_tab (by omega) (by omega) _)⟩
  · exact absurd hm (by show ¬ (a < 0 ∨ a = 0 ∧ b < 0); omega)
  · exact absurd hm (by show ¬ (a < 0 ∨ a = 0 ∧ b < 0); omega)
  · exact (hc _).trans (lzl_end _).1
  · exact (hc _).trans (lzl_end _).2
/-- What New answers. -/
def LnTo (w : World) (X : Nat → Prop) (og : Nat) (o : Od) (e : Ending) (w' : World) : Prop :=
  Below w.heap.size w w' ∧ ∃ a b x : Nat, LNew o.ns.length (rmost o) a b x ∧
    if x = 0 then e = .returned (.tuple #[.pointer (some ⟨w.heap.size, 0, none⟩), .int .i64 0, .int .i64 0, .int .i64 0]) ∧ LtAt w' (fun b => X b ∨ b = w.heap.size) w.heap.size og o true 0
    else e = .returned (.tuple #[.pointer none, .int .i64 (a : Int), .int .i64 (b : Int), .int .i64 (x : Int)])
theorem lnTo_bad {w w' : World} {X : Nat → Prop} {og : Nat} {o : Od} {a b x : Nat} (hb : Below w.heap.size w w') (h : LNew o.ns.length (rmost o) a b x) (hx : x ≠ 0) :
    LnTo w X og o (.returned (.tuple #[.pointer none, .int .i64 (a : Int), .int .i64 (b : Int), .int .i64 (x : Int)])) w' := ⟨hb, a, b, x, h, by rw [if_neg hx]⟩
theorem lnTo_ok {w w' : World} {X : Nat → Prop} {og : Nat} {o : Od} (hb : Below w.heap.size w w') (h : LNew o.ns.length (rmost o) 0 0 0) (hl : LtAt w' (fun b => X b ∨ b = w.heap.size) w.heap.size og o true 0) :
    LnTo w X og o (.returned (.tuple #[.pointer (some ⟨w.heap.size, 0, none⟩), .int .i64 0, .int .i64 0, .int .i64 0])) w' := ⟨hb, 0, 0, 0, h, by rw [if_pos rfl]; exact ⟨rfl, hl⟩⟩

set_option maxRecDepth 100000 in
set_option maxHeartbeats 800000 in
theorem lnew_any {w : World} {X : Nat → Prop} {og : Nat} {o : Od} (h : OrdAt w X og o) (hd : Osd o) (ha : Osa o) : Calls Try.prog 30 #[.pointer (some ⟨og, 0, none⟩)] w (LnTo w X og o) := by
  have HLn := Lib.hid (olen_any h)
  have hz := zero_lat
  have hoz : ¬ lzl.length < 1 := by rw [lzl_len]; omega
  have hpord := hd.pord
  by_cases hn : o.ns.length = 0
  · have HR := Lib.hid (fun (w' : World) (hb : Below w.heap.size w w') => lnTo_bad (X := X) (og := og) hb (LNew.none (F := rmost o) hn) (by decide))
    rw [hn] at HLn
    clear h
    go_enter Try.func30, Try.ntmps30
    go_wp2_with (first
      | (go_at_call 49; (with_reducible refine HLn.out.mono ?_); rintro e w1 ⟨rfl, rfl⟩)
      | go_in)
    refine bodyPost_ret (results_t4 rfl _ _ _) rfl ?_
    exact HR.out _ (Below.refl _ _)
  · have hn0 : ((o.ns.length : Int) == 0) = false := by rw [beq_eq_false_iff_ne]; omega
    have HF := Lib.hid (LtAt.fresh h hd ha)
    have HB := Lib.hid ((Below.refl w.heap.size w).alloc (Nat.le_refl _) (latO og))
    unfold latO at HF HB
    have H1 := Lib.hid (fun (w1 : World) (h : LtAt w1 (fun b => X b ∨ b = w.heap.size) w.heap.size og o false 0) => first1_any w.heap.size og 0 (fun b => X b ∨ b = w.heap.size) o false w1 h)
    have H2 := Lib.hid (fun (w1 : World) (h : LtAt w1 (fun b => X b ∨ b = w.heap.size) w.heap.size og o true 0) => first2_any w.heap.size og 0 (fun b => X b ∨ b = w.heap.size) o true w1 h)
    have HBD := Lib.hid (fun (w' : World) (a b : Nat) => @lnTo_bad w w' X og o a b 17)
    have HOK := Lib.hid (fun (w' : World) => @lnTo_ok w w' X og o)
    rcases fst_or (ltP1 (rmost o) o.ns.length) o.ns.length with ⟨a, b, hF⟩ | hN
    · have HL := Lib.hid (lnew_one hpord hF)
      have H1a := Lib.hid ((H1.out _ HF.out).mono fun e w' ⟨h1, h2, h3⟩ => And.intro (h1.yes hF) h3)
      clear h hF hpord
      go_enter Try.func30, Try.ntmps30
      go_wp2_with (first
        | (go_at_call 49; (with_reducible refine HLn.out.mono ?_); rintro e w1 ⟨rfl, rfl⟩)
        | (go_at_call 50; (with_reducible refine H1a.out.mono ?_); rintro e w2 ⟨rfl, ho⟩; have HB2 := Lib.hid (HB.out.trans ((ho.below (Nat.le_refl _)).mono (Nat.le_refl _))); clear ho)
        | go_in)
      refine bodyPost_ret (results_t4 rfl _ _ _) rfl ?_
      exact HBD.out _ a b HB2.out HL.out (by decide)
    · have H1a := Lib.hid ((H1.out _ HF.out).mono fun e w' ⟨h1, h2, h3⟩ => And.intro (h1.no hN) (And.intro h2 h3))
      rcases fst_or (ltP2 (rmost o) o.ns.length) o.ns.length with ⟨a, b, hF⟩ | hN2
      · have HL := Lib.hid (lnew_two hN hF)
        have H2a := Lib.hid (fun w1 h => (H2.out w1 h).mono fun e w' ⟨h1, h2, h3⟩ => And.intro (h1.yes hF) h3)
        clear h hF hpord hN
        go_enter Try.func30, Try.ntmps30
        go_wp2_with (first
          | (go_at_call 49; (with_reducible refine HLn.out.mono ?_); rintro e w1 ⟨rfl, rfl⟩)
          | (go_at_call 50; (with_reducible refine H1a.out.mono ?_); rintro e w2 ⟨rfl, hm, ho⟩; have HB2 := Lib.hid (HB.out.trans ((ho.below (Nat.le_refl _)).mono (Nat.le_refl _))); have H2b := Lib.hid (H2a.out _ hm); clear hm ho)
          | (go_at_call 50; (with_reducible refine H2b.out.mono ?_); rintro e w3 ⟨rfl, ho⟩; have HB3 := Lib.hid (HB2.out.trans ((ho.below (Nat.le_refl _)).mono (Nat.le_refl _))); clear ho)
          | go_in)
        refine bodyPost_ret (results_t4 rfl _ _ _) rfl ?_
        exact HBD.out _ a b HB3.out HL.out (by decide)
      · have HL := Lib.hid (lnew_ok (Nat.pos_of_ne_zero hn) hN hN2)
        have H2a := Lib.hid (fun w1 h => (H2.out w1 h).mono fun e w' ⟨h1, h2, h3⟩ => And.intro (h1.no hN2) (And.intro h2 h3))
        clear h hpord hN hN2
        go_enter Try.func30, Try.ntmps30
        go_wp2_with (first
          | (go_at_call 49; (with_reducible refine HLn.out.mono ?_); rintro e w1 ⟨rfl, rfl⟩)
          | (go_at_call 50; (with_reducible refine H1a.out.mono ?_); rintro e w2 ⟨rfl, hm, ho⟩; have HB2 := Lib.hid (HB.out.trans ((ho.below (Nat.le_refl _)).mono (Nat.le_refl _))); have H2b := Lib.hid (H2a.out _ hm); clear hm ho)
          | (go_at_call 50; (with_reducible refine H2b.out.mono ?_); rintro e w3 ⟨rfl, hm, ho⟩; have HB3 := Lib.hid (HB2.out.trans ((ho.below (Nat.le_refl _)).mono (Nat.le_refl _))); have HM3 := Lib.hid hm; clear hm ho)
          | go_in)
        refine bodyPost_ret (results_t4 rfl _ _ _) rfl ?_
        exact HOK.out _ HB3.out HL.out HM3.out
theorem lnew_nil (w : World) : Calls Try.prog 30 #[.pointer none] w fun e w' => e = .returned (.tuple #[.pointer none, .int .i64 0, .int .i64 0, .int .i64 1]) ∧ w = w' := by
  go_enter Try.func30, Try.ntmps30
  go_wp2_with (first
    | (go_at_call 49; (with_reducible refine (olen_nil _).mono ?_); rintro e w1 ⟨rfl, rfl⟩)
    | go_in)
  refine bodyPost_ret (results_t4 rfl _ _ _) rfl ?_
  exact ⟨rfl, rfl⟩
section
variable {w : World} {X : Nat → Prop} {g og k : Nat} {o : Od} {J M : Nat → Nat → Nat}

theorem LtAt.botval (h : LtAt w X g og o true k) (h0 : 0 < o.ns.length) (hL : Lat o.ns.length (rmost o) J M) : w.cell? ⟨g, 8198, none⟩ = some (.int .i64 (botI (rmost o) o.ns.length)) := by
  obtain ⟨i, hi, e, hk, _⟩ := hL.bot h0
  obtain ⟨b, hb, hu⟩ := h.b.bot
  rw [hb, e, hu i hi hk]
theorem LtAt.topval (h : LtAt w X g og o true k) (h0 : 0 < o.ns.length) (hL : Lat o.ns.length (rmost o) J M) : w.cell? ⟨g, 8199, none⟩ = some (.int .i64 (botI (oflip (rmost o)) o.ns.length)) := by
  obtain ⟨i, hi, e, hk, _⟩ := hL.top h0
  obtain ⟨b, hb, hu⟩ := h.b.top
  rw [hb, e, hu i hi hk]

set_option maxHeartbeats 800000 in
theorem lbot_pub (h : LtAt w X g og o true k) (h0 : 0 < o.ns.length) (hL : Lat o.ns.length (rmost o) J M) : Calls Try.prog 67 #[.pointer (some ⟨g, 0, none⟩)] w (LtTo w X g og o k (.int .i64 (botI (rmost o) o.ns.length))) := by
  unfold LtTo
  have HE := Lib.hid (lelems_any h)
  unfold LtTo at HE
  have HB := Lib.hid (fun (w2 : World) (h2 : LtAt w2 X g og o true k) => h2.botval h0 hL)
  have hn0 : ((o.ns.length : Int) == 0) = false := by rw [beq_eq_false_iff_ne]; omega
  clear h hL h0
  go_enter Try.func67, Try.ntmps67
  go_wp2_with (first
    | (go_at_call 64; (with_reducible refine HE.out.mono ?_); rintro e w2 ⟨rfl, hm, ho⟩; have c8 := HB.out _ hm; have HM := Lib.hid hm; have HO := Lib.hid ho; clear hm ho)
    | go_in)
  go_ret
  exact ⟨rfl, HM.out, HO.out⟩
theorem lbot_nil (w : World) : Calls Try.prog 67 #[.pointer none] w fun e w' => e = .returned (.int .i64 (-1)) ∧ w = w' := by
  go_enter Try.func67, Try.ntmps67
  go_wp2_with (first
    | (go_at_call 64; (with_reducible refine (lelems_nil _).mono ?_); rintro e w2 ⟨rfl, rfl⟩)
    | go_in)
  go_ret
  exact ⟨rfl, rfl⟩

end
end Go.Proofs.Ytnhdpegjkkaabaa

import Derived.Test.YtkjhlgnpohamnaaGreatDoorSq
import Derived.Test.YtkjhlgnpohamnaaGreatDoorEpM
import Derived.Test.YtkjhlgnpohamnaaGreatDoorMEq
import Derived.Test.YtkjhlgnpohamnaaGreatDoorShelf
set_option maxHeartbeats 1600000
namespace Go.Proofs.YtkjhlgnpohamnaaGreatDoor
set_option linter.unusedVariables false
set_option linter.unusedSimpArgs false
def Ex.cnt : Ex → Nat
 | .mk k a m nm lb l => (l.attach.map fun x => x.1.cnt).foldr (· + ·) 0 + 1
termination_by e => SizeOf.sizeOf e
decreasing_by exact Ex.lt_of x.2
def cnts (l : List Ex) : Nat:=(l.map Ex.cnt).foldr (· + ·) 0
theorem Ex.cnt_eq (e : Ex) : e.cnt = cnts e.l + 1:=by
 cases e
 rw [Ex.cnt]
 unfold cnts Ex.l
 rw [List.attach_map_val (f:=Ex.cnt)]
theorem cnts_nil : cnts [] = 0:=rfl
theorem cnts_cons (x : Ex) (l : List Ex) : cnts (x :: l) = x.cnt + cnts l:=rfl
theorem cnts_app (l k : List Ex) : cnts (l ++ k) = cnts l + cnts k:=by
 induction l with
 | nil => simp [cnts_nil]
 | cons x l ih => rw [List.cons_append,cnts_cons,cnts_cons,ih]; omega
theorem cnts_len (l : List Ex) : l.length ≤ cnts l:=by
 induction l with
 | nil => exact Nat.le_refl _
 | cons x l ih => rw [cnts_cons,List.length_cons,Ex.cnt_eq]; omega
def under (F : List Ex) : List Ex:=F.flatMap Ex.l
theorem under_cnt (F : List Ex) : cnts (under F) + F.length = cnts F:=by
 induction F with
 | nil => rfl
 | cons x F ih =>
  have : under (x :: F) = x.l ++ under F:=by simp [under]
  rw [this,cnts_app,cnts_cons,List.length_cons,Ex.cnt_eq]
  omega
theorem under_hts {F : List Ex} (h : F ≠ []) : hts F = hts (under F) + 1:=by
 induction F with
 | nil => exact absurd rfl h
 | cons x F ih =>
  have hu : under (x :: F) = x.l ++ under F:=by simp [under]
  rw [hu,hts_app,hts_cons,Ex.ht_eq]
  cases F with
  | nil => simp [under,hts_nil]
  | cons y F =>
   have:=ih (by simp)
   omega
theorem under_app (F K : List Ex) : under (F ++ K) = under F ++ under K:=by simp [under]
theorem under_one (x : Ex) : under [x] = x.l:=by simp [under]
def wfs (F : List Ex) : Prop:=∀ x ∈ F,x.wfx
theorem under_wfs {F : List Ex} (h : wfs F) : wfs (under F):=fun x hx => by
 obtain ⟨y,hy,hxy⟩:=List.mem_flatMap.1 hx
 exact ((y.wfx_eq).1 (h y hy)).2.2 x hxy
def Fine (e : Ex) : Prop:=e.wfx ∧ e.ht ≤ 32
def Md.pre : Md → Prop
 | .loop _ e => Fine e
 | .an acc => ∀ x ∈ acc,Fine x
 | _ => True
def FineR (m : Md) (a : Nat) (g : Gt) : Prop:=g.r = 0 → match m with
 | .loop _ e => Fine g.e ∧ g.e.cnt + a ≤ g.p + e.cnt
 | .ar => (∀ x ∈ g.e.l,Fine x) ∧ cnts g.e.l + a + 1 ≤ g.p
 | .an acc => (∀ x ∈ g.e.l,Fine x) ∧ cnts g.e.l + a ≤ g.p + cnts acc
 | _ => Fine g.e ∧ g.e.cnt + a ≤ g.p
theorem fine_leaf {e : Ex} (hl : e.l = []) : Fine e ∧ e.cnt = 1:=by
 refine ⟨⟨(e.wfx_eq).2 ⟨fun _ => hl,by rw [hl]; simp,fun x hx => by rw [hl] at hx; cases hx⟩,?_⟩,?_⟩
 ·rw [Ex.ht_eq,hl]; decide
 ·rw [Ex.cnt_eq,hl]; rfl
theorem fine_of {e : Ex} (hk : ¬ (e.k = 0 ∨ e.k = 1 ∨ e.k = 2)) (hl : ∀ x ∈ e.l,Fine x) (hn : e.l.length ≤ 1000000) : e.wfx:=
 (e.wfx_eq).2 ⟨fun h => absurd h hk,hn,fun x hx => (hl x hx).1⟩
theorem bin_wfx {s : ByteArray} {x y : Ex} (hx : Fine x) (hy : Fine y) : (eBin s x y).wfx:=fine_of (show ¬ ((5 : Int) = 0 ∨ (5 : Int) = 1 ∨ (5 : Int) = 2) by decide) (fun z hz => by
 have : z = x ∨ z = y:=by simpa [eBin,Ex.l] using hz
 rcases this with rfl | rfl
 ·exact hx
 ·exact hy) (by simp [eBin,Ex.l])
theorem un_wfx {a : Int} {s : ByteArray} {x : Ex} (hx : Fine x) : (eUn a s x).wfx:=fine_of (show ¬ ((4 : Int) = 0 ∨ (4 : Int) = 1 ∨ (4 : Int) = 2) by decide) (fun z hz => by
 have : z = x:=by simpa [eUn,Ex.l] using hz
 rw [this]; exact hx) (by simp [eUn,Ex.l])
theorem open_wfx {a : Int} {s : ByteArray} {x : Ex} (hx : Fine x) : (eOpen a s x).wfx:=fine_of (show ¬ ((6 : Int) = 0 ∨ (6 : Int) = 1 ∨ (6 : Int) = 2) by decide) (fun z hz => by
 have : z = x:=by simpa [eOpen,Ex.l] using hz
 rw [this]; exact hx) (by simp [eOpen,Ex.l])
theorem call_wfx {a : Int} {s : ByteArray} {l : List Ex} (hl : ∀ x ∈ l,Fine x) (hn : l.length ≤ 1000000) : (eCall a s l).wfx:=fine_of (show ¬ ((3 : Int) = 0 ∨ (3 : Int) = 1 ∨ (3 : Int) = 2) by decide) hl hn
theorem bin_cnt (s : ByteArray) (x y : Ex) : (eBin s x y).cnt = x.cnt + y.cnt + 1:=by rw [Ex.cnt_eq]; show x.cnt + (y.cnt + 0) + 1 = _; omega
theorem un_cnt (a : Int) (s : ByteArray) (x : Ex) : (eUn a s x).cnt = x.cnt + 1:=by rw [Ex.cnt_eq]; rfl
theorem open_cnt (a : Int) (s : ByteArray) (x : Ex) : (eOpen a s x).cnt = x.cnt + 1:=by rw [Ex.cnt_eq]; rfl
theorem call_cnt (a : Int) (s : ByteArray) (l : List Ex) : (eCall a s l).cnt = cnts l + 1:=by rw [Ex.cnt_eq]; rfl
theorem bad_fine {m : Md} {a p : Nat} {r : Int} (h : r ≠ 0) : FineR m a (bad p r):=fun e => absurd e h
theorem hld_fine {m : Md} {e : Ex} {a p q : Nat} (hm : ∀ g : Gt,FineR m a g = (g.r = 0 → Fine g.e ∧ g.e.cnt + a ≤ g.p)) (hw : e.wfx) (hc : e.cnt + a ≤ p) : FineR m a (hld e p q):=by
 rw [hm]
 intro h0
 rcases hld_p e p q with ⟨_,h2,h3,h4⟩ | ⟨h1,_,_⟩
 ·rw [h2,h3]; exact ⟨⟨hw,h4⟩,hc⟩
 ·rw [h1] at h0; cases h0
theorem rd_fine {R : Rw} (hR : R.Ok) (hn : R.n ≤ 1000000) : ∀ (f : Nat) (m : Md) (a d : Nat),a ≤ R.n → (m.there = true → a < R.n) → m.pre → FineR m a (rd R f m a d):=by
 intro f
 induction f with
 | zero => intro m a d ha _ _; rw [rd_0]; exact bad_fine (by decide)
 | succ f ih =>
  intro m a d ha hth hpre
  cases m with
  | lev l =>
   by_cases h6 : 6 ≤ l
   ·rw [rd_lev6 h6]; exact ih .sg a d ha (fun h => by cases h) trivial
   ·rw [rd_lev h6]
    have h1:=rd_in hR f (.lev (l + 1)) a d ha (fun h => by cases h)
    have h2:=ih (.lev (l + 1)) a d ha (fun h => by cases h) trivial
    generalize rd R f (.lev (l + 1)) a d = g at h1 h2 ⊢
    by_cases h0 : g.r = 0
    ·rw [if_pos h0]
     have h3:=h2 h0
     have h4:=ih (.loop l g.e) g.p d h1.2.1 (fun h => by cases h) h3.1
     intro hr
     have h5:=h4 hr
     exact ⟨h5.1,by have:=h5.2; have:=h3.2; omega⟩
    ·rw [if_neg h0]; exact bad_fine h0
  | loop l e =>
   simp only [rd]
   by_cases hs : sgnL l (R.wd a) = true
   ·rw [if_pos hs]
    have hlt:=hR.sgnL_lt hs
    have h1:=rd_in hR f (.lev (l + 1)) (a + 1) d hlt (fun h => by cases h)
    have h2:=ih (.lev (l + 1)) (a + 1) d hlt (fun h => by cases h) trivial
    generalize rd R f (.lev (l + 1)) (a + 1) d = g at h1 h2 ⊢
    by_cases h0 : g.r = 0
    ·rw [if_pos h0]
     have h3:=h2 h0
     rcases hld_p (eBin (R.wd a) e g.e) g.p a with ⟨e1,e2,e3,e4⟩ | ⟨e1,e2,e3⟩
     ·rw [if_pos e1,e2,e3]
      have h4:=ih (.loop l (eBin (R.wd a) e g.e)) g.p d h1.2.1 (fun h => by cases h) ⟨bin_wfx hpre h3.1,e4⟩
      intro hr
      have h5:=h4 hr
      refine ⟨h5.1,?_⟩
      have h6:=h5.2
      rw [bin_cnt] at h6
      have:=h3.2
      omega
     ·rw [if_neg (by rw [e1]; decide),e1]; exact bad_fine (by decide)
    ·rw [if_neg h0]; exact bad_fine h0
   ·rw [if_neg hs]; exact fun _ => ⟨hpre,by show e.cnt + a ≤ a + e.cnt; omega⟩
  | sg =>
   simp only [rd]
   by_cases hs : (R.is a [33] || R.is a [45]) = true
   ·rw [if_pos hs]
    have hlt : a < R.n:=by
     rcases Bool.or_eq_true_iff.1 hs with h | h
     ·exact hR.is_lt h
     ·exact hR.is_lt h
    by_cases hd : d = 32
    ·rw [if_pos hd]; exact bad_fine (by decide)
    ·rw [if_neg hd]
     have h2:=ih .sg (a + 1) (d + 1) hlt (fun h => by cases h) trivial
     generalize rd R f .sg (a + 1) (d + 1) = g at h2 ⊢
     by_cases h0 : g.r = 0
     ·rw [if_pos h0]
      have h3:=h2 h0
      exact hld_fine (m:=.sg) (fun _ => rfl) (un_wfx h3.1) (by rw [un_cnt]; have:=h3.2; omega)
     ·rw [if_neg h0]; exact bad_fine h0
   ·rw [if_neg hs]; exact ih .pr a d ha (fun h => by cases h) trivial
  | pr =>
   simp only [rd]
   have hleaf : ∀ e : Ex,e.l = [] → FineR .pr a (good e (a + 1)):=fun e he _ => by
    have:=fine_leaf he
    exact ⟨this.1,by rw [show (good e (a + 1)).e = e from rfl,show (good e (a + 1)).p = a + 1 from rfl,this.2]; omega⟩
   split
   ·split
    ·exact hleaf _ rfl
    ·exact bad_fine (by decide)
   ·split
    ·exact hleaf _ rfl
    ·split
     ·exact hleaf _ rfl
     ·split
      ·have h2:=ih .gr a d ha (fun h => by cases h) trivial
       generalize rd R f .gr a d = g at h2 ⊢
       by_cases h0 : g.r = 0
       ·rw [if_pos h0]
        have h3:=h2 h0
        split
        ·exact fun _ => ⟨h3.1,by show g.e.cnt + a ≤ g.p + 1; have:=h3.2; omega⟩
        ·exact bad_fine (by decide)
       ·rw [if_neg h0]; exact bad_fine h0
      ·split
       ·rename_i h
        exact ih .op a d ha (fun _ => hR.is_lt h) trivial
       ·exact ih .nm a d ha (fun h => by cases h) trivial
  | gr =>
   simp only [rd]
   split
   ·rename_i h
    have hlt:=hR.is_lt h
    split
    ·exact bad_fine (by decide)
    ·have h2:=ih (.lev 1) (a + 1) (d + 1) hlt (fun h => by cases h) trivial
     generalize rd R f (.lev 1) (a + 1) (d + 1) = g at h2 ⊢
     by_cases h0 : g.r = 0
     ·rw [if_pos h0]
      have h3:=h2 h0
      exact fun _ => ⟨h3.1,by show g.e.cnt + a ≤ g.p; have:=h3.2; omega⟩
     ·rw [if_neg h0]; exact bad_fine h0
   ·exact bad_fine (by decide)
  | op =>
   simp only [rd]
   have hlt:=hth rfl
   have h2:=ih .gr (a + 1) d hlt (fun h => by cases h) trivial
   generalize rd R f .gr (a + 1) d = g at h2 ⊢
   by_cases h0 : g.r = 0
   ·rw [if_pos h0]
    have h3:=h2 h0
    split
    ·split
     ·split
      ·split
       ·exact hld_fine (m:=.op) (fun _ => rfl) (open_wfx h3.1) (by rw [open_cnt]; have:=h3.2; omega)
       ·exact bad_fine (by decide)
      ·exact bad_fine (by decide)
     ·exact bad_fine (by decide)
    ·exact bad_fine (by decide)
   ·rw [if_neg h0]; exact bad_fine h0
  | nm =>
   simp only [rd]
   have hnl:=hR.name_lt ha
   split
   ·rename_i h
    have hlt:=hnl.2.2 h
    split
    ·rename_i h
     have h1:=rd_in hR f .ar (R.name a).2.2 d hnl.1 (fun _ => hR.is_lt h)
     have h2:=ih .ar (R.name a).2.2 d hnl.1 (fun _ => hR.is_lt h) trivial
     generalize rd R f .ar (R.name a).2.2 d = g at h1 h2 ⊢
     by_cases h0 : g.r = 0
     ·rw [if_pos h0]
      have h3:=h2 h0
      have h4:=h3.2
      have h5:=cnts_len g.e.l
      have h6:=h1.2.1
      exact hld_fine (m:=.nm) (fun _ => rfl) (call_wfx h3.1 (by omega)) (by rw [call_cnt]; omega)
     ·rw [if_neg h0]; exact bad_fine h0
    ·intro _
     have:=fine_leaf (e:=eName (R.ps a) (R.name a).2.1) rfl
     exact ⟨this.1,by show (eName (R.ps a) (R.name a).2.1).cnt + a ≤ (R.name a).2.2; rw [this.2]; omega⟩
   ·exact bad_fine (by decide)
  | ar =>
   simp only [rd]
   split
   ·exact bad_fine (by decide)
   ·split
    ·exact fun _ => ⟨(fun x hx => by cases hx),by show 0 + a + 1 ≤ a + 2; omega⟩
    ·have h2:=ih (.an []) (a + 1) (d + 1) (hth rfl) (fun h => by cases h) (fun x hx => by cases hx)
     intro hr
     have h3:=h2 hr
     exact ⟨h3.1,by have h4:=h3.2; rw [cnts_nil] at h4; omega⟩
  | an acc =>
   simp only [rd]
   have h1:=rd_in hR f (.lev 1) a d ha (fun h => by cases h)
   have h2:=ih (.lev 1) a d ha (fun h => by cases h) trivial
   generalize rd R f (.lev 1) a d = g at h1 h2 ⊢
   by_cases h0 : g.r = 0
   ·rw [if_pos h0]
    have h3:=h2 h0
    have hacc : ∀ x ∈ acc ++ [g.e],Fine x:=fun x hx => by
     rcases List.mem_append.1 hx with h | h
     ·exact hpre x h
     ·rw [List.mem_singleton.1 h]; exact h3.1
    split
    ·rename_i h
     have h4:=ih (.an (acc ++ [g.e])) (g.p + 1) d (hR.is_lt h) (fun h => by cases h) hacc
     intro hr
     have h5:=h4 hr
     refine ⟨h5.1,?_⟩
     have h6:=h5.2
     rw [cnts_app,cnts_cons,cnts_nil] at h6
     have:=h3.2
     omega
    ·split
     ·refine fun _ => ⟨hacc,?_⟩
      show cnts (acc ++ [g.e]) + a ≤ g.p + 1 + cnts acc
      rw [cnts_app,cnts_cons,cnts_nil]
      have:=h3.2
      omega
     ·exact bad_fine (by decide)
   ·rw [if_neg h0]; exact bad_fine h0
end Go.Proofs.YtkjhlgnpohamnaaGreatDoor
namespace Go.Proofs.YtkjhlgnpohamnaaGreatDoor
set_option linter.unusedVariables false
set_option linter.unusedSimpArgs false
open Go.RowKit
theorem alone_any (k : Int) (w : World) (h : ¬ (k = 0 ∨ k = 1 ∨ k = 2)) : CP 170 #[.int .i64 k] w fun e w' => e = .returned (.bool false) ∧ w = w':=by
 have e0 : (k == 0) = false:=by simp; omega
 have e1 : (k == 1) = false:=by simp; omega
 have e2 : (k == 2) = false:=by simp; omega
 clear h
 go_enter Tryz.func170,Tryz.ntmps170
 go_wp2
 go_ret
 exact ⟨by simp [e0,e1,e2],rfl⟩
theorem rowXs : RowT Tryz.prog 221 75 1 24:=RowT.mk (z:=.slice none 0 0) Tryz.underlying221 (by kernel_rfl) rfl (by omega)
def ShR (w : World) (A : Option Addr) (n : Nat) (PL : List (Value × List Ex)) : Prop:=Sh w w.heap.size A n (PL.map (·.1)) ∧ PL.length = n ∧ ∀ p ∈ PL,p.2 ≠ [] ∧ Shx w (fun _ => True) p.1 p.2
def flat (PL : List (Value × List Ex)) : List Ex:=(PL.map (·.2)).flatten
theorem flat_cons (p : Value × List Ex) (PL : List (Value × List Ex)) : flat (p :: PL) = p.2 ++ flat PL:=by simp [flat]
theorem flat_snoc (PL : List (Value × List Ex)) (p : Value × List Ex) : flat (PL ++ [p]) = flat PL ++ p.2:=by simp [flat]
theorem flat_split (PL : List (Value × List Ex)) (k : Nat) : flat PL = flat (PL.take k) ++ flat (PL.drop k):=by
 unfold flat
 rw [← List.flatten_append,← List.map_append,List.take_append_drop]
theorem flat_ne {PL : List (Value × List Ex)} (h : ∀ p ∈ PL,p.2 ≠ []) (hn : 0 < PL.length) : flat PL ≠ []:=by
 cases PL with
 | nil => simp at hn
 | cons p PL =>
  have:=h p (by simp)
  unfold flat
  simp [this]
theorem flat_take {PL : List (Value × List Ex)} {k : Nat} {p : Value × List Ex} (h : PL[k]? = some p) : flat (PL.take (k + 1)) = flat (PL.take k) ++ p.2:=by
 rw [List.take_add_one,h]
 exact flat_snoc _ _
theorem wpList_ldx' {ops : Array Oper} {rest : List Oper} {o : Oper} {a : Act} {w : World} {Q : Exit → Act → World → Prop} (hgd : o.guard = none) (x : Operand) (ho : o.op = .load 77 x) (G off : Nat) (hx : a.eval x = .pointer (some ⟨G,off,none⟩)) {e : Ex} {lv : Value} (hs : w.rangeAt G off (exC e lv))
  (h : wpList Tryz.prog ops Q rest (a.put o.dst (.agg #[.int .i64 e.k,.int .i64 e.a,.int .i64 e.m,.string e.nm,.string e.lb,lv])) w) : wpList Tryz.prog ops Q (o :: rest) a w:=
 wpList_ldx hgd x ho G off hx hs h
set_option maxRecDepth 10000 in
theorem height_any (x : Ex) (hx : x.wfx) (hc : x.cnt ≤ 1000000) (lv : Value) (w : World) (S : Nat → Prop) (h : Shx w S lv x.l) :
  CP 154 #[exV x lv] w fun e w' => e = .returned (.int .i64 (x.ht : Int)) ∧ Below w.heap.size w w':=by
 have h1:=h.one
 have hz:=zeroEx'
 have hht : x.ht ≤ 1000000:=Nat.le_trans (by
  have : ∀ e : Ex,e.ht ≤ e.cnt:=Ex.ind fun k a m nm lb l ih => by
   rw [Ex.ht_eq,Ex.cnt_eq]
   show hts l + 1 ≤ cnts l + 1
   have : ∀ l : List Ex,(∀ x ∈ l,x.ht ≤ x.cnt) → hts l ≤ cnts l:=by
    intro l
    induction l with
    | nil => intro _; exact Nat.le_refl _
    | cons y l ih =>
     intro h
     rw [hts_cons,cnts_cons]
     have h1:=h y (by simp)
     have h2:=ih fun z hz => h z (by simp [hz])
     omega
   have:=this l ih
   omega
  exact this x) hc
 unfold exV
 go_enter Tryz.func154,Tryz.ntmps154
 go_wp2_with fail
 obtain ⟨w1,hw1⟩ : ∃ w1,w1 = ((w.alloc (.cells #[.int .i64 x.k,.int .i64 x.a,.int .i64 x.m,.string x.nm,.string x.lb,lv] 77)).alloc (.cells #[.int .i64 x.k,.int .i64 x.a,.int .i64 x.m,.string x.nm,.string x.lb,lv] 77)).alloc (.cells #[.slice (some ⟨w.heap.size + 1,0,none⟩) 1 1] 75):=⟨_,rfl⟩
 have hb1 : Below w.heap.size w w1:=by rw [hw1]; exact (((Below.refl _ w).alloc nLe _).alloc (by simp) _).alloc (by simp; omega) _
 have hs1 : ShR w1 (some ⟨w.heap.size + 1 + 1,0,none⟩) 1 [(.slice (some ⟨w.heap.size + 1,0,none⟩) 1 1,[x])]:=by
  refine ⟨?_,rfl,?_⟩
  ·have:=Sh.lit ((w.alloc (.cells #[.int .i64 x.k,.int .i64 x.a,.int .i64 x.m,.string x.nm,.string x.lb,lv] 77)).alloc (.cells #[.int .i64 x.k,.int .i64 x.a,.int .i64 x.m,.string x.nm,.string x.lb,lv] 77)) [.slice (some ⟨w.heap.size + 1,0,none⟩) 1 1] 75
   rw [hw1]
   simpa using this
  ·intro p hp
   obtain rfl : p = (.slice (some ⟨w.heap.size + 1,0,none⟩) 1 1,[x]):=by simpa using hp
   refine ⟨by simp,?_⟩
   have hA : Shx (w.alloc (.cells #[.int .i64 x.k,.int .i64 x.a,.int .i64 x.m,.string x.nm,.string x.lb,lv] 77)) (fun _ => True) lv x.l:=(h.weak (S':=fun _ => True) fun _ _ _ => trivial).under ((Below.refl _ w).alloc nLe _) (fun b _ hb => hb)
   have hB:=Shx.lit [(x,lv)] (by simp) (fun p hp => by obtain rfl : p = (x,lv):=(by simpa using hp); exact hA) trivial (C:=#[.int .i64 x.k,.int .i64 x.a,.int .i64 x.m,.string x.nm,.string x.lb,lv]) rfl
   have hC:=hB.under (bRf.alloc nLe (.cells #[.slice (some ⟨w.heap.size + 1,0,none⟩) 1 1] 75)) (fun b _ hb => hb)
   rw [hw1]
   simpa using hC
 have hf1 : x.ht = hts (flat [((.slice (some ⟨w.heap.size + 1,0,none⟩) 1 1 : Value),[x])]):=by
  show _ = max x.ht 0
  omega
 have hf2 : cnts (flat [((.slice (some ⟨w.heap.size + 1,0,none⟩) 1 1 : Value),[x])]) ≤ 1000000:=by
  show x.cnt + 0 ≤ _
  omega
 have hf3 : wfs (flat [((.slice (some ⟨w.heap.size + 1,0,none⟩) 1 1 : Value),[x])]):=fun y hy => by
  have : y = x:=by simpa [flat] using hy
  rw [this]; exact hx
 rw [← hw1]
 have HB1:=Lh hb1
 have HS1:=Lh hs1
 have HF1:=Lh hf1
 have HF3:=Lh hf3
 clear hw1 hb1 hs1 hf1 hf3 h hx
 go_loopw [3,4] (fun hv rv wr => ∃ (k n : Nat) (A : Option Addr) (c : Nat) (PL : List (Value × List Ex)),hv = .int .i64 (k : Int) ∧ rv = .slice A n c ∧ ShR wr A n PL ∧ k + hts (flat PL) = x.ht ∧ cnts (flat PL) ≤ 1000000 ∧ wfs (flat PL) ∧ Below w.heap.size w wr) (fun hv _ _ => x.ht - (intOf hv).toNat)
 case atStart => exact ⟨0,1,_,1,_,rfl,rfl,HS1.out,by rw [← HF1.out]; omega,hf2,HF3.out,HB1.out⟩
 case round =>
  obtain ⟨k,n,A,c,PL,rfl,rfl,hsr,hk,hcn,hwf,hb⟩:=hrel
  have HSR:=Lh hsr
  have HK:=Lh hk
  have HWF:=Lh hwf
  have HB:=Lh hb
  have hnl : n ≤ 1000000:=by
   have h1 : ∀ PL : List (Value × List Ex),(∀ p ∈ PL,p.2 ≠ []) → PL.length ≤ (flat PL).length:=by
    intro PL
    induction PL with
    | nil => intro _; exact Nat.le_refl _
    | cons p PL ih =>
     intro h
     have h1:=ih fun q hq => h q (by simp [hq])
     have h2 : 0 < p.2.length:=List.length_pos_iff.2 (h p (by simp))
     rw [flat_cons,List.length_append,List.length_cons]
     omega
   have h2:=h1 PL fun p hp => (hsr.2.2 p hp).1
   have h3:=cnts_len (flat PL)
   have:=hsr.2.1
   omega
  have hkh : k ≤ x.ht:=by omega
  have HHT:=Lh hht
  clear hsr hk hwf hb HS1 HF1 HF3 hf2 HB1
  by_cases h0 : n = 0
  ·subst h0
   have HP : Hid (PL = []):=Lh (List.eq_nil_of_length_eq_zero HSR.out.2.1)
   go_wp2
   go_ret
   refine ⟨?_,HB.out⟩
   have:=HK.out
   rw [HP.out] at this
   rw [← this]
   rfl
  ·have hpos : decide ((0 : Int) < (n : Int)) = true:=by simp; omega
   have hposn : decide (0 < n) = true:=by simp; omega
   have h0n : 0 < n:=by omega
   have H0N:=Lh h0n
   clear h0n h0
   go_wp2
   obtain ⟨wo,rfl⟩ : ∃ wo,wo = wr:=⟨_,rfl⟩
   obtain ⟨B,hB⟩ : ∃ B,wo.heap.size = B:=⟨_,rfl⟩
   have HBB:=Lh hB
   have htr : ∀ p ∈ PL,p.2 ≠ [] ∧ Shx wo (fun b => b < B) p.1 p.2:=fun p hp => ⟨(HSR.out.2.2 p hp).1,(HSR.out.2.2 p hp).2.weak fun b _ hb => by omega⟩
   have HTR:=Lh htr
   have hlen : PL.length = n:=HSR.out.2.1
   have HLEN:=Lh hlen
   clear htr hlen hB
   obtain ⟨b,off,_,hA,hbb,_,_⟩:=HSR.out.1.at H0N.out
   subst hA
   go_loopw [5,20] (fun bv iv wm => ∃ (j : Nat) (PM : List (Value × List Ex)),iv = .int .i64 (j : Int) ∧ j ≤ n ∧ Own wm B 75 1 bv PM.length (PM.map (·.1)) ∧ (∀ p ∈ PM,p.2 ≠ [] ∧ Shx wm (fun b => b < B) p.1 p.2) ∧ flat PM = under (flat (PL.take j)) ∧ PM.length ≤ (flat (PL.take j)).length ∧ Below B wo wm) (fun _ iv _ => n - (intOf iv).toNat)
   case atStart => exact ⟨0,[],rfl,Nat.zero_le _,Own.nil _ _ _ _ (by rw [HBB.out]; exact Nat.le_refl _),(fun p hp => by cases hp),rfl,Nat.zero_le _,Below.refl _ _⟩
   case round =>
    obtain ⟨j,PM,rfl,hj,ho,hpm,hfl,hpl,hbm⟩:=hrel
    have HO:=Lh ho
    have HPM:=Lh hpm
    have HFL:=Lh hfl
    have HPL:=Lh hpl
    have HBM:=Lh hbm
    clear ho hpm hfl hpl hbm
    by_cases hjn : j < n
    ·obtain ⟨_,_,u,hA,_,hu,hcell⟩:=(HSR.out.1.below (by rw [HBB.out]; exact HBM.out)).at hjn
     cases hA
     rw [List.getElem?_map] at hu
     obtain ⟨p,hp,rfl⟩:=Option.map_eq_some_iff.1 hu
     obtain ⟨v,l⟩:=p
     obtain ⟨hpn,hps⟩:=HTR.out _ (List.mem_of_getElem? hp)
     dsimp only at hpn hps hcell
     obtain ⟨A2,c2,rfl,hlc⟩:=hps.len
     have HP:=Lh hp
     have HPS:=Lh hps
     have hfj : (flat (PL.take j)).length + l.length ≤ 1000000:=by
      have h1:=congrArg List.length (flat_take hp)
      have h2:=congrArg List.length (flat_split PL (j + 1))
      have h3:=cnts_len (flat PL)
      rw [List.length_append] at h1 h2
      dsimp only at h1
      omega
     have hll : l.length ≤ 1000000:=by omega
     have hlpos : 0 < l.length:=List.length_pos_iff.2 hpn
     obtain ⟨b2,off2,_,_,hA2,_,_,_,_,_,_⟩:=hps.at hlpos
     subst hA2
     have HPN:=Lh hpn
     have HFJ:=Lh hfj
     have HLW : Hid (wfs l):=Lh (fun y hy => HWF.out y (by
      unfold flat
      exact List.mem_flatten.2 ⟨l,List.mem_map.2 ⟨_,List.mem_of_getElem? hp,rfl⟩,hy⟩))
     obtain ⟨m,hm⟩ : ∃ m,l.length = m:=⟨_,rfl⟩
     have HM:=Lh hm
     rw [hm] at hlc hll hfj HPS hcell
     clear hp hps hpn hu hm hfj
     go_wp2
     obtain ⟨wi,rfl⟩ : ∃ wi,wi = wr:=⟨_,rfl⟩
     go_loopw [5,26] (fun bv iv wq => ∃ (q : Nat) (PM : List (Value × List Ex)),iv = .int .i64 (q : Int) ∧ q ≤ m ∧ Own wq B 75 1 bv PM.length (PM.map (·.1)) ∧ (∀ p ∈ PM,p.2 ≠ [] ∧ Shx wq (fun b => b < B) p.1 p.2) ∧ flat PM = under (flat (PL.take j) ++ l.take q) ∧ PM.length ≤ (flat (PL.take j)).length + q ∧ Below B wo wq) (fun _ iv _ => m - (intOf iv).toNat)
     case atStart => exact ⟨0,PM,rfl,Nat.zero_le _,HO.out,HPM.out,by rw [List.take_zero,List.append_nil]; exact HFL.out,HPL.out,HBM.out⟩
     case round =>
      obtain ⟨q,PN,rfl,hq,ho,hpm,hfl,hpl,hbm⟩:=hrel
      have HON:=Lh ho
      have HPN2:=Lh hpm
      have HFN:=Lh hfl
      have HPLN:=Lh hpl
      have HBN:=Lh hbm
      clear ho hpm hfl hpl hbm
      by_cases hqm : q < m
      ·have hss : Shx wr (fun b => b < B) (.slice (some ⟨b2,off2,none⟩) m c2) l:=HPS.out.under HBN.out (fun b h1 _ => h1)
       obtain ⟨_,_,y,lv2,hA2,hy,_,hrange,hys,_,_⟩:=hss.at hqm
       cases hA2
       have HR:=Lh hrange
       have HYS:=Lh hys
       have HY:=Lh hy
       have hone:=hys.one
       obtain ⟨A3,c3,rfl,hlc3⟩:=hys.len
       have hwy:=HLW.out y (List.mem_of_getElem? hy)
       have hwy1:=((y.wfx_eq).1 hwy).1
       have hwy2:=((y.wfx_eq).1 hwy).2.1
       have hge:=HON.out.2
       have hpn3 : PN.length ≤ 1000000:=by have:=HPLN.out; have:=HFJ.out; rw [HM.out] at this; omega
       obtain ⟨r,hr⟩ : ∃ r,y.l.length = r:=⟨_,rfl⟩
       have HRL:=Lh hr
       rw [hr] at HR HYS hlc3 hwy2
       have HLF:=Lh hwy1
       have hb9 : ∀ t,Below B wo (wr.alloc (.cells #[.int .i64 y.k,.int .i64 y.a,.int .i64 y.m,.string y.nm,.string y.lb,.slice A3 r c3] t)):=fun t => HBN.out.alloc (by omega) _
       have HB9:=Lh hb9
       clear hss hrange hys hy hr hwy1 hwy hb9
       have hFq : flat (PL.take j) ++ l.take (q + 1) = (flat (PL.take j) ++ l.take q) ++ [y]:=by
        rw [List.take_add_one,HY.out,List.append_assoc]; rfl
       have HFQ:=Lh hFq
       clear hFq
       by_cases hr0 : r = 0
       ·subst hr0
        have HL0 : Hid (y.l = []):=Lh (List.eq_nil_of_length_eq_zero HRL.out)
        go_wp2_with (first
         | (refine wpList_ldx' rfl (.tmp 28) rfl b2 (off2 + q * 6) rfl HR.out ?_)
         | fail)
        go_roundw
        case rel =>
         refine ⟨q + 1,PN,by go_num,hqm,HON.out.alloc _,fun p hp => ⟨(HPN2.out p hp).1,(HPN2.out p hp).2.under ((Below.refl B wr).alloc hge _) (fun b h1 _ => h1)⟩,?_,by have:=HPLN.out; omega,HB9.out _⟩
         rw [HFQ.out,under_app,under_one,HL0.out,List.append_nil]
         exact HFN.out
        case measure => simp [intOf]; omega
       ·have hpos2 : (0 : Int) < (r : Int):=by omega
        have hal : ¬ (y.k = 0 ∨ y.k = 1 ∨ y.k = 2):=fun h => hr0 (by have:=HLF.out h; have h2:=HRL.out; rw [this] at h2; exact h2.symm)
        have HAL:=Lh hal
        clear hal
        go_wp2_with (first
         | (refine wpList_ldx' rfl (.tmp 28) rfl b2 (off2 + q * 6) rfl HR.out ?_)
         | (go_at_call 170; refine (alone_any _ _ HAL.out).mono ?_; rintro e w9 ⟨rfl,rfl⟩)
         | (at_builtin; refine wpList_push_g rfl (.tmp 40) (.tmp 43) 221 rfl rowXs _ B _ PN.length (PN.map (·.1)) [.slice A3 r c3] rfl (HON.out.alloc _) rfl (by simp) rfl (by intro z hz; simp at hz; subst hz; rfl) (by omega) (by omega) ?_; intro v2 w2 ho2 hg2)
         | fail)
        go_roundw
        case rel =>
         have hsz : wr.heap.size ≤ w2.heap.size:=by have:=hg2.size; simp at this; omega
         have hbelow : Below B wr w2:=((((Below.refl B wr).alloc hge _).alloc (by simp; omega) _).grown hg2 (by simp; omega) (fun k hk => (HON.out.1.lt k hk).1))
         refine ⟨q + 1,PN ++ [(.slice A3 r c3,y.l)],by go_num,hqm,?_,?_,?_,by have:=HPLN.out; simp; omega,HBN.out.trans hbelow⟩
         ·exact ho2.cast (by simp) (by simp)
         ·intro p hp
          rcases List.mem_append.1 hp with hp | hp
          ·exact ⟨(HPN2.out p hp).1,(HPN2.out p hp).2.under hbelow (fun b h1 _ => h1)⟩
          ·obtain rfl : p = (.slice A3 r c3,y.l):=by simpa using hp
           exact ⟨fun e => hr0 (by have h9 : y.l.length = r:=HRL.out; have e' : y.l = []:=e; rw [e'] at h9; exact h9.symm),HYS.out.under hbelow (fun b h1 _ => h1)⟩
         ·rw [HFQ.out,under_app,under_one,flat_snoc,HFN.out]
        case measure => simp [intOf]; omega
      ·obtain rfl : q = m:=by omega
       go_wp2
       go_roundw
       case rel =>
        have e1 : flat (PL.take j) ++ l.take q = flat (PL.take (j + 1)):=by
         rw [flat_take HP.out,List.take_of_length_le (l:=l) (by rw [HM.out]; exact Nat.le_refl _)]
        refine ⟨j + 1,PN,by go_num,hjn,HON.out,HPN2.out,by rw [← e1]; exact HFN.out,?_,HBN.out⟩
        have h2:=congrArg List.length (flat_take HP.out)
        rw [List.length_append] at h2
        dsimp only at h2
        have:=HPLN.out
        have:=HM.out
        omega
       case measure => simp [intOf]; omega
    ·obtain rfl : j = n:=by omega
     obtain ⟨A9,c9,rfl⟩:=HO.out.form
     go_wp2
     go_roundw
     case rel =>
      have e1 : PL.take j = PL:=List.take_of_length_le (by rw [HLEN.out]; exact Nat.le_refl _)
      have hF:=HFL.out
      rw [e1] at hF
      have hne : flat PL ≠ []:=flat_ne (fun p hp => (HTR.out p hp).1) (by rw [HLEN.out]; exact H0N.out)
      have hh:=under_hts hne
      have hcc:=under_cnt (flat PL)
      have hK:=HK.out
      refine ⟨k + 1,PM.length,A9,c9,PM,by go_num,rfl,⟨HO.out.sh,rfl,fun p hp => ⟨(HPM.out p hp).1,(HPM.out p hp).2.weak fun _ _ _ => trivial⟩⟩,?_,?_,?_,HB.out.trans (HBM.out.mono (by rw [← HBB.out]; exact HB.out.size))⟩
      ·rw [hF]; omega
      ·rw [hF]; omega
      ·rw [hF]; exact under_wfs HWF.out
     case measure =>
      have e1 : PL.take j = PL:=List.take_of_length_le (by rw [HLEN.out]; exact Nat.le_refl _)
      have hne : flat PL ≠ []:=flat_ne (fun p hp => (HTR.out p hp).1) (by rw [HLEN.out]; exact H0N.out)
      have hh:=under_hts hne
      have hK:=HK.out
      have hk1 : IntKind.i64.wrap ((k : Int) + 1) = (k : Int) + 1:=IntWalk.i64_in _ (by have:=HHT.out; omega)
      simp [intOf,hk1]
      omega
def PutTo (C : Cx) (S : Nat → Prop) (w : World) (G : Gt) (e : Ending) (w' : World) : Prop:=
 ∃ lv,e = .returned (.tuple #[exV G.e lv,.int .i64 G.r]) ∧ Shx w' S lv G.e.l ∧ w.grownBy w' (some C.g) ∧ Cur C w' G.p
theorem ex_done {F : Func} {i j : Nat} (hr : F.results = #[.cell i 77,.tmp j]) {a : Act} {W : World} {G : Nat} {x : Ex} {lv : Value} {r : Int} {Q : Ending → World → Prop} (hp : a.tmps.getD i undef = .pointer (some ⟨G,0,none⟩)) (hj : a.tmps.getD j undef = .int .i64 r) (hd : a.defers = []) (hs : Slot W G x lv)
  (hQ : Q (.returned (.tuple #[exV x lv,.int .i64 r])) W) : bodyPost Tryz.prog F Q Exit.ret a W:=by
 have hl:=ld_ex hs.cs
 have hp' : a.tmps[i]?.getD undef = .pointer (some ⟨G,0,none⟩):=by simpa using hp
 have hj' : a.tmps[j]?.getD undef = .int .i64 r:=by simpa using hj
 exact bodyPost_ret (v:=.tuple #[exV x lv,.int .i64 r]) (by simp [results,hr,hp',hj',asAddr,hl]) hd hQ
set_option maxRecDepth 10000 in
theorem put_any (C : Cx) (hC : TokOk C.T C.L) (p q : Nat) (w : World) (h : Cur C w p) (hq : q ≤ C.L.length) (x : Ex) (lv : Value) (S : Nat → Prop) (hx : x.wfx) (hc : x.cnt ≤ 1000000) (hs : Shx w S lv x.l) (hS : ∀ b,S b → b ≠ C.g) :
  CP 140 #[C.ptr,.int .i64 (q : Int),exV x lv] w (PutTo C S w (hld x p q)):=by
 have hone:=hs.one
 have hz:=zeroEx'
 have hlt:=h.lt
 have hln:=hC.len
 have b1 : Below w.heap.size w ((w.alloc (.cells #[.int .i64 x.k,.int .i64 x.a,.int .i64 x.m,.string x.nm,.string x.lb,lv] 77)).alloc (.cells z6 77)):=((Below.refl _ w).alloc nLe _).alloc (by simp) _
 have hsl : Slot ((w.alloc (.cells #[.int .i64 x.k,.int .i64 x.a,.int .i64 x.m,.string x.nm,.string x.lb,lv] 77)).alloc (.cells z6 77)) (w.heap.size + 1) Ex.nul (.slice none 0 0):=by
  have:=Slot.new (w.alloc (.cells #[.int .i64 x.k,.int .i64 x.a,.int .i64 x.m,.string x.nm,.string x.lb,lv] 77)) Ex.nul (.slice none 0 0) 77 (C:=#[.int .i64 0,.int .i64 0,.int .i64 0,.string ⟨#[]⟩,.string ⟨#[]⟩,.slice none 0 0]) rfl
  simpa using this
 have hsl5 : Slot ((w.alloc (.cells #[.int .i64 x.k,.int .i64 x.a,.int .i64 x.m,.string x.nm,.string x.lb,lv] 77)).alloc (.cells z6 77)) w.heap.size x lv:=
  (Slot.new w x lv 77 rfl).below bAl (by simp)
 have hh:=height_any x hx hc lv _ S (hs.under b1 (fun b _ hb => hb))
 have HH:=Lh hh
 have H:=Lh (h.under b1)
 have HSL:=Lh hsl
 have HSL5:=Lh hsl5
 have HB1:=Lh b1
 have HSH:=Lh ((hs.weak (S':=fun b => S b ∧ b < w.heap.size) fun b h1 h2 => ⟨h1,h2⟩).under b1 (fun b _ hb => hb))
 have hs2 : ((w.alloc (.cells #[.int .i64 x.k,.int .i64 x.a,.int .i64 x.m,.string x.nm,.string x.lb,lv] 77)).alloc (.cells z6 77)).heap.size = w.heap.size + 2:=by simp
 have HS2:=Lh hs2
 clear hh b1 hsl hsl5 hs h hs2
 unfold exV
 by_cases hht : 32 < x.ht
 ·have ht1 : decide ((32 : Int) < (x.ht : Int)) = true:=by simp; omega
  have ht2 : decide (32 < x.ht) = true:=by simp; omega
  have HG : Hid (hld x p q = bad q 12):=Lh (by unfold hld; rw [if_pos hht])
  rw [HG.out]
  go_enter Tryz.func140,Tryz.ntmps140
  go_wp2_with (first
   | (go_at_call 154; refine HH.out.mono ?_; rintro e w2 ⟨rfl,b2⟩; have H2:=Lh (H.out.under b2); have hs2:=b2.size; rw [HS2.out] at hs2; have c2:=H2.out.pl; have f2:=H2.out.fz; have B2:=Lh b2; clear b2; dsimp only)
   | (refine wpList_stx rfl (.tmp 6) (.tmp 15) rfl (w.heap.size + 1) rfl (((HSL.out.below B2.out (by rw [HS2.out]; omega))).grown (H2.out.move hq).2 (by intro e; injection e; omega)) (e:=Ex.nul) (lv:=.slice none 0 0) rfl rfl ?_; intro w3 hg3 hs3; have HG3:=Lh hg3; have HS3:=Lh hs3; clear hg3 hs3)
   | fail)
  refine ex_done rfl rfl rfl rfl HS3.out ⟨.slice none 0 0,rfl,.nil,?_,?_⟩
  ·exact fr_new (gb_trans (fr_below (below_fr HB1.out _) B2.out) (H2.out.move hq).2) HG3.out (by omega)
  ·exact (H2.out.move hq).1.grown HG3.out (fun k e => by cases e; omega)
 ·have ht1 : decide ((32 : Int) < (x.ht : Int)) = false:=by simp; omega
  have ht2 : decide (32 < x.ht) = false:=by simp; omega
  have HG : Hid (hld x p q = good x p):=Lh (by unfold hld; rw [if_neg hht])
  rw [HG.out]
  go_enter Tryz.func140,Tryz.ntmps140
  go_wp2_with (first
   | (go_at_call 154; refine HH.out.mono ?_; rintro e w2 ⟨rfl,b2⟩; have H2:=Lh (H.out.under b2); have hs2:=b2.size; rw [HS2.out] at hs2; have B2:=Lh b2; have HX2:=Lh (HSL5.out.below b2 (by rw [HS2.out]; omega)); clear b2; dsimp only)
   | (refine wpList_ldx' rfl (.tmp 5) rfl w.heap.size 0 rfl HX2.out.cs ?_)
   | (refine wpList_stx rfl (.tmp 6) (.tmp 16) rfl (w.heap.size + 1) rfl (HSL.out.below B2.out (by rw [HS2.out]; omega)) (e:=x) (lv:=lv) rfl hone ?_; intro w3 hg3 hs3; have HG3:=Lh hg3; have HS3:=Lh hs3; clear hg3 hs3)
   | fail)
  refine ex_done rfl rfl rfl rfl HS3.out ⟨lv,rfl,?_,?_,?_⟩
  ·exact ((HSH.out.under B2.out (fun b _ hb => hb)).grown HG3.out (fun b hb hlt e => by injection e with e; have h1:=hb.2; omega)).weak (fun b h1 _ => h1.1)
  ·exact fr_new (fr_below (below_fr HB1.out _) B2.out) HG3.out (by omega)
  ·exact H2.out.grown HG3.out (fun k e => by cases e; omega)
theorem takeL (C : Cx) (hC : TokOk C.T C.L) (p : Nat) (w : World) (h : Cur C w p) (s : ByteArray) (hs : s.size ≠ 0) :
  CP 119 #[C.ptr,.string s] w (TakeTo C p (C.R.is p s.toList) w):=
 take_any C hC p w h s hs fun he => by
  obtain ⟨c,l,hl⟩ : ∃ c l,s.toList = c :: l:=by
   cases hh : s.toList with
   | nil => have:=toList_ne hs; rw [hh] at this; cases this
   | cons c l => exact ⟨c,l,rfl⟩
  rw [hl] at he
  exact (row_ok C.T C.L).is_lt he
def mustP (R : Rw) : Nat → List ByteArray → Nat × Int
 | p,[] => (p,0)
 | p,s :: r => if R.is p s.toList = true then mustP R (p + 1) r else (p,11)
def MustTo (C : Cx) (x : Nat × Int) (w : World) (e : Ending) (w' : World) : Prop:=e = .returned (.int .i64 x.2) ∧ Cur C w' x.1 ∧ w.grownBy w' (some C.g)
theorem Sh.gb {w w' : World} {B n : Nat} {A : Option Addr} {xs : List Value} {r : Option Nat} (h : Sh w B A n xs) (hB : B ≤ w.heap.size) (hg : w.grownBy w' r) (hr : ∀ b off,A = some ⟨b,off,none⟩ → some b ≠ r) : Sh w' B A n xs:=by
 refine ⟨h.1,fun hn => ?_⟩
 obtain ⟨b,off,e,hb,hc⟩:=h.2 hn
 exact ⟨b,off,e,hb,fun k u hu => (World.cell?_of_block (a:=⟨b,_,none⟩) (hg.block b (by omega) (hr b off e))).trans (hc k u hu)⟩
set_option maxRecDepth 10000 in
theorem must_any (C : Cx) (hC : TokOk C.T C.L) (p : Nat) (w : World) (h : Cur C w p) (ss : List ByteArray) (hss : ∀ s ∈ ss,s.size ≠ 0) (A : Option Addr) (n c : Nat) (hsh : Sh w w.heap.size A n (ss.map Value.string)) (hn : n ≤ 1000) (hA : ∀ b off,A = some ⟨b,off,none⟩ → b ≠ C.g) :
  CP 169 #[C.ptr,.slice A n c] w (MustTo C (mustP C.R p ss) w):=by
 have hl : ss.length = n:=by have:=hsh.len; simpa using this
 have HL:=Lh hl
 have HSS:=Lh hss
 have HSH:=Lh hsh
 have H:=Lh h
 have HA:=Lh hA
 obtain ⟨X,hX⟩ : ∃ X,mustP C.R p ss = X:=⟨_,rfl⟩
 rw [hX]
 have HX:=Lh hX
 clear hl hss hsh h hA hX
 go_enter Tryz.func169,Tryz.ntmps169
 go_wp2
 go_loopw [9] (fun iv wr => ∃ (k q : Nat),iv = .int .i64 (k : Int) ∧ k ≤ n ∧ Cur C wr q ∧ w.grownBy wr (some C.g) ∧ mustP C.R q (ss.drop k) = X) (fun iv _ => n - (intOf iv).toNat)
 case atStart => exact ⟨0,p,rfl,Nat.zero_le _,H.out,World.grownBy.refl _ _,HX.out⟩
 case round =>
  obtain ⟨k,q,rfl,hk,hcur,hg,hm⟩:=hrel
  have HC:=Lh hcur
  have HG:=Lh hg
  have HM:=Lh hm
  clear hcur hg hm
  by_cases hkn : k < n
  ·have hs1:=HSH.out.gb nLe HG.out (fun b off e he => HA.out b off e (by injection he))
   obtain ⟨b,off,u,hAe,hb,hu,hcell⟩:=hs1.at hkn
   rw [List.getElem?_map] at hu
   obtain ⟨s,hs,rfl⟩:=Option.map_eq_some_iff.1 hu
   have hsz:=HSS.out s (List.mem_of_getElem? hs)
   have hd : ss.drop k = s :: ss.drop (k + 1):=by
    have hlt : k < ss.length:=(List.getElem?_eq_some_iff.1 hs).1
    rw [List.drop_eq_getElem_cons hlt]
    congr 1
    exact (List.getElem?_eq_some_iff.1 hs).2
   have HT:=Lh (takeL C hC q wr HC.out s hsz)
   have HM2:=Lh (by have:=HM.out; rwa [hd] at this : mustP C.R q (s :: ss.drop (k + 1)) = X)
   clear hs1 hu hs hd
   subst hAe
   cases hq : C.R.is q s.toList with
   | true =>
    rw [hq] at HT
    have HM3 : Hid (mustP C.R (q + 1) (ss.drop (k + 1)) = X):=Lh (by have:=HM2.out; unfold mustP at this; rwa [if_pos hq] at this)
    go_wp2_with (first
     | (go_at_call 119; refine HT.out.mono ?_; rintro e w2 ⟨rfl,hc2,hg2,_⟩; have HC2:=Lh hc2; have HG2:=Lh hg2; clear hc2 hg2; dsimp only)
     | fail)
    go_roundw
    case rel => exact ⟨k + 1,q + 1,by go_num,hkn,HC2.out,gb_trans HG.out HG2.out,HM3.out⟩
    case measure => simp [intOf]; omega
   | false =>
    rw [hq] at HT
    have HM3 : Hid ((q,11) = X):=Lh (by have:=HM2.out; unfold mustP at this; rwa [if_neg (by rw [hq]; decide)] at this)
    go_wp2_with (first
     | (go_at_call 119; refine HT.out.mono ?_; rintro e w2 ⟨rfl,hc2,hg2,_⟩; have HC2:=Lh hc2; have HG2:=Lh hg2; clear hc2 hg2; dsimp only)
     | fail)
    go_ret
    rw [← HM3.out]
    exact ⟨rfl,HC2.out,gb_trans HG.out HG2.out⟩
  ·obtain rfl : k = n:=by omega
   have HM3 : Hid ((q,0) = X):=Lh (by
    have:=HM.out
    rwa [List.drop_of_length_le (by rw [HL.out]; exact Nat.le_refl _)] at this)
   go_wp2
   go_ret
   rw [← HM3.out]
   exact ⟨rfl,HC.out,HG.out⟩
def deepP (R : Rw) (p : Nat) (s : ByteArray) (d : Nat) : Nat × Int:=if R.is p s.toList = true then (if d = 32 then (p,12) else (p + 1,0)) else (p,11)
set_option maxRecDepth 10000 in
theorem deeper_any (C : Cx) (hC : TokOk C.T C.L) (p d : Nat) (w : World) (h : Cur C w p) (s : ByteArray) (hs : s.size ≠ 0) (hd : d ≤ 32) :
  CP 153 #[C.ptr,.string s,.int .i64 (d : Int)] w (MustTo C (deepP C.R p s d) w):=by
 have HP:=Lh (peek_any C hC p w h)
 have H:=Lh h
 have hlt:=h.lt
 have HM : Hid (∀ w2,Cur C w2 p → w.heap.size ≤ w2.heap.size → CP 169 #[C.ptr,.slice (some ⟨w2.heap.size,0,none⟩) 1 1] (w2.alloc (.cells #[.string s] 9)) (MustTo C (mustP C.R p [s]) (w2.alloc (.cells #[.string s] 9)))):=Lh fun w2 hc hsz => by
  refine must_any C hC p _ (hc.under bAl) [s] (fun t ht => by obtain rfl : t = s:=(by simpa using ht); exact hs) _ 1 1 ?_ (by omega) (fun b off e => by cases e; have:=hc.lt; omega)
  have:=Sh.lit w2 [.string s] 9
  simpa using this
 have HW : Hid (∀ x : Nat × Int,∀ w2 e w',Below w.heap.size w w2 → MustTo C x (w2.alloc (.cells #[.string s] 9)) e w' → MustTo C x w e w'):=Lh fun x w2 e w' hb ⟨h1,h2,h3⟩ => ⟨h1,h2,gb_trans (below_fr (hb.alloc hb.size _) _) h3⟩
 clear h
 cases hq : C.R.is p s.toList with
 | true =>
  have hq' : ((C.R.wd p).toList == s.toList) = true:=hq
  by_cases h32 : d = 32
  ·have HD : Hid (deepP C.R p s d = (p,12)):=Lh (by unfold deepP; rw [if_pos hq,if_pos h32])
   rw [HD.out]
   subst h32
   go_enter Tryz.func153,Tryz.ntmps153
   go_wp2_with (first
    | (go_at_call 56; refine HP.out.mono ?_; rintro e w2 ⟨rfl,b2⟩; have B2:=Lh b2; clear b2; dsimp only)
    | fail)
   go_ret
   exact ⟨rfl,H.out.under B2.out,below_fr B2.out _⟩
  ·have HD : Hid (deepP C.R p s d = mustP C.R p [s]):=Lh (by unfold deepP mustP; rw [if_pos hq,if_neg h32,if_pos hq]; rfl)
   rw [HD.out]
   have hd1 : decide ((d : Int) = 32) = false:=by simp; omega
   have hd2 : decide (d = 32) = false:=by simp; omega
   have hd3 : ((d : Int) == 32) = false:=by simp; omega
   clear h32
   go_enter Tryz.func153,Tryz.ntmps153
   go_wp2_with (first
    | (go_at_call 56; refine HP.out.mono ?_; rintro e w2 ⟨rfl,b2⟩; have B2:=Lh b2; clear b2; dsimp only)
    | (go_at_call 169; refine (HM.out w2 (H.out.under B2.out) B2.out.size).mono ?_; rintro e w3 h3; have H3:=Lh (HW.out _ _ _ _ B2.out h3); obtain ⟨rfl,_,_⟩:=h3; dsimp only)
    | fail)
   go_ret
   exact H3.out
 | false =>
  have hq' : ((C.R.wd p).toList == s.toList) = false:=hq
  have HD : Hid (deepP C.R p s d = mustP C.R p [s]):=Lh (by unfold deepP mustP; rw [if_neg (by rw [hq]; decide),if_neg (by rw [hq]; decide)])
  rw [HD.out]
  go_enter Tryz.func153,Tryz.ntmps153
  go_wp2_with (first
   | (go_at_call 56; refine HP.out.mono ?_; rintro e w2 ⟨rfl,b2⟩; have B2:=Lh b2; clear b2; dsimp only)
   | (go_at_call 169; refine (HM.out w2 (H.out.under B2.out) B2.out.size).mono ?_; rintro e w3 h3; have H3:=Lh (HW.out _ _ _ _ B2.out h3); obtain ⟨rfl,_,_⟩:=h3; dsimp only)
   | fail)
  go_ret
  exact H3.out
theorem ex_taken {C : Cx} {p : Nat} {s : ByteArray} (h : C.R.is p s.toList = true) : C.R.wd p = s:=by
 unfold Rw.is at h
 rw [ByteArray.toList_eq,ByteArray.toList_eq] at h
 apply ByteArray.ext
 apply Array.ext'
 simpa using h
theorem wpList_val {P : Program} {ops : Array Oper} {rest : List Oper} {o : Oper} {a : Act} {w : World} {Q : Exit → Act → World → Prop} (t : TypeId) (x i : Operand) (ho : o.op = .index t x i) (hgd : o.guard = none) (v : Value) (h : (execOp a.eval o).run P w = .ok (.value v) w) (hK : wpList P ops Q rest (a.put o.dst v) w) : wpList P ops Q (o :: rest) a w:=
 wpList_plain hgd fun K hK' => by
  unfold Oper.wp
  rw [h]
  exact hK' _ _ hK
def SgTo (C : Cx) (p : Nat) (y : Bool) (w : World) (e : Ending) (w' : World) : Prop:=
 e = .returned (.string (if y = true then C.R.wd p else ⟨#[]⟩)) ∧ Cur C w' (if y = true then p + 1 else p) ∧ w.grownBy w' (some C.g)
set_option maxRecDepth 10000 in
theorem sign_gen (C : Cx) (hC : TokOk C.T C.L) (p l : Nat) (w : World) (h : Cur C w p) (hl : l < 6) (s0 s1 : ByteArray) (h0 : s0.size ≠ 0) (c0 : w.cell? ⟨1,l * 2,none⟩ = some (.string s0)) (c1 : w.cell? ⟨1,l * 2 + 1,none⟩ = some (.string s1)) :
  CP 139 #[C.ptr,.int .i64 (l : Int)] w (SgTo C p (C.R.is p s0.toList || (decide (s1.size ≠ 0) && C.R.is p s1.toList)) w):=by
 have H:=Lh h
 clear h
 go_enter Tryz.func139,Tryz.ntmps139
 go_wp2
 go_loopw [10] (fun iv wr => ∃ k : Nat,iv = .int .i64 (k : Int) ∧ k ≤ 2 ∧ Cur C wr p ∧ w.grownBy wr (some C.g) ∧ (1 ≤ k → C.R.is p s0.toList = false) ∧ (2 ≤ k → (decide (s1.size ≠ 0) && C.R.is p s1.toList) = false)) (fun iv _ => 2 - (intOf iv).toNat)
 case atStart => exact ⟨0,rfl,by omega,H.out,World.grownBy.refl _ _,(fun h => by omega),(fun h => by omega)⟩
 case round =>
  obtain ⟨k,rfl,hk,hcur,hg,hk1,hk2⟩:=hrel
  have HC:=Lh hcur
  have HG:=Lh hg
  have HK1:=Lh hk1
  have HK2:=Lh hk2
  clear hcur hg hk1 hk2
  obtain rfl | rfl | rfl : k = 0 ∨ k = 1 ∨ k = 2:=by omega
  ·have HT:=Lh (takeL C hC p wr HC.out s0 h0)
   cases hq : C.R.is p s0.toList with
   | true =>
    rw [hq] at HT
    go_wp2_with (first
     | (go_at_call 119; refine HT.out.mono ?_; rintro e w2 ⟨rfl,hc2,hg2,_⟩; have HC2:=Lh hc2; have HG2:=Lh hg2; clear hc2 hg2; dsimp only)
     | (refine wpList_val 211 (.tmp 9) (.tmp 10) rfl rfl (.string s0) (by kernel_rfl) ?_)
     | fail)
    go_ret
    exact ⟨by rw [ex_taken hq]; rfl,HC2.out,gb_trans HG.out HG2.out⟩
   | false =>
    rw [hq] at HT
    go_wp2_with (first
     | (go_at_call 119; refine HT.out.mono ?_; rintro e w2 ⟨rfl,hc2,hg2,_⟩; have HC2:=Lh hc2; have HG2:=Lh hg2; clear hc2 hg2; dsimp only)
     | (refine wpList_val 211 (.tmp 9) (.tmp 10) rfl rfl (.string s0) (by kernel_rfl) ?_)
     | fail)
    go_roundw
    case rel => exact ⟨1,by go_num,by omega,HC2.out,gb_trans HG.out HG2.out,(fun _ => by first | rfl | trivial),(fun h => by omega)⟩
    case measure => simp [intOf]
  ·by_cases hs1 : s1.size = 0
   ·have hs2 : s1 = ⟨#[]⟩:=by
     apply ByteArray.ext
     exact Array.eq_empty_of_size_eq_zero hs1
    subst hs2
    have HT:=Lh (takeNone_any C hC p wr HC.out)
    have HQ : Hid (C.R.is p s0.toList = false):=Lh (HK1.out (by omega))
    go_wp2_with (first
     | (go_at_call 119; refine HT.out.mono ?_; rintro e w2 ⟨rfl,rfl⟩; dsimp only)
     | (refine wpList_val 211 (.tmp 9) (.tmp 10) rfl rfl (.string ⟨#[]⟩) (by kernel_rfl) ?_)
     | fail)
    go_roundw
    case rel => exact ⟨2,by go_num,by omega,HC.out,HG.out,(fun _ => by first | exact HQ.out | trivial),(fun h => by first | rfl | trivial)⟩
    case measure => simp [intOf]
   ·have HT:=Lh (takeL C hC p wr HC.out s1 hs1)
    have HQ : Hid (C.R.is p s0.toList = false):=Lh (HK1.out (by omega))
    have HD : Hid (decide (s1.size ≠ 0) = true):=Lh (by simpa using hs1)
    rw [HQ.out,HD.out]
    cases hq : C.R.is p s1.toList with
    | true =>
     rw [hq] at HT
     go_wp2_with (first
      | (go_at_call 119; refine HT.out.mono ?_; rintro e w2 ⟨rfl,hc2,hg2,_⟩; have HC2:=Lh hc2; have HG2:=Lh hg2; clear hc2 hg2; dsimp only)
      | (refine wpList_val 211 (.tmp 9) (.tmp 10) rfl rfl (.string s1) (by kernel_rfl) ?_)
      | fail)
     go_ret
     exact ⟨by rw [ex_taken hq]; rfl,HC2.out,gb_trans HG.out HG2.out⟩
    | false =>
     rw [hq] at HT
     go_wp2_with (first
      | (go_at_call 119; refine HT.out.mono ?_; rintro e w2 ⟨rfl,hc2,hg2,_⟩; have HC2:=Lh hc2; have HG2:=Lh hg2; clear hc2 hg2; dsimp only)
      | (refine wpList_val 211 (.tmp 9) (.tmp 10) rfl rfl (.string s1) (by kernel_rfl) ?_)
      | fail)
     go_roundw
     case rel => exact ⟨2,by go_num,by omega,HC2.out,gb_trans HG.out HG2.out,(fun _ => by first | exact HQ.out | trivial),(fun h => by first | (rw [HD.out,hq]; rfl) | rfl | trivial)⟩
     case measure => simp [intOf]
  ·have HQ : Hid ((C.R.is p s0.toList || (decide (s1.size ≠ 0) && C.R.is p s1.toList)) = false):=Lh (by rw [HK1.out (by omega),HK2.out (by omega)]; rfl)
   go_wp2
   go_ret
   unfold SgTo
   rw [HQ.out]
   exact ⟨rfl,HC.out,HG.out⟩
theorem sign_lev (C : Cx) (hC : TokOk C.T C.L) (p l : Nat) (w : World) (h : Cur C w p) (h1 : 1 ≤ l) (h5 : l ≤ 5) :
  CP 139 #[C.ptr,.int .i64 (l : Int)] w (SgTo C p (sgnL l (C.R.wd p)) w):=by
 have hv:=h.vars.lev
 have hcell : ∀ (j : Nat) v,levC[j]? = some v → w.cell? ⟨1,j,none⟩ = some v:=fun j v hj => by simpa using hv j v hj
 obtain rfl | rfl | rfl | rfl | rfl : l = 1 ∨ l = 2 ∨ l = 3 ∨ l = 4 ∨ l = 5:=by omega
 ·have e : sgnL 1 (C.R.wd p) = (C.R.is p (⟨#[124,124]⟩ : ByteArray).toList || (decide ((⟨#[]⟩ : ByteArray).size ≠ 0) && C.R.is p (⟨#[]⟩ : ByteArray).toList)):=by
   rw [show decide ((⟨#[]⟩ : ByteArray).size ≠ 0) = false by decide,Bool.false_and,Bool.or_false,ByteArray.toList_eq]
   rfl
  rw [e]
  exact sign_gen C hC p 1 w h (by omega) ⟨#[124,124]⟩ ⟨#[]⟩ (by decide) (hcell 2 _ rfl) (hcell 3 _ rfl)
 ·have e : sgnL 2 (C.R.wd p) = (C.R.is p (⟨#[38,38]⟩ : ByteArray).toList || (decide ((⟨#[]⟩ : ByteArray).size ≠ 0) && C.R.is p (⟨#[]⟩ : ByteArray).toList)):=by
   rw [show decide ((⟨#[]⟩ : ByteArray).size ≠ 0) = false by decide,Bool.false_and,Bool.or_false,ByteArray.toList_eq]
   rfl
  rw [e]
  exact sign_gen C hC p 2 w h (by omega) ⟨#[38,38]⟩ ⟨#[]⟩ (by decide) (hcell 4 _ rfl) (hcell 5 _ rfl)
 ·have e : sgnL 3 (C.R.wd p) = (C.R.is p (⟨#[61,61]⟩ : ByteArray).toList || (decide ((⟨#[60]⟩ : ByteArray).size ≠ 0) && C.R.is p (⟨#[60]⟩ : ByteArray).toList)):=by
   rw [show decide ((⟨#[60]⟩ : ByteArray).size ≠ 0) = true by decide,Bool.true_and,ByteArray.toList_eq,ByteArray.toList_eq]
   rfl
  rw [e]
  exact sign_gen C hC p 3 w h (by omega) ⟨#[61,61]⟩ ⟨#[60]⟩ (by decide) (hcell 6 _ rfl) (hcell 7 _ rfl)
 ·have e : sgnL 4 (C.R.wd p) = (C.R.is p (⟨#[43]⟩ : ByteArray).toList || (decide ((⟨#[45]⟩ : ByteArray).size ≠ 0) && C.R.is p (⟨#[45]⟩ : ByteArray).toList)):=by
   rw [show decide ((⟨#[45]⟩ : ByteArray).size ≠ 0) = true by decide,Bool.true_and,ByteArray.toList_eq,ByteArray.toList_eq]
   rfl
  rw [e]
  exact sign_gen C hC p 4 w h (by omega) ⟨#[43]⟩ ⟨#[45]⟩ (by decide) (hcell 8 _ rfl) (hcell 9 _ rfl)
 ·have e : sgnL 5 (C.R.wd p) = (C.R.is p (⟨#[42]⟩ : ByteArray).toList || (decide ((⟨#[]⟩ : ByteArray).size ≠ 0) && C.R.is p (⟨#[]⟩ : ByteArray).toList)):=by
   rw [show decide ((⟨#[]⟩ : ByteArray).size ≠ 0) = false by decide,Bool.false_and,Bool.or_false,ByteArray.toList_eq]
   rfl
  rw [e]
  exact sign_gen C hC p 5 w h (by omega) ⟨#[42]⟩ ⟨#[]⟩ (by decide) (hcell 10 _ rfl) (hcell 11 _ rfl)
def Digits (s : ByteArray) : Prop:=s.data.toList ≠ [] ∧ ∀ c ∈ s.data.toList,48 ≤ c.toNat ∧ c.toNat ≤ 57
theorem uint_dig (M : Nat) : ∀ (l : List UInt8) (acc : Nat),(∀ c ∈ l,48 ≤ c.toNat ∧ c.toNat ≤ 57) → (∃ u,Lib.parseUintM M acc l = .ok u) ∨ Lib.parseUintM M acc l = .range
 | [],acc,_ => .inl ⟨acc,by unfold Lib.parseUintM; rfl⟩
 | c :: l,acc,h => by
  unfold Lib.parseUintM
  rw [if_pos (h c (by simp))]
  split
  ·exact .inr rfl
  ·split
   ·exact .inr rfl
   ·exact uint_dig M l _ fun x hx => h x (by simp [hx])
theorem num_dig {s : ByteArray} (h : Digits s) : (∃ v,Lib.parseIntB 64 s.data.toList = .ok v ∧ numB s = some v) ∨ (Lib.parseIntB 64 s.data.toList = .range ∧ numB s = none):=by
 have hns : (∃ v,Lib.parseIntB 64 s.data.toList = .ok v) ∨ Lib.parseIntB 64 s.data.toList = .range:=by
  obtain ⟨h1,h2⟩:=h
  cases hl : s.data.toList with
  | nil => exact absurd hl h1
  | cons c r =>
   rw [hl] at h2
   have hc:=h2 c (by simp)
   unfold Lib.parseIntB Lib.parseUintB
   simp only
   have e43 : ¬ (c.toNat = 43 ∨ c.toNat = 45):=by omega
   rw [if_neg e43,if_neg (List.cons_ne_nil _ _)]
   rcases uint_dig (2 ^ 64 - 1) (c :: r) 0 h2 with ⟨u,hu⟩ | hu
   ·rw [hu]
    simp only
    split
    ·exact .inr rfl
    ·split
     ·exact .inr rfl
     ·exact .inl ⟨_,rfl⟩
   ·rw [hu]
    exact .inr rfl
 unfold numB
 rcases hns with ⟨v,hv⟩ | hv
 ·rw [hv]; exact .inl ⟨v,rfl,rfl⟩
 ·rw [hv]; exact .inr ⟨rfl,rfl⟩
def numG (R : Rw) (p : Nat) : Gt:=match numB (R.wd p) with
 | some v => good (eNum (R.ps p) v) (p + 1)
 | none => bad p 18
theorem numG_some {R : Rw} {p : Nat} {v : Int} (h : numB (R.wd p) = some v) : numG R p = good (eNum (R.ps p) v) (p + 1):=by unfold numG; rw [h]
theorem numG_none {R : Rw} {p : Nat} (h : numB (R.wd p) = none) : numG R p = bad p 18:=by unfold numG; rw [h]
theorem entry_slot (w : World) : Slot (w.alloc (.cells z6 77)) w.heap.size Ex.nul (.slice none 0 0):=Slot.new w Ex.nul (.slice none 0 0) 77 rfl
theorem entry_below (w : World) : Below w.heap.size w (w.alloc (.cells z6 77)):=(Below.refl _ w).alloc nLe _
theorem entry_size (w : World) : (w.alloc (.cells z6 77)).heap.size = w.heap.size + 1:=by simp
theorem parse_below {w w' : World} {t : TypeId} (h : w' = w ∨ ∃ s,w' = Lib.bytesWorld w t s) : Below w.heap.size w w':=by
 rcases h with rfl | ⟨s,rfl⟩
 ·exact Below.refl _ _
 ·exact ⟨rfl,rfl,rfl,by rw [Lib.bytesWorld_size]; omega,fun k hk => Lib.bytesWorld_at_old w _ s k (by omega)⟩
set_option maxRecDepth 10000 in
theorem number_any (C : Cx) (hC : TokOk C.T C.L) (p : Nat) (w : World) (h : Cur C w p) (hp : p < C.L.length) (hd : Digits (C.R.wd p)) (hsz : (C.R.wd p).size ≤ 1000000) (S : Nat → Prop) :
  CP 165 #[C.ptr] w (PutTo C S w (numG C.R p)):=by
 have hz:=zeroEx'
 have hlt:=h.lt
 have hln:=hC.len
 have H:=Lh (h.under (entry_below w))
 have HPO:=Lh (pos_any C hC p _ H.out)
 have HE:=Lh (entry_slot w)
 have HES:=Lh (entry_size w)
 have HEB:=Lh (entry_below w)
 have HPK : Hid (∀ w2,Cur C w2 p → CP 56 #[C.ptr] w2 fun e w' => e = .returned (.string (C.R.wd p)) ∧ Below w2.heap.size w2 w'):=Lh fun w2 h2 => peek_any C hC p w2 h2
 rcases num_dig hd with ⟨v,hv,hn⟩ | ⟨hv,hn⟩
 ·have HN:=Lh (numG_some (R:=C.R) hn)
  have HQ : Hid (∀ w2,CP 177 #[.string (C.R.wd p),.int .i64 10,.int .i64 64] w2 fun e w' => e = .returned (.tuple #[.int .i64 v,.nilIface]) ∧ Below w2.heap.size w2 w'):=Lh fun w2 => (Any.strconv_ParseInt_10_at64_ok Tryz.parseInt (C.R.wd p) (by omega) v hv w2).mono fun e w' ⟨h1,h2⟩ => ⟨h1,parse_below h2⟩
  rw [HN.out]
  clear hv hn hd h
  go_enter Tryz.func165,Tryz.ntmps165
  go_wp2_with (first
   | (go_at_call 32; refine HPO.out.mono ?_; rintro e w2 ⟨rfl,b2⟩; have H2:=Lh (H.out.under b2); have B2:=Lh b2; clear b2; dsimp only)
   | (go_at_call 56; refine (HPK.out _ H2.out).mono ?_; rintro e w3 ⟨rfl,b3⟩; have H3:=Lh (H2.out.under b3); have B3:=Lh b3; clear b3; dsimp only)
   | (go_at_call 177; refine (HQ.out _).mono ?_; rintro e w4 ⟨rfl,b4⟩; have H4:=Lh (H3.out.under b4); have B4:=Lh b4; have c2:=H4.out.pl; have f2:=H4.out.fz; clear b4; dsimp only)
   | (refine wpList_stx rfl (.tmp 2) (.tmp 27) rfl w.heap.size rfl (((HE.out.below B2.out (by rw [HES.out]; omega)).below (B3.out.mono B2.out.size) (by rw [HES.out]; omega) |>.below (B4.out.mono (Nat.le_trans B2.out.size B3.out.size)) (by rw [HES.out]; omega)).grown (H4.out.move hp).2 (by intro e; injection e; omega)) (e:=eNum (C.R.ps p) v) (lv:=.slice none 0 0) rfl rfl ?_; intro w5 hg5 hs5; have HG5:=Lh hg5; have HS5:=Lh hs5; clear hg5 hs5)
   | fail)
  refine ex_done rfl rfl rfl rfl HS5.out ⟨.slice none 0 0,rfl,.nil,?_,?_⟩
  ·exact fr_new (gb_trans (fr_below (fr_below (fr_below (below_fr HEB.out _) B2.out) B3.out) B4.out) (H4.out.move hp).2) HG5.out nLe
  ·exact (H4.out.move hp).1.grown HG5.out (fun k e => by cases e; omega)
 ·have HN:=Lh (numG_none (R:=C.R) hn)
  have HQ : Hid (∀ w2,Vars w2 → CP 177 #[.string (C.R.wd p),.int .i64 10,.int .i64 64] w2 fun e w' => ∃ x T N,e = .returned (.tuple #[.int .i64 x,.iface T (.pointer (some ⟨N,0,none⟩))]) ∧ Below w2.heap.size w2 w'):=Lh fun w2 hv2 => by
   obtain ⟨tp,pp,hr⟩:=hv2.rng
   exact (Any.strconv_ParseInt_10_at64_range Tryz.parseInt (C.R.wd p) (by omega) hv _ w2 hr (.inr ⟨_,_,rfl⟩)).mono fun e w' ⟨N,h1,_,_,h4⟩ => ⟨_,_,N,h1,h4⟩
  rw [HN.out]
  clear hv hn hd h
  go_enter Tryz.func165,Tryz.ntmps165
  go_wp2_with (first
   | (go_at_call 32; refine HPO.out.mono ?_; rintro e w2 ⟨rfl,b2⟩; have H2:=Lh (H.out.under b2); have B2:=Lh b2; clear b2; dsimp only)
   | (go_at_call 56; refine (HPK.out _ H2.out).mono ?_; rintro e w3 ⟨rfl,b3⟩; have H3:=Lh (H2.out.under b3); have B3:=Lh b3; clear b3; dsimp only)
   | (go_at_call 177; refine (HQ.out _ H3.out.vars).mono ?_; rintro e w4 ⟨x4,T4,N4,rfl,b4⟩; have H4:=Lh (H3.out.under b4); have B4:=Lh b4; clear b4; dsimp only)
   | (refine wpList_stx rfl (.tmp 2) (.tmp 17) rfl w.heap.size rfl ((HE.out.below B2.out (by rw [HES.out]; omega)).below (B3.out.mono B2.out.size) (by rw [HES.out]; omega) |>.below (B4.out.mono (Nat.le_trans B2.out.size B3.out.size)) (by rw [HES.out]; omega)) (e:=Ex.nul) (lv:=.slice none 0 0) rfl rfl ?_; intro w5 hg5 hs5; have HG5:=Lh hg5; have HS5:=Lh hs5; clear hg5 hs5)
   | fail)
  refine ex_done rfl rfl rfl rfl HS5.out ⟨.slice none 0 0,rfl,.nil,?_,?_⟩
  ·exact fr_new (fr_below (fr_below (fr_below (below_fr HEB.out _) B2.out) B3.out) B4.out) HG5.out nLe
  ·exact H4.out.grown HG5.out (fun k e => by cases e; omega)
end Go.Proofs.YtkjhlgnpohamnaaGreatDoor

import Derived.Test.YtkjhlgnpohamnaaGreatDoorSq
import Derived.Test.YtkjhlgnpohamnaaGreatDoorMSb
import Derived.Test.YtkjhlgnpohamnaaGreatDoorStN
namespace Go.Proofs.YtkjhlgnpohamnaaGreatDoor
set_option linter.unusedVariables false
set_option linter.unusedSimpArgs false
open Go.RowKit
theorem Own.cut {w : World} {B n m size : Nat} {e : TypeId} {A : Option Addr} {c : Nat} {xs : List Value} (h : Own w B e size (.slice A n c) n xs) (hm : m ≤ n) : Own w B e size (.slice A m c) m (xs.take (m * size)):=by
 have hl:=h.1.1
 have hms : m * size ≤ n * size:=Nat.mul_le_mul_right _ hm
 refine ⟨⟨by rw [List.length_take]; omega,?_⟩,h.2⟩
 rcases h.1.2 with ⟨e1,e2⟩ | ⟨g,cap,cur,e1,h1,h2,h3,h4,h5,h6⟩
 ·injection e1 with a1 a2 a3
  subst a1
  subst a3
  subst e2
  have : m = 0:=by omega
  subst this
  exact .inl ⟨rfl,rfl⟩
 ·injection e1 with a1 a2 a3
  subst a1
  subst a3
  refine .inr ⟨g,c,cur,rfl,h1,h2,by omega,h4,h5,?_⟩
  rw [← h6,List.take_take,Nat.min_eq_left hms]
section
variable {G : Nat} {w w' w6 : World} {rv av ov v6 : Value} {rl al : List (St × Tv)} {pl : List Pe} {e : Pe}
def shutV (e : Pe) (rv : Value) : Tv:=if e.b.ot = true then ⟨e.t.e,e.t.l,rv⟩ else ⟨e.t.e,rv,e.t.r⟩
theorem Pl.popped {A : Option Addr} {c n : Nat} (h : Pl G w rv (.slice A (n + 1) c) rl (pl ++ [e])) (hn : pl.length = n) (hal : e.al.length ≤ 1000000) :
  Pl G w e.av (.slice A n c) e.al pl ∧ TrS w (Fx G e.av (.slice A n c) pl) (e.b.shut (rl.map (·.1))) (shutV e rv):=by
 have hmem : e ∈ pl ++ [e]:=List.mem_append.2 (.inr (List.mem_singleton.2 rfl))
 have hin : ∀ x ∈ pl,x ∈ pl ++ [e]:=fun x hx => List.mem_append.2 (.inl hx)
 have hF : ∀ b,Fx G rv (.slice A (n + 1) c) (pl ++ [e]) b → b < w.heap.size → Fx G e.av (.slice A n c) pl b:=fun b hb _ => ⟨hb.1,fun hm => hb.2 (by
  rcases hm with hm | hm | ⟨x,hx,hm⟩
  ·exact .inr (.inr ⟨e,hmem,hm⟩)
  ·refine .inr (.inl ?_)
   cases A <;> exact hm
  ·exact .inr (.inr ⟨x,hin x hx,hm⟩))⟩
 have hpw:=List.pairwise_append.1 h.aa
 have hea : ∀ x ∈ pl,Apt x.av e.av:=fun x hx => hpw.2.2 x hx e (List.mem_singleton.2 rfl)
 have hop : Own w (G + 1) 200 19 (.slice A n c) n (bcs pl):=by
  have h1:=h.op
  have hln : (pl ++ [e]).length = n + 1:=by simp [hn]
  rw [hln] at h1
  refine (h1.cut (Nat.le_succ n)).cast rfl ?_
  rw [bcs_snoc,List.take_append_of_le_length (by rw [bcs_len,hn]; exact Nat.le_refl _),List.take_of_length_le (by rw [bcs_len,hn]; exact Nat.le_refl _)]
 have hrow : ShS w (Fx G e.av (.slice A n c) pl) rv (rl.map (·.1)):=ShS.of_own h.row rfl (fun p hp => (h.tr p hp).weak hF) fun b h1 h2 h3 => ⟨by omega,fun hm => by
  rcases hm with hm | hm | ⟨x,hx,hm⟩
  ·exact h.ar e hmem b h3 hm
  ·exact Own.apt h.row hop (by decide) b h3 hm
  ·exact h.ar x (hin x hx) b h3 hm⟩
 refine ⟨⟨(h.ah e hmem).1,hn ▸ hop,fun x hx => h.ah x (hin x hx),fun p hp => ((h.to_ e hmem).2 p hp).weak hF,fun x hx => ⟨(h.to_ x (hin x hx)).1.weak hF,fun p hp => ((h.to_ x (hin x hx)).2 p hp).weak hF⟩,
  fun x hx => (hea x hx).symm,hpw.1,hal,by have:=h.len.2; simp at this; omega⟩,?_⟩
 have ht:=(h.to_ e hmem).1.weak hF
 unfold Bk.shut shutV
 by_cases ho : e.b.ot = true
 ·rw [if_pos ho,if_pos ho]
  exact ⟨ht.e,ht.l,hrow⟩
 ·rw [if_neg ho,if_neg ho]
  exact ⟨ht.e,hrow,ht.r⟩
theorem Pl.app {o : Obj} (h : Pl G w av ov al pl) {x : St} {v : Tv} (ht : TrS w (Fx G av ov pl) x v)
  (ho : Own w6 (G + 1) 118 17 v6 (al.length + 1) (scs al ++ stC x v)) (hg : (w.alloc o).grownBy w6 av.ownBlock) (hv : v6.ownBlock = av.ownBlock ∨ v6.ownBlock = some (w.heap.size + 1)) (hl : al.length < 1000000) : Pl G w6 v6 ov (al ++ [(x,v)]) pl:=by
 have hs:=hg.size
 have hsz : w.heap.size + 1 ≤ w6.heap.size:=by simpa using hs
 have hF : ∀ b,Fx G av ov pl b → b < w.heap.size → Fx G v6 ov pl b ∧ ¬ av.ownBlock = some b:=fun b hb hlt => by
  refine ⟨⟨hb.1,fun hm => hb.2 ?_⟩,fun e1 => hb.2 (.inl e1)⟩
  rcases hm with hm | hm | hm
  ·rcases hv with hv | hv
   ·exact .inl (hv ▸ hm)
   ·rw [hv] at hm; injection hm; omega
  ·exact .inr (.inl hm)
  ·exact .inr (.inr hm)
 have hT : ∀ (x : St) (v : Tv),TrS w (Fx G av ov pl) x v → TrS w6 (Fx G v6 ov pl) x v:=fun x v hx =>
  hx.keep fun b hb hlt => by
   have hb1:=((Below.refl w.heap.size w).alloc nLe o).block b hlt
   exact ⟨(hF b hb hlt).1,by omega,(hg.block b (by simp; omega) fun e1 => (hF b hb hlt).2 e1.symm).trans hb1⟩
 refine ⟨?_,h.op.gbx hg fun k hk e1 => Own.apt h.row h.op (by decide) k e1 hk,fun e' he' => ⟨(h.ah e' he').1.gbx hg fun k hk e1 => h.ar e' he' k e1 hk,(h.ah e' he').2⟩,fun p hp => ?_,fun e' he' => ⟨hT _ _ (h.to_ e' he').1,fun p hp => hT _ _ ((h.to_ e' he').2 p hp)⟩,fun e' he' k h1 h2 => ?_,h.aa,⟨by simp; omega,h.len.2⟩⟩
 ·exact ho.cast (by simp) (scs_snoc al (x,v)).symm
 ·rcases List.mem_append.1 hp with hp | hp
  ·exact hT _ _ (h.tr p hp)
  ·rw [List.mem_singleton.1 hp]; exact hT _ _ ht
 ·rcases hv with hv | hv
  ·exact h.ar e' he' k (hv ▸ h1) h2
  ·rw [hv] at h1
   injection h1 with h1
   have:=(h.ah e' he').1.1.lt k h2
   omega
end
theorem zeroBk (w : World) : (zeroValue 200).run Tryz.prog w = .ok (.agg #[.int .i64 0,.int .i64 0,.string ⟨#[]⟩,.int .i64 0,.bool false,.bool false,.string ⟨#[]⟩,.int .i64 0,.int .i64 0,.int .i64 0,.int .i64 0,.int .i64 0,.string ⟨#[]⟩,.string ⟨#[]⟩,.slice none 0 0,.slice none 0 0,.slice none 0 0,.slice none 0 0,.bool false]) w:=by kernel_rfl
theorem Pl.solidF {G n : Nat} {w : World} {rv ov : Value} {rl : List (St × Tv)} {pl : List Pe} {e : Pe} (h : Pl G w rv ov rl (pl ++ [e])) (hn : pl.length = n) : ∃ g c,ov = .slice (some ⟨g,0,none⟩) (n + 1) c ∧ n + 1 ≤ c:=by
 have h1:=h.op
 rw [show (pl ++ [e]).length = n + 1 by simp [hn]] at h1
 obtain ⟨g,cap,hv,_,_⟩:=h1.1.form (Nat.succ_pos n)
 subst hv
 exact ⟨g,cap,rfl,h1.cap.1⟩
theorem Pl.solidR {G n g c : Nat} {w : World} {rv : Value} {rl : List (St × Tv)} {pl : List Pe} {e : Pe} (h : Pl G w rv (.slice (some ⟨g,0,none⟩) (n + 1) c) rl (pl ++ [e])) (hn : pl.length = n) : w.rangeAt g (n * 19) (bkC e):=fun j u hu => by
 have h1:=h.op
 rw [show (pl ++ [e]).length = n + 1 by simp [hn],bcs_snoc] at h1
 have:=h1.1.cells (g:=g) rfl (n * 19 + j) u (by rw [List.getElem?_append_right (by rw [bcs_len,hn]; omega),bcs_len,hn,Nat.add_sub_cancel_left]; exact hu)
 rw [Addr.add_lit] at this
 rwa [Nat.zero_add] at this
end Go.Proofs.YtkjhlgnpohamnaaGreatDoor

/- Part 45: The contracts of blanks and before of the reference of layout; plain: how many leads a node has. What arrange of the reference of layout has in memory; plain. -/
import Derived.Test.YtjidpkcjpgdafaaGreatSc1
import Derived.Test.YtjidpkcjpgdafaaGreatSc37
import Derived.Test.YtjidpkcjpgdafaaGreatSc30
import Derived.Test.YtjidpkcjpgdafaaGreatSc44
import Derived.Deep.AppendLies
set_option maxRecDepth 100000
set_option maxHeartbeats 4000000
namespace Go.Proofs.YtjidpkcjpgdafaaGreat
open Go.RowKit Go.Shelf
theorem leads_mod {n:Int} (h:0 ≤ n):Qat 1 n = 3:=by
 unfold Qat
 rw [if_pos rfl,if_pos h]
theorem leads_func {n:Int} (h:0 ≤ Qat 2 n):6 ≤ Qat 2 n:=by
 unfold Qat at h ⊢
 rw [if_neg (by decide),if_pos rfl] at h ⊢
 split at h <;> (rw [Int.max_def] at *;repeat' split) <;> omega
theorem leads_two {k n:Int} (hk:k = 4 ∨ k = 8 ∨ k = 22) (h:0 ≤ Qat k n):Qat k n = 2:=by
 rcases hk with rfl | rfl | rfl <;> (unfold Qat Qbc at h ⊢;simp at h ⊢;omega)
theorem leads_some {k n:Int} (hk:k ≠ 17) (h:0 ≤ Qat k n):1 ≤ Qat k n:=by
 unfold Qat Qbc at h ⊢
 simp only [Int.max_def] at h ⊢
 repeat' split at h
 all_goals first | omega | (simp_all;done) | (simp_all;omega)
theorem leads_most {k n:Int} (h:0 ≤ n):Qat k n ≤ n + 6:=by
 unfold Qat Qbc
 simp only [Int.max_def]
 repeat' split
 all_goals omega
theorem shapedRL_get (k:Int) (n:Nat):∀ (l:List Tr) (i j:Nat) (a:Tr),Qcj k n i l = true → l[j]? = some a → Qcq a = true
 | [],_,j,a,_,h=>by simp at h
 | t :: r,i,j,a,hs,h=>by
  rw [Qcj,Bool.and_eq_true,Bool.and_eq_true] at hs
  cases j with
  | zero=>simp at h;subst h;exact hs.1.2
  | succ j=>exact shapedRL_get k n r (i + 1) j a hs.2 (by simpa using h)
theorem shapedR_parts {t:Tr} (h:Qcq t = true):0 ≤ Qat t.kind t.kids.length ∧ ∀ (j:Nat) (k:Tr),t.kids[j]? = some k → Qcq k = true:=by
 rw [Qg1,Bool.and_eq_true,Bool.and_eq_true] at h
 exact ⟨by have:=h.1.1;simp at this;omega,fun j k hk=>shapedRL_get _ _ _ 0 j k h.2 hk⟩
theorem blanks_any (n:Nat) (w:World) (hn:n ≤ 1000000):Calls Tryz.prog 211 #[.int .i64 n] w fun e w'=>∃ r,e = .returned r ∧ w'.ownsRow w.heap.size 9 1 r n ((List.replicate n (⟨#[32]⟩:ByteArray)).map Value.string) ∧ Below w.heap.size w w':=by
 have HN:=hQ hn
 obtain ⟨is,his,s0,s1,s2⟩:=info_parts Qc7
 go_enter Tryz.func211,Tryz.ntmps211
 go_wp2
 go_loopw [3,4] (fun l i wr=>∃ j:Nat,i = .int .i64 j ∧ j ≤ n ∧ wr.ownsRow w.heap.size 9 1 l j ((List.replicate j (⟨#[32]⟩:ByteArray)).map Value.string) ∧ Below w.heap.size w wr) (fun _ i _=>n - (intOf i).toNat)
 case atStart=>exact ⟨0,rfl,Nat.zero_le _,World.ownsRow_nil _ _ _ _,xC _ _⟩
 case round =>
  obtain ⟨j,rfl,hj,hown,hb⟩:=hrel
  have HO:=hQ hown
  have HB:=hQ hb
  clear hown hb
  by_cases hlt:j < n
  ·have HL1:=hQ (show j + 1 ≤ maxLen from by have:=HN.out;unfold maxLen;omega)
   have HL2:=hQ (show (j + 1) * 16 ≤ 140737488355328 from by have:=HN.out;omega)
   have HW:=hQ ((xC wr.heap.size wr).alloc (xA _) (.cells #[.string ⟨#[32]⟩] 9))
   have HJ:=hQ hj
   clear hj
   have HNW:=hQ (World.news_of_block (w:=wr.alloc (.cells #[.string ⟨#[32]⟩] 9)) (cs:=#[.string ⟨#[32]⟩]) (t:=9) (fr:=(0,0)) (xH wr _))
   have HON:=hQ (strings_one [⟨#[32]⟩])
   have HSZ:=hQ (show w.heap.size ≤ (wr.alloc (.cells #[.string ⟨#[32]⟩] 9)).heap.size from by rw [xI];have:=HB.out.size;omega)
   have HOA:=hQ (HO.out.alloc (.cells #[.string ⟨#[32]⟩] 9))
   go_wp2_with (at_builtin;refine wpList_append_lies _ rfl _ _ 27 rfl w.heap.size 9 is _ 1 16 Tryz.underlying27 his s0 s1 s2 rfl (by decide) _ j ((List.replicate j (⟨#[32]⟩:ByteArray)).map Value.string) rfl HOA.out ⟨wr.heap.size,0,none⟩ 1 1 [.string ⟨#[32]⟩] rfl rfl HNW.out HON.out (by decide) HL1.out HL2.out HSZ.out _ rfl ?_;intro g c w3 hown hgr _ hlt3;have HO3:=hQ hown;have HB3:=hQ ((HB.out.trans (HW.out.mono HB.out.size)).grown hgr HSZ.out (fun k hk=>(HO.out.lt k hk).1));clear hown hgr hlt3)
   go_roundw
   case rel =>
    refine ⟨j + 1,by go_num,by omega,?_,HB3.out⟩
    rw [List.replicate_succ',List.map_append]
    exact HO3.out
   case measure=>simp [intOf];omega
  ·obtain rfl:j = n:=by omega
   go_wp2
   go_ret
   exact ⟨_,rfl,HO.out,HB.out⟩
def BefP (w:World) (e:Ending) (w':World):Prop:=∃ s:ByteArray,e = .returned (.string s) ∧ s.size ≤ 5 ∧ Below w.heap.size w w'
theorem before_any (v:TV) (i:Nat) (s:ByteArray) (w:World) (hs:s.size ≤ 5):Calls Tryz.prog 212 #[.agg #[.int .i64 v.kind,.string v.text,.slice v.la v.ll v.lc,.slice v.ka v.kl v.kc],.int .i64 i,.string s] w (BefP w):=by
 obtain ⟨vk,vx,vla,vll,vlc,vka,vkl,vkc⟩:=v
 have HB0:=hQ ((xC w.heap.size w).alloc (xA _) (trO ⟨vk,vx,vla,vll,vlc,vka,vkl,vkc⟩))
 have HS:=hQ hs
 clear hs
 by_cases h1:vk = 1
 ·subst h1
  go_enter Tryz.func212,Tryz.ntmps212
  go_wp2
  go_ret
  exact ⟨_,rfl,by decide,HB0.out⟩
 have d1:decide (vk = 1) = false:=decide_eq_false h1
 have e1:=Qck h1
 by_cases hi:0 < i
 ·go_enter Tryz.func212,Tryz.ntmps212
  go_wp2
  go_ret
  exact ⟨_,rfl,by decide,HB0.out⟩
 obtain rfl:i = 0:=by omega
 by_cases h2:vk = 8 ∨ vk = 22 ∨ vk = 16 ∨ vk = 18
 ·rcases h2 with rfl | rfl | rfl | rfl
  all_goals
   go_enter Tryz.func212,Tryz.ntmps212
   go_wp2
   go_ret
   exact ⟨_,rfl,by decide,HB0.out⟩
 by_cases h3:vk = 2
 ·subst h3
  by_cases hl:2 < vkl
  ·go_enter Tryz.func212,Tryz.ntmps212
   go_wp2
   go_ret
   exact ⟨_,rfl,by decide,HB0.out⟩
  ·have dl:decide (2 < vkl) = false:=decide_eq_false hl
   go_enter Tryz.func212,Tryz.ntmps212
   go_wp2
   go_ret
   exact ⟨_,rfl,by decide,HB0.out⟩
 by_cases h4:vk = 17 ∨ vk = 21
 ·rcases h4 with rfl | rfl
  all_goals
   go_enter Tryz.func212,Tryz.ntmps212
   go_wp2
   go_ret
   exact ⟨_,rfl,HS.out,HB0.out⟩
 have n8:vk ≠ 8:=fun h=>h2 (.inl h)
 have n22:vk ≠ 22:=fun h=>h2 (.inr (.inl h))
 have n16:vk ≠ 16:=fun h=>h2 (.inr (.inr (.inl h)))
 have n18:vk ≠ 18:=fun h=>h2 (.inr (.inr (.inr h)))
 have n17:vk ≠ 17:=fun h=>h4 (.inl h)
 have n21:vk ≠ 21:=fun h=>h4 (.inr h)
 have q8:=Qck n8
 have q22:=Qck n22
 have q16:=Qck n16
 have q18:=Qck n18
 have q17:=Qck n17
 have q21:=Qck n21
 have q2:=Qck h3
 clear h2 h4
 go_enter Tryz.func212,Tryz.ntmps212
 go_wp2
 go_ret
 exact ⟨_,rfl,by decide,HB0.out⟩
structure LdU (R U:Nat) (k:Int) (x:ByteArray) (la:Option Addr) (q lc:Nat) (wr:World):Prop where
 blk:wr.heap[U]? = some (trO ⟨k,x,la,q,lc,none,0,0⟩)
 ru:R < U
 cap:q ≤ lc
 ld:∃ ls:List ByteArray,ls.length = q ∧ (∀ y ∈ ls,y.size ≤ 5) ∧ (0 < q → ∃ g cs,la = some ⟨g,0,none⟩ ∧ wr.heap[g]? = some (.cells cs 9 (0,0)) ∧ R < g ∧ g ≠ U ∧ ∀ (i:Nat) (s:ByteArray),ls[i]? = some s → cs[i]? = some (.string s))
theorem LdU.keep {R U:Nat} {k:Int} {x:ByteArray} {la:Option Addr} {q lc:Nat} {wr w':World} (h:LdU R U k x la q lc wr) (hb:Below wr.heap.size wr w'):LdU R U k x la q lc w':=by
 obtain ⟨h1,h2,h3,ls,h4,h5,h6⟩:=h
 refine ⟨(hb.block U (Qaa h1)).trans h1,h2,h3,ls,h4,h5,fun hq=>?_⟩
 obtain ⟨g,cs,q1,q2,q3⟩:=h6 hq
 exact ⟨g,cs,q1,(hb.block g (Qaa q2)).trans q2,q3⟩
theorem LdU.put {R U g i:Nat} {k:Int} {x s:ByteArray} {q lc:Nat} {wr:World} (h:LdU R U k x (some ⟨g,0,none⟩) q lc wr) (hi:i < q) (hs:s.size ≤ 5):LdU R U k x (some ⟨g,0,none⟩) q lc (wr.setCell ⟨g,i,none⟩ (.string s)):=by
 obtain ⟨h1,h2,h3,ls,h4,h5,h6⟩:=h
 obtain ⟨g',cs,q1,q2,q3,q4,q5⟩:=h6 (by omega)
 injection q1 with q1
 injection q1 with q1 _ _
 subst q1
 refine ⟨(Qav (fun e=>q4 e.symm)).trans h1,h2,h3,ls.set i s,by rw [List.length_set,h4],fun y hy=>?_,fun _=>⟨g,_,rfl,Qa2 q2 rfl,q3,q4,fun j z hz=>?_⟩⟩
 ·rcases List.mem_or_eq_of_mem_set hy with h | h
  ·exact h5 y h
  ·rw [h];exact hs
 ·have hcs:i < cs.size:=by
   obtain ⟨z',hz'⟩:∃ z,ls[i]? = some z:=⟨_,xF (by omega)⟩
   exact (Array.getElem?_eq_some_iff.1 (q5 i z' hz')).1
  by_cases hj:j = i
  ·subst hj
   rw [List.getElem?_set_self (by omega)] at hz
   injection hz with hz
   subst hz
   rw [Array.getElem?_setIfInBounds_self_of_lt hcs]
  ·rw [List.getElem?_set_ne (fun e=>hj e.symm)] at hz
   rw [Array.getElem?_setIfInBounds_ne (fun e=>hj e.symm)]
   exact q5 j z hz
theorem LdU.at {R U i:Nat} {k:Int} {x:ByteArray} {la:Option Addr} {q lc:Nat} {wr:World} (h:LdU R U k x la q lc wr) (hi:i < q):∃ g,la = some ⟨g,0,none⟩ ∧ R < g ∧ g ≠ U ∧ g < wr.heap.size ∧ (∀ o,wr.frozen? ⟨g,o,none⟩ = false) ∧ ∀ j,j < q → ∃ s,wr.cell? ⟨g,j,none⟩ = some (.string s):=by
 obtain ⟨h1,h2,h3,ls,h4,h5,h6⟩:=h
 obtain ⟨g,cs,q1,q2,q3,q4,q5⟩:=h6 (by omega)
 refine ⟨g,q1,q3,q4,Qaa q2,fun o=>Lib.frozen_of_heap q2 _,fun j hj=>?_⟩
 obtain ⟨s,hs⟩:∃ s,ls[j]? = some s:=⟨_,xF (by omega)⟩
 exact ⟨s,Qab q2 j _ (q5 j s hs)⟩
structure RowK (G:Nat) (wr:World) (ks:List Tr) (vs:List TV):Prop where
 len:vs.length = ks.length
 row:∃ cs,wr.heap[G]? = some (.cells cs 29 (0,0)) ∧ RowIs cs vs
 kid:∀ (i:Nat) (k:Tr) (u:TV),ks[i]? = some k → vs[i]? = some u → TrAt (fun b=>G < b ∧ b < wr.heap.size) wr k u
theorem RowK.other {G:Nat} {wr w':World} {ks:List Tr} {vs:List TV} (h:RowK G wr ks vs) (hs:wr.heap.size ≤ w'.heap.size) (hb:∀ b,G ≤ b → b < wr.heap.size → w'.heap[b]? = wr.heap[b]?):RowK G w' ks vs:=by
 obtain ⟨h1,⟨cs,h2,h3⟩,h4⟩:=h
 exact ⟨h1,⟨cs,(hb G (xA _) (Qaa h2)).trans h2,h3⟩,fun i k u hk hu=>TrAt.move (fun b hb'=>⟨hb'.1,by omega⟩) (fun b hb' hl=>hb b (by omega) hl) _ _ (h4 i k u hk hu)⟩
theorem rowis_snoc {cs:Array Value} {vs:List TV} (h:RowIs cs vs) (y:TV) (j:Nat) (hj:j = vs.length) (hs:j * 4 + 4 ≤ cs.size):RowIs (setO cs (j * 4) y) (vs ++ [y]):=by
 subst hj
 intro i v hv
 by_cases hi:i < vs.length
 ·rw [List.getElem?_append_left hi] at hv
  obtain ⟨q0,q1,q2,q3⟩:=h i v hv
  exact ⟨(setO_other cs _ y _ (by omega)).trans q0,(setO_other cs _ y _ (by omega)).trans q1,(setO_other cs _ y _ (by omega)).trans q2,(setO_other cs _ y _ (by omega)).trans q3⟩
 ·have hl:=(List.getElem?_eq_some_iff.1 hv).1
  rw [xB,List.length_singleton] at hl
  obtain rfl:i = vs.length:=by omega
  rw [List.getElem?_append_right (xA _),Nat.sub_self] at hv
  injection hv with hv
  subst hv
  unfold setO
  refine ⟨?_,?_,?_,?_⟩
  ·rw [Array.getElem?_setIfInBounds_ne (by omega),Array.getElem?_setIfInBounds_ne (by omega),Array.getElem?_setIfInBounds_ne (by omega),Array.getElem?_setIfInBounds_self_of_lt (by omega)]
  ·rw [Array.getElem?_setIfInBounds_ne (by omega),Array.getElem?_setIfInBounds_ne (by omega),Array.getElem?_setIfInBounds_self_of_lt (by simp;omega)]
  ·rw [Array.getElem?_setIfInBounds_ne (by omega),Array.getElem?_setIfInBounds_self_of_lt (by simp;omega)]
  ·rw [Array.getElem?_setIfInBounds_self_of_lt (by simp;omega)]
theorem RowK.snoc {G j:Nat} {w5:World} {ks:List Tr} {vs:List TV} {t:Tr} {y:TV} (h:RowK G w5 ks vs) (hj:j = ks.length) (hc:∀ cs,w5.heap[G]? = some (.cells cs 29 (0,0)) → j * 4 + 4 ≤ cs.size) (ht:TrAt (fun b=>G < b ∧ b < w5.heap.size) w5 t y):RowK G (setA w5 G (j * 4) y) (ks ++ [t]) (vs ++ [y]):=by
 obtain ⟨h1,⟨cs,h2,h3⟩,h4⟩:=h
 have hz:=setA_size w5 G (j * 4) y
 refine ⟨by rw [xB,xB,h1];rfl,⟨_,setA_heap (j * 4) y h2,rowis_snoc h3 y j (by rw [h1];exact hj) (hc cs h2)⟩,fun i k u hk hu=>?_⟩
 have hmv:∀ (k:Tr) (u:TV),TrAt (fun b=>G < b ∧ b < w5.heap.size) w5 k u → TrAt (fun b=>G < b ∧ b < (setA w5 G (j * 4) y).heap.size) (setA w5 G (j * 4) y) k u:=fun k u h=>TrAt.move (fun b hb=>⟨hb.1,by rw [hz];exact hb.2⟩) (fun b hb _=>Qed (j * 4) y (by omega)) _ _ h
 by_cases hi:i < ks.length
 ·rw [List.getElem?_append_left hi] at hk
  rw [List.getElem?_append_left (by rw [h1];exact hi)] at hu
  exact hmv _ _ (h4 i k u hk hu)
 ·have hl:=(List.getElem?_eq_some_iff.1 hk).1
  rw [xB,List.length_singleton] at hl
  obtain rfl:i = ks.length:=by omega
  rw [List.getElem?_append_right (xA _),Nat.sub_self] at hk
  rw [← h1,List.getElem?_append_right (xA _),Nat.sub_self] at hu
  injection hk with hk
  injection hu with hu
  subst hk hu
  exact hmv _ _ ht
def ArrP (t:Tr) (w:World) (e:Ending) (w':World):Prop:=∃ (t':Tr) (u:TV),e = .returned (.agg #[.int .i64 u.kind,.string u.text,.slice u.la u.ll u.lc,.slice u.ka u.kl u.kc]) ∧ TrAt (fun b=>w.heap.size ≤ b ∧ b < w'.heap.size) w' t' u ∧ Qak t' = Qak t ∧ Qfn t' = true ∧ Below w.heap.size w w' ∧ t'.kind = t.kind
structure ArE (kd:Int) (U G:Nat) (la:Option Addr) (q lc:Nat) (t:Tr) (v:TV) (ks:List Tr) (vs:List TV) (w wr:World):Prop where
 ld:LdU (w.heap.size + 1) U kd t.text la q lc wr
 res:wr.heap[w.heap.size + 1]? = some (.cells #[.int .i64 0,.string ⟨#[]⟩,.slice none 0 0,.slice none 0 0] 29 (0,0))
 box:wr.heap[w.heap.size]? = some (trO v)
 row:RowK G wr ks vs
 ug:U < G
 lg:0 < q → ∀ g,la = some ⟨g,0,none⟩ → g < G
 below:Below w.heap.size w wr
theorem ArE.put {kd:Int} {U G g i:Nat} {q lc:Nat} {t:Tr} {v:TV} {ks:List Tr} {vs:List TV} {w wr:World} {s:ByteArray} (h:ArE kd U G (some ⟨g,0,none⟩) q lc t v ks vs w wr) (hi:i < q) (hs:s.size ≤ 5):ArE kd U G (some ⟨g,0,none⟩) q lc t v ks vs w (wr.setCell ⟨g,i,none⟩ (.string s)):=by
 obtain ⟨g',e,h1,h2,h3,_⟩:=h.ld.at hi
 injection e with e
 injection e with e _ _
 subst e
 have hg:=h.lg (by omega) g rfl
 have hz:(wr.setCell ⟨g,i,none⟩ (.string s)).heap.size = wr.heap.size:=by simp [World.setCell]
 exact ⟨h.ld.put hi hs,(Qav (by omega)).trans h.res,(Qav (by omega)).trans h.box,h.row.other (by rw [hz];exact xA _) (fun b hb _=>Qav (by omega)),h.ug,h.lg,h.below.setCell (p:=⟨g,i,none⟩) (by show w.heap.size ≤ g;omega) _⟩
theorem ArE.drew {kd:Int} {U G:Nat} {la:Option Addr} {q lc:Nat} {t:Tr} {v:TV} {ks:List Tr} {vs:List TV} {w wr:World} (h:ArE kd U G la q lc t v ks vs w wr):ArE kd U G la q lc t v ks vs w wr.drew :=
 ⟨h.ld.keep ((xC _ _).drew),h.res,h.box,h.row.other (xA _) (fun _ _ _=>rfl),h.ug,h.lg,h.below.drew⟩
theorem ArE.made {kd:Int} {U G:Nat} {la:Option Addr} {q lc n:Nat} {t:Tr} {v:TV} {ks:List Tr} {vs:List TV} {w wr:World} (h:ArE kd U G la q lc t v ks vs w wr) (hx:t.text.size ≤ 7) (hq:q ≤ n + 6) (hn:n = ks.length) (hs:Qar ks = Qar t.kids) (ht:Qbj ks = true) (hk':kd = t.kind) :
  ArrP t w (.returned (.agg #[.int .i64 kd,.string t.text,.slice la q lc,.slice (some ⟨G,0,none⟩) n n])) (Qfu (wr.setCell ⟨U,3,none⟩ (.slice (some ⟨G,0,none⟩) n n)) (w.heap.size + 1) ⟨kd,t.text,la,q,lc,some ⟨G,0,none⟩,n,n⟩):=by
 subst hn
 obtain ⟨ls,l1,l2,l3⟩:=h.ld.ld
 have hU:=h.ld.ru
 have hUG:=h.ug
 obtain ⟨cs,r1,r2⟩:=h.row.row
 have hG:=Qaa r1
 have hz:(Qfu (wr.setCell ⟨U,3,none⟩ (.slice (some ⟨G,0,none⟩) ks.length ks.length)) (w.heap.size + 1) ⟨kd,t.text,la,q,lc,some ⟨G,0,none⟩,ks.length,ks.length⟩).heap.size = wr.heap.size:=by rw [Qdg];simp [World.setCell]
 have hk:∀ b,b ≠ U → b ≠ w.heap.size + 1 → (Qfu (wr.setCell ⟨U,3,none⟩ (.slice (some ⟨G,0,none⟩) ks.length ks.length)) (w.heap.size + 1) ⟨kd,t.text,la,q,lc,some ⟨G,0,none⟩,ks.length,ks.length⟩).heap[b]? = wr.heap[b]?:=fun b h1 h2=>(Qbv _ h2).trans (Qav h1)
 refine ⟨.mk kd t.text ls ks,⟨kd,t.text,la,q,lc,some ⟨G,0,none⟩,ks.length,ks.length⟩,rfl,?_,by rw [Qak,Qa6,hs],Qb9.2 ⟨hx,by omega,l2,ht⟩,(h.below.setCell (p:=⟨U,3,none⟩) (by show w.heap.size ≤ U;omega) _).trans ((Qcs _ (w.heap.size + 1) _).mono (by omega)),hk'⟩
 unfold TrAt
 refine ⟨rfl,rfl,l1.symm,rfl,fun hne=>?_,fun hne=>?_,h.ld.cap,xA _⟩
 ·obtain ⟨g,cg,q1,q2,q3,q4,q5⟩:=l3 (by rw [← l1];exact List.length_pos_iff.2 hne)
  refine ⟨g,0,q1,⟨by omega,by rw [hz];exact Qaa q2⟩,fun i y hy=>?_⟩
  rw [Nat.zero_add]
  exact (xJ (w:=wr) (a:=⟨g,i,none⟩) (hk g q4 (by omega))).trans (Qab q2 i _ (q5 i y hy))
 ·refine ⟨G,0,rfl,⟨by omega,by rw [hz];exact hG⟩,TrsAt.of ks 0 fun i k hki=>?_⟩
  have hi:=(List.getElem?_eq_some_iff.1 hki).1
  obtain ⟨u,hu⟩:∃ u,vs[i]? = some u:=⟨_,xF (by rw [h.row.len];exact hi)⟩
  obtain ⟨q0,q1,q2,q3⟩:=r2 i u hu
  have hc:∀ (o:Nat) (z:Value),cs[o]? = some z → (Qfu (wr.setCell ⟨U,3,none⟩ (.slice (some ⟨G,0,none⟩) ks.length ks.length)) (w.heap.size + 1) ⟨kd,t.text,la,q,lc,some ⟨G,0,none⟩,ks.length,ks.length⟩).cell? ⟨G,o,none⟩ = some z:=fun o z hz=>(xJ (w:=wr) (a:=⟨G,o,none⟩) (hk G (by omega) (by omega))).trans (Qab r1 o _ hz)
  rw [Nat.zero_add]
  exact ⟨u,hc _ _ q0,hc _ _ q1,hc _ _ q2,hc _ _ q3,TrAt.move (fun b hb=>⟨by omega,by rw [hz];exact hb.2⟩) (fun b hb _=>hk b (by omega) (by omega)) _ _ (h.row.kid i k u hki hu)⟩
end Go.Proofs.YtjidpkcjpgdafaaGreat

/- Part 51 -/
import Derived.Test.YtjidpkcjpgdafaaGreatSd39
import Derived.Test.YtjidpkcjpgdafaaGreatSd50
import Derived.WalkSmall
set_option maxRecDepth 100000
set_option maxHeartbeats 4000000
namespace Go.Proofs.YtjidpkcjpgdafaaGreat
open Go.RowKit
theorem Qt1 {t k:Tr} {j:Nat} (hz:Qak t≤1000) (h:Qao t=true) (ht:t.kids[j]? = some k):Qgq t.kind t.kids.length j k.kind=true:=by
 rw [←Qfn _ t (xA _) hz,Qhh] at h
 simp only [Bool.and_eq_true] at h
 have h2:=h.2
 have key:∀ (l:List Tr) (tk:Int) (n i j:Nat),Qcn tk n i l=true→∀ a,l[j]? = some a→Qgq tk n (i+j) a.kind=true:=by
  intro l
  induction l with
  | nil=>intro tk n i j _ a ha;simp at ha
  | cons b r ih =>
   intro tk n i j hr a ha
   rw [Qcn] at hr
   simp only [Bool.and_eq_true] at hr
   match j,ha with
   | 0,ha =>
    injection ha with ha
    subst ha
    exact hr.1.1
   | j+1,ha =>
    have:=ih tk n (i+1) j hr.2 a (by simpa using ha)
    rw [show i+1+j=i+(j+1) from by omega] at this
    exact this
 have:=key _ _ _ _ j h2 k ht
 rwa [Nat.zero_add] at this
theorem Zfw {tk k:Int} {n i:Nat} (h:Qgq tk n i k=true) (h1:tk≠1):k≠1∧k≠2:=by
 constructor
 all_goals
  intro hk
  subst hk
  unfold Qgq at h
  rw [xN h1] at h
  repeat' split at h
  all_goals first
   | exact absurd h (by decide)
   | (rw [show Qie 1=false from by decide] at h;simp at h)
   | (rw [show Qie 2=false from by decide] at h;simp at h)
theorem Qmz:∀ (zs:List Int) (t u:Tr),Qao t=true→Qak t≤1000→t.kind≠1→Qbl t zs=some u→Qao u=true∧Qak u≤1000∧u.kind≠1∧(zs≠[]→u.kind≠2)
 | [],t,u,h,hz,h1,hf=>by
  rw [Qbl] at hf
  injection hf with hf
  subst hf
  exact ⟨h,hz,h1,fun e=>absurd rfl e⟩
 | i :: r,t,u,h,hz,h1,hf=>by
  unfold Qbl at hf
  cases hk:Qlp t i
  ·rw [hk] at hf;cases hf
  ·rw [hk,xO rfl] at hf
   obtain ⟨_,_,h3⟩:=Qhr hk
   have hsz:=Qbc h3
   have hn:=Zfw (Qt1 hz h h3) h1
   obtain ⟨a,b,c,d⟩:=Qmz r (Qg5 t i) u ((Qfp hz h).2 _ (yA h3)) (by omega) hn.1 hf
   refine ⟨a,b,c,fun _=>?_⟩
   by_cases hr:r = []
   ·subst hr
    rw [Qbl] at hf
    injection hf with hf
    rw [←hf]
    exact hn.2
   ·exact d hr
theorem Qq0:(a:List Int)→(b:List Int)→(t u:Tr)→Qbl t a=some u→Qbl t (a ++ b)=Qbl u b
 | [],b,t,u,h=>by
  rw [Qbl] at h
  injection h with h
  rw [h,xU]
 | i :: r,b,t,u,h=>by
  unfold Qbl at h
  rw [xV,Qbl]
  split at h
  ·rename_i hk
   rw [xO hk]
   exact Qq0 r b _ u h
  ·cases h
theorem Zab {t k:Tr} {j:Nat} (h:t.kids[j]? = some k):Qbl t [(j:Int)] = some k:=by
 have hj:=(xP.1 h).1
 have hk:Qlp t (j:Int)=true:=by
  unfold Qlp
  simp only [Bool.and_eq_true,decide_eq_true_eq]
  omega
 rw [Qbl,xO hk]
 unfold Qg5
 rw [Int.toNat_natCast,h]
 rfl
theorem Qgy:(zs:List Int)→(t:Tr)→(n:Nat)→(0≤Qlq n t zs ↔ ∃ u,Qbl t zs=some u)
 | [],t,n=>by
  rw [Qlq,Qbl]
  exact ⟨fun _=>⟨t,rfl⟩,fun _=>by omega⟩
 | i :: r,t,n=>by
  unfold Qlq Qbl
  split
  ·exact Qgy r _ _
  ·exact ⟨fun h=>by omega,fun ⟨u,h⟩=>by cases h⟩
theorem Qm0 (ks:List Tr):(n:Nat)→n≤ks.length→∀ b∈Qef ks n,∃ j k,j<n∧ks[j]? = some k∧b=(k.text,[(j:Int)])
 | 0,_,b,h=>by rw [Qef] at h;simp at h
 | n+1,hn,b,h=>by
  rw [Qef] at h
  rcases List.mem_cons.1 h with rfl | h
  ·obtain ⟨k,hk⟩:∃ k,ks[n]? = some k:=⟨_,xF (by omega)⟩
   exact ⟨n,k,by omega,hk,by rw [hk];rfl⟩
  ·obtain ⟨j,k,h1,h2,h3⟩:=Qm0 ks n (by omega) b h
   exact ⟨j,k,by omega,h2,h3⟩
def Zfx (t:Tr) (b:Bnd):Prop:=∃ k,Qbl t b.2=some k∧k.text=b.1∧(k.kind=4∨k.kind=20)
theorem Zdf {t u:Tr} {p:List Int} (hs:Qao t=true) (hz:Qak t≤1000) (h2:t.kind=2) (hf:Qbl t p=some u) (i:Int):∀ b∈Qcs u.kind u.text u.kids p i,Zfx t b:=by
 intro b hb
 unfold Qcs at hb
 split at hb
 ·rename_i hc
  obtain rfl:=List.mem_singleton.1 hb
  exact ⟨u,hf,rfl,.inr hc.1⟩
 ·split at hb
  ·rename_i hc
   have hp:p = []:=by
    by_cases hp:p = []
    ·exact hp
    ·exact absurd hc.1 ((Qmz p t u hs hz (by omega) hf).2.2.2 hp)
   subst hp
   rw [Qbl] at hf
   injection hf with hf
   subst hf
   unfold Qeg at hb
   obtain ⟨j,k,h1,h3,rfl⟩:=Qm0 t.kids _ (by omega) b hb
   refine ⟨k,Zab h3,rfl,.inl ?_⟩
   have:=Qt1 hz hs h3
   unfold Qgq at this
   rw [xN (by omega),xO h2,xN (by omega),xN (by omega)] at this
   simpa using this
  ·simp at hb
theorem Qj8 {t:Tr} (hs:Qao t=true) (hz:Qak t≤1000) (h2:t.kind=2):(zs:List Int)→(u v:Tr)→(p:List Int)→(st:List Bnd)→Qbl t p=some u→Qbl u zs=some v→(∀ b∈st,Zfx t b)→∀ b∈Qb7 u p zs st,Zfx t b
 | [],_,_,_,_,_,_,h=>by unfold Qb7;exact h
 | i :: r,u,v,p,st,hu,hv,h=>by
  unfold Qb7
  unfold Qbl at hv
  split at hv
  ·rename_i hk
   refine Qj8 hs hz h2 r (Qg5 u i) v (p ++ [i]) _ ?_ hv fun b hb=>?_
   ·rw [Qq0 p [i] t u hu,Qbl,xO hk,Qbl]
   ·exact (List.mem_append.1 hb).elim (h b) (Zdf hs hz h2 hu i b)
  ·cases hv
theorem Zfy {t:Tr} {k:Tr} {j:Nat} (h:t.kids[j]? = some k):Qlp t (j:Int)=true∧Qg5 t (j:Int)=k:=by
 have hj:=(xP.1 h).1
 refine ⟨by unfold Qlp;simp only [Bool.and_eq_true,decide_eq_true_eq];omega,?_⟩
 unfold Qg5
 rw [Int.toNat_natCast,h]
 rfl
theorem Qgb {t:Tr} (h:Qfd t=true):t.kind=2∧Qao t=true:=by
 unfold Qfd at h
 simpa using h
end Go.Proofs.YtjidpkcjpgdafaaGreat
namespace Go.Proofs.YtjidpkcjpgdafaaGreat
open Go.RowKit Go.Shelf
theorem Qb3 {w w':World} {g o:Nat} {x:Value} (hb:Below w.heap.size w w') (hg:g<w.heap.size) (h:w.cell? ⟨g,o,none⟩=some x):w'.cell? ⟨g,o,none⟩=some x:=(xJ (w:=w) (a:=⟨g,o,none⟩) (hb.block g hg)).trans h
theorem Qt4:(zs:List Int)→(t u:Tr)→Qbl t zs=some u→zs.length+Qak u≤Qak t
 | [],t,u,h=>by
  rw [Qbl] at h
  injection h with h
  subst h
  simp
 | i :: r,t,u,h=>by
  unfold Qbl at h
  split at h
  ·rename_i hk
   have h1:=Qt4 r _ u h
   obtain ⟨_,_,h3⟩:=Qhr hk
   have h2:=Qm4 h3
   rw [xD]
   omega
  ·cases h
def AtK (t:Tr) (z:List Int) (w:World) (s7:Value) (wx:World):Prop:=∃ (g:Nat) (x:TV),s7 = .pointer (some ⟨g,0,none⟩)∧wx.heap[g]? = some (trO x)∧x.kind=((Qbl t z).getD Qkj).kind∧x.text=((Qbl t z).getD Qkj).text∧Below w.heap.size w wx
theorem Qpj {t:Tr} {z:List Int} {w w3:World} {x:TV} (hz:w3.heap[w.heap.size]? = some (trO ⟨0,⟨#[]⟩,none,0,0,none,0,0⟩)) (h1:x.kind=((Qbl t z).getD Qkj).kind) (h2:x.text=((Qbl t z).getD Qkj).text) (hb:Below w.heap.size w w3):AtK t z w (.pointer (some ⟨w.heap.size,0,none⟩)) (Qf3 w3 w.heap.size x) :=
 ⟨w.heap.size,x,rfl,Qgm x hz,h1,h2,hb.trans (Qcl w3 w.heap.size x)⟩
theorem Qm5 {t:Tr} {z:List Int} {w w3:World} {x:TV} (h1:x.kind=((Qbl t z).getD Qkj).kind) (h2:x.text=((Qbl t z).getD Qkj).text) (hb:Below w.heap.size w w3):AtK t z w (.pointer (some ⟨w3.heap.size,0,none⟩)) (w3.alloc (trO x)) :=
 ⟨w3.heap.size,x,rfl,xH _ _,h1,h2,hb.alloc hb.size _⟩
theorem Qwi {x y:ByteArray} (h:y≠x):(y.toList==x.toList)=false:=by
 rw [beq_eq_false_iff_ne]
 exact fun e=>h (Qqj e)
theorem Zaf:(Tryz.prog.info? 23).map (fun i=>(i.zero,i.size,i.bytes))=some (some (.slice none 0 0),1,24):=by kernel_rfl
theorem Qly (S:Nat→Prop) (t:Tr) (v:TV) (w:World) (ht:TrAt S w t v) (hw:Qdh t=true) (hz:Qak t≤1000) :
  Calls Tryz.prog 68 #[.agg #[.int .i64 v.kind,.string v.text,.slice v.la v.ll v.lc,.slice v.ka v.kl v.kc]] w fun e w'=>e = .returned (.bool (Qfd t))∧Below w.heap.size w w':=by
 have hb0:=Qal w (trO v)
 have HT:=hQ (ht.keep hb0)
 have HX:=hQ (xH w (trO v))
 have HB0:=hQ hb0
 have HW:=hQ hw
 have HZ:=hQ hz
 have HSS:=hQ (Qfn _ t (xA _) hz)
 have hkd:=ht.kl.2.2.1
 obtain ⟨vk,vx,vla,vll,vlc,vka,vkl,vkc⟩:=v
 simp only at hkd
 subst hkd
 clear ht hb0 hw hz
 by_cases h2:t.kind=2
 ·have HF:=hQ (show Qfd t=Qao t from by unfold Qfd;rw [xS h2,Bool.true_and])
  have d2':(t.kind==2)=true:=by simpa using h2
  go_enter Tryz.func68,Tryz.ntmps68
  clear h2
  go_wp2_with (go_at_call 98;refine (Qgp _ _ t _ _ (xA _) HT.out HZ.out HW.out).mono ?_;rintro e w1 ⟨rfl,hb⟩;have HB1:=hQ (HB0.out.trans (hb.mono HB0.out.size));clear hb)
  go_ret
  exact ⟨Qah (by rw [HF.out,HSS.out]),HB1.out⟩
 ·have HF:=hQ (show Qfd t=false from by unfold Qfd;rw [xR h2,Bool.false_and])
  have d2':(t.kind==2)=false:=by simpa using h2
  go_enter Tryz.func68,Tryz.ntmps68
  clear h2
  go_wp2
  go_ret
  exact ⟨Qah HF.out.symm,HB0.out⟩
def PthAt (w:World) (lo:Nat) (v:Value) (p:List Int):Prop:=(∃ A c,v = .slice A p.length c∧(p≠[]→∃ b off,A=some ⟨b,off,none⟩∧b<lo∧∀ (i:Nat) (x:Int),p[i]? = some x→w.cell? ⟨b,off+i,none⟩=some (.int .i64 x)))∨IB w lo v p
theorem PthAt.ints {w:World} {lo:Nat} {v:Value} {p:List Int} (h:PthAt w lo v p) (hl:lo≤w.heap.size):∃ A c,v = .slice A p.length c∧IntsAt w A p:=by
 rcases h with ⟨A,c,e,h⟩ | h
 ·refine ⟨A,c,e,fun hne=>?_⟩
  obtain ⟨b,off,h1,h2,h3⟩:=h hne
  exact ⟨b,off,h1,by omega,h3⟩
 ·exact h.ints
theorem PthAt.keep {w w':World} {lo:Nat} {v:Value} {p:List Int} (h:PthAt w lo v p) (hl:lo≤w.heap.size) (hb:Below w.heap.size w w'):PthAt w' lo v p:=by
 rcases h with ⟨A,c,e,h⟩ | h
 ·refine .inl ⟨A,c,e,fun hne=>?_⟩
  obtain ⟨b,off,h1,h2,h3⟩:=h hne
  exact ⟨b,off,h1,h2,fun i x hx=>(xJ (w:=w) (a:=⟨b,off+i,none⟩) (hb.block b (by omega))).trans (h3 i x hx)⟩
 ·exact .inr (h.keep hb)
theorem PthAt.of_ints {w w':World} {A:Option Addr} {p:List Int} (h:IntsAt w A p) (hb:Below w.heap.size w w') (c:Nat):PthAt w' w.heap.size (.slice A p.length c) p :=
 .inl ⟨A,c,rfl,fun hne=>by
  obtain ⟨b,off,h1,h2,h3⟩:=h hne
  exact ⟨b,off,h1,h2,fun i x hx=>(xJ (w:=w) (a:=⟨b,off+i,none⟩) (hb.block b h2)).trans (h3 i x hx)⟩⟩
def PhRow (w:World) (lo B:Nat) (v:Value) (ps:List (List Int)):Prop:=∃ hs:List Value,hs.length=ps.length∧w.ownsRow B 23 1 v ps.length hs∧∀ (j:Nat) (h:Value) (p:List Int),hs[j]? = some h→ps[j]? = some p→PthAt w lo h p
theorem PhRow.nil (w:World) (lo B:Nat):PhRow w lo B (.slice none 0 0) []:=⟨[],rfl,World.ownsRow_nil _ _ _ _,fun j h p hh=>by simp at hh⟩
theorem PhRow.keep {w w':World} {lo B:Nat} {v:Value} {ps:List (List Int)} (h:PhRow w lo B v ps) (hl:lo≤w.heap.size) (hb:Below w.heap.size w w'):PhRow w' lo B v ps:=by
 obtain ⟨hs,h1,h2,h3⟩:=h
 exact ⟨hs,h1,(Keeps.of_below (P:=fun _=>none) hb).row h2 fun _ _=>.inl rfl,fun j h p hh hp=>(h3 j h p hh hp).keep hl hb⟩
theorem PhRow.slice {w:World} {lo B:Nat} {v:Value} {ps:List (List Int)} (h:PhRow w lo B v ps):∃ A c,v = .slice A ps.length c:=by
 obtain ⟨hs,_,h2,_⟩:=h
 exact Qc6 h2
theorem PhRow.low {w:World} {lo B B':Nat} {v:Value} {ps:List (List Int)} (h:PhRow w lo B v ps) (hb:B'≤B):PhRow w lo B' v ps:=by
 obtain ⟨hs,h1,h2,h3⟩:=h
 exact ⟨hs,h1,Qgn h2 hb,h3⟩
theorem PhRow.at {w:World} {lo B:Nat} {A:Option Addr} {n c:Nat} {ps:List (List Int)} (h:PhRow w lo B (.slice A n c) ps) (hl:lo≤w.heap.size) {j:Nat} {p:List Int} (hp:ps[j]? = some p):n=ps.length∧∃ (g:Nat) (PA:Option Addr) (pc:Nat),A=some ⟨g,0,none⟩∧B≤g∧g<w.heap.size∧w.cell? ⟨g,j,none⟩=some (.slice PA p.length pc)∧IntsAt w PA p:=by
 obtain ⟨hs,h1,h2,h3⟩:=h
 have hj:=(xP.1 hp).1
 obtain ⟨g,cap,hv,hg,hgl⟩:=World.ownsRow.form h2 (by omega)
 injection hv with hv1 hv2 hv3
 subst hv1
 obtain ⟨h,hh⟩:∃ h,hs[j]? = some h:=⟨_,xF (by rw [h1];exact hj)⟩
 have hcs:=h2.cells (g:=g) rfl j h hh
 rw [Addr.add_lit,Nat.zero_add] at hcs
 obtain ⟨PA,pc,e,hi⟩:=(h3 j h p hh hp).ints hl
 subst e
 exact ⟨hv2,g,PA,pc,rfl,hg,hgl,hcs,hi⟩
theorem PhRow.snoc {w w':World} {lo B g cap:Nat} {v x:Value} {ps:List (List Int)} {hs:List Value} {p:List Int} (h1:hs.length=ps.length) (h2:w.ownsRow B 23 1 v ps.length hs)
  (h3:∀ (j:Nat) (h:Value) (p:List Int),hs[j]? = some h→ps[j]? = some p→PthAt w lo h p) (hx:PthAt w lo x p) (hlB:lo≤B) (hlw:lo≤w.heap.size)
  (ho:w'.ownsRow B 23 1 (.slice (some ⟨g,0,none⟩) (ps.length+1) cap) (ps.length+1) (hs ++ [x])) (hk:Keeps (pre v (ps.length*1)) w w'):PhRow w' lo B (.slice (some ⟨g,0,none⟩) (ps.length+1) cap) (ps ++ [p]):=by
 have hI:∀ {u:Value} {q:List Int},PthAt w lo u q→PthAt w' lo u q:=fun {u q} h=>by
  rcases h with ⟨A,c,e,h⟩ | h
  ·refine .inl ⟨A,c,e,fun hne=>?_⟩
   obtain ⟨b,off,e1,e2,e3⟩:=h hne
   refine ⟨b,off,e1,e2,fun i y hy=>(xJ (w:=w) (a:=⟨b,off+i,none⟩) (hk.block b (by omega) (Qcb fun eb=>?_))).trans (e3 i y hy)⟩
   have:=(World.ownsRow.lt h2 b eb).1
   omega
  ·refine .inr (h.keepP hk fun k hk'=>.inl (Qcb fun eb=>?_))
   obtain ⟨g1,c1,cur1,hv1,_,hh1,_⟩:=h
   rw [hv1] at hk'
   injection hk' with hk'
   have ek:g1=k:=hk'
   subst ek
   rcases h2.2 with ⟨rfl,_⟩|⟨g2,cap2,cur2,rfl,_,hh2,_⟩
   ·cases eb
   ·injection eb with eb
    have e2:g2=g1:=eb
    subst e2
    rw [hh1] at hh2
    injection hh2 with hh2
    injection hh2 with _ h5
    exact absurd h5 (by decide)
 refine ⟨hs ++ [x],by rw [xB,xB,h1];rfl,by rw [xB];exact ho,fun j h q hh hq=>?_⟩
 by_cases hj:j<ps.length
 ·rw [yB (by rw [h1];exact hj)] at hh
  rw [yB hj] at hq
  exact hI (h3 j h q hh hq)
 ·have hjl:=(xP.1 hq).1
  rw [xB,List.length_singleton] at hjl
  obtain rfl:j=ps.length:=by omega
  rw [xX (by omega),h1,Nat.sub_self] at hh
  rw [xX (xA _),Nat.sub_self] at hq
  injection hh with hh
  injection hq with hq
  subst hh hq
  exact hI hx
end Go.Proofs.YtjidpkcjpgdafaaGreat
namespace Go.Proofs.YtjidpkcjpgdafaaGreat
open Go.RowKit
def Qnc (ps:List Tr):Tr:=.mk 0 ⟨#[]⟩ [] ps
theorem Qke:(ps:List Tr)→(∀ t∈ps,Qnl t)→Qap ps≤352*ps.length
 | [],_=>by rw [Qap];simp
 | t :: r,h=>by
  rw [Qap,xD]
  have h1:=(h t (by simp)).2.2.1
  have h2:=Qke r (fun u hu=>h u (by simp [hu]))
  omega
theorem Qrg:(ps:List Tr)→(∀ t∈ps,Qnl t)→Qbk ps=true
 | [],_=>rfl
 | t :: r,h=>by
  rw [Qbk,(h t (by simp)).2.1,Qrg r (fun u hu=>h u (by simp [hu]))]
  rfl
theorem Qui {ps:List Tr} (h3:ps.length≤3) (hg:∀ t∈ps,Qnl t):Qrj (Qnc ps)≤70000:=by
 have h1:Qfw (Qnc ps)=true:=Qcd.2 ⟨by decide,by simp,by simp,Qrg ps hg⟩
 have h2:=Ql0 _ h1
 have h4:Qak (Qnc ps)=1+Qap ps:=by unfold Qnc;rw [Qak] <;> omega
 have h5:=Qke ps hg
 have h6:352*ps.length≤352*3:=Nat.mul_le_mul_left _ h3
 omega
theorem Zgc {lo c:Nat} {A:Option Addr} {w:World} {ps:List Tr} {us:List TV} (hc:ps.length≤c) (hlen:us.length=ps.length)
  (hrow:ps≠[]→∃ g cs,A=some ⟨g,0,none⟩∧lo≤g∧w.heap[g]? = some (.cells cs 29 (0,0))∧RowIs cs us)
  (hat:∀ (i:Nat) (k:Tr) (u:TV),ps[i]? = some k→us[i]? = some u→TrAt (fun b=>lo≤b∧b<w.heap.size) w k u) :
  TrAt (fun b=>lo≤b∧b<w.heap.size) w (Qnc ps) ⟨0,⟨#[]⟩,none,0,0,A,ps.length,c⟩:=by
 refine TrAt.make rfl rfl rfl rfl (fun h=>absurd rfl h) (fun h0=>?_) ⟨xA _,hc⟩
 obtain ⟨g,cs,hA,hg,hh,hr⟩:=hrow h0
 refine ⟨g,0,hA,⟨hg,Qaa hh⟩,TrsAt.of _ 0 fun i t ht=>?_⟩
 have hi:i<us.length:=by rw [hlen];exact (xP.1 ht).1
 obtain ⟨u,hu⟩:∃ u,us[i]? = some u:=⟨_,xF hi⟩
 obtain ⟨r0,r1,r2,r3⟩:=hr i u hu
 refine ⟨u,?_,?_,?_,?_,hat i t u ht hu⟩
 ·rw [show 0+i*4=i*4 from by omega];exact Qab hh _ _ r0
 ·rw [show 0+i*4+1=i*4+1 from by omega];exact Qab hh _ _ r1
 ·rw [show 0+i*4+2=i*4+2 from by omega];exact Qab hh _ _ r2
 ·rw [show 0+i*4+3=i*4+3 from by omega];exact Qab hh _ _ r3
end Go.Proofs.YtjidpkcjpgdafaaGreat
namespace Go.Proofs.YtjidpkcjpgdafaaGreat
open Go.RowKit Go.Shelf
def FR (S:Nat→Prop) (lo:Nat) (w:World) (l:Value) (ts:List Tr):Prop:=∃ vs:List TV,vs.length=ts.length∧w.ownsRow lo 29 4 l ts.length (Qag vs)∧∀ (i:Nat) (k:Tr) (u:TV),ts[i]? = some k→vs[i]? = some u→TrAt S w k u
theorem Zhc (vs:List TV):∀ u∈Qag vs,u.oneCell'=true:=fun u hu=>by
 unfold Qag at hu
 obtain ⟨v,_,h⟩:=List.mem_flatMap.1 hu
 exact Qi9 v u h
theorem FR.later {S:Nat→Prop} {w w':World} {lo:Nat} {l:Value} {ts:List Tr} (h:FR S lo w l ts) (hb:Below w.heap.size w w'):FR S lo w' l ts:=by
 obtain ⟨vs,h1,h2,h3⟩:=h
 exact ⟨vs,h1,(Keeps.of_below (P:=fun _=>none) hb).row h2 fun _ _=>.inl rfl,fun i k u hk hu=>(h3 i k u hk hu).keep hb⟩
theorem FR.slice {S:Nat→Prop} {w:World} {lo:Nat} {l:Value} {ts:List Tr} (h:FR S lo w l ts):∃ A c,l = .slice A ts.length c:=by
 obtain ⟨vs,_,h2,_⟩:=h
 exact Qc6 h2
theorem FR.join {S:Nat→Prop} {w w':World} {lo g cap:Nat} {l:Value} {ts us:List Tr} {vs xs:List TV} (h1:vs.length=ts.length) (hrow:w.ownsRow lo 29 4 l ts.length (Qag vs))
  (h3:∀ (i:Nat) (k:Tr) (u:TV),ts[i]? = some k→vs[i]? = some u→TrAt S w k u) (q1:xs.length=us.length) (q3:∀ (i:Nat) (k:Tr) (u:TV),us[i]? = some k→xs[i]? = some u→TrAt S w k u) (hS:∀ b,S b→b<lo)
  (ho:w'.ownsRow lo 29 4 (.slice (some ⟨g,0,none⟩) (ts.length+us.length) cap) (ts.length+us.length) (Qag vs ++ Qag xs)) (hk:Keeps (pre l (ts.length*4)) w w') :
  FR S lo w' (.slice (some ⟨g,0,none⟩) (ts.length+us.length) cap) (ts ++ us):=by
 have hown:∀ b,l.ownBlock=some b→lo≤b:=fun b e=>(World.ownsRow.lt hrow b e).1
 have hm:∀ (a:Tr) (u:TV),TrAt S w a u→TrAt S w' a u:=fun a u ha=>TrAt.move (fun _ h=>h) (fun b hb hl=>hk.block b hl (Qcb fun e=>by have:=hown b e;have:=hS b hb;omega)) _ _ ha
 refine ⟨vs ++ xs,by simp [h1,q1],?_,fun i k u hk hu=>?_⟩
 ·have e:Qag (vs ++ xs)=Qag vs ++ Qag xs:=by unfold Qag;simp
  rw [e,xB]
  exact ho
 ·by_cases hi:i<ts.length
  ·rw [yB hi] at hk
   rw [yB (by rw [h1];exact hi)] at hu
   exact hm _ _ (h3 i k u hk hu)
  ·rw [xX (by omega)] at hk
   rw [xX (by omega),h1] at hu
   exact hm _ _ (q3 _ k u hk hu)
theorem FR.at {S:Nat→Prop} {lo:Nat} {w:World} {A:Option Addr} {n c:Nat} {ts:List Tr} (h:FR S lo w (.slice A n c) ts) {j:Nat} {k:Tr} (hk:ts[j]? = some k):n=ts.length∧∃ (g:Nat) (u:TV),A=some ⟨g,0,none⟩∧lo≤g∧g<w.heap.size ∧
  w.cell? ⟨g,j*4,none⟩=some (.int .i64 u.kind)∧w.cell? ⟨g,j*4+1,none⟩=some (.string u.text)∧w.cell? ⟨g,j*4+2,none⟩=some (.slice u.la u.ll u.lc)∧w.cell? ⟨g,j*4+3,none⟩=some (.slice u.ka u.kl u.kc)∧TrAt S w k u:=by
 obtain ⟨vs,h1,h2,h3⟩:=h
 have hj:=(xP.1 hk).1
 obtain ⟨g,cap,hv,hg,hl⟩:=World.ownsRow.form h2 (by omega)
 injection hv with hv1 hv2 hv3
 subst hv1
 have hcs:=h2.cells (g:=g) rfl
 have hc:∀ (j:Nat) (x:Value),(Qag vs)[j]? = some x→w.cell? ⟨g,j,none⟩=some x:=fun j x hx=>by
  have h:=hcs j x hx
  rw [Addr.add_lit] at h
  simp only [Nat.zero_add] at h
  exact h
 obtain ⟨u,hu⟩:∃ u,vs[j]? = some u:=⟨_,xF (by rw [h1];exact hj)⟩
 obtain ⟨q0,q1,q2,q3⟩:=Qfg vs j u hu
 exact ⟨hv2,g,u,rfl,hg,hl,hc _ _ q0,hc _ _ q1,hc _ _ q2,hc _ _ q3,h3 j k u hk hu⟩
theorem FR.in {S:Nat→Prop} {lo g:Nat} {w:World} {n c:Nat} {ts:List Tr} (h:FR S lo w (.slice (some ⟨g,0,none⟩) n c) ts) {j:Nat} {k:Tr} (hk:ts[j]? = some k):lo≤g∧g<w.heap.size∧∃ u:TV,
  w.cell? ⟨g,j*4,none⟩=some (.int .i64 u.kind)∧w.cell? ⟨g,j*4+1,none⟩=some (.string u.text)∧w.cell? ⟨g,j*4+2,none⟩=some (.slice u.la u.ll u.lc)∧w.cell? ⟨g,j*4+3,none⟩=some (.slice u.ka u.kl u.kc)∧TrAt S w k u:=by
 obtain ⟨_,g2,u,hA,h1,h2,h3⟩:=h.at hk
 injection hA with hA
 injection hA with hA
 subst hA
 exact ⟨h1,h2,u,h3⟩
def fnB (t:Tr):Bool:=decide (t.kind=2)
def Qpq (ps:List Tr):List Tr:=ps.flatMap fun t=>t.kids.filter fnB
theorem Zdr {ps:List Tr} {q:Nat} {T:Tr} (h:ps[q]? = some T):Qpq (ps.take (q+1))=Qpq (ps.take q) ++ T.kids.filter fnB:=by
 unfold Qpq
 rw [List.take_add_one,h,Option.toList_some,List.flatMap_append,List.flatMap_singleton]
theorem Qs8:(ps:List Tr)→(Qpq ps).length≤Qap ps
 | []=>by unfold Qpq;simp
 | t :: r=>by
  have h1:=Qs8 r
  have h2:=List.length_filter_le fnB t.kids
  have h3:=Qa5 t.kids
  have h4:=Qa0 t
  unfold Qpq at h1 ⊢
  rw [List.flatMap_cons,xB,Qap]
  omega
theorem Zbb {ps:List Tr} {f:Tr} (h:f∈Qpq ps):∃ T∈ps,f∈T.kids∧f.kind=2:=by
 unfold Qpq at h
 obtain ⟨T,h1,h2⟩:=List.mem_flatMap.1 h
 obtain ⟨h3,h4⟩:=List.mem_filter.1 h2
 unfold fnB at h4
 exact ⟨T,h1,h3,by simpa using h4⟩
theorem Zbc {l:List Tr} {d:Nat} {k:Tr} (h:l[d]? = some k):(l.take (d+1)).filter fnB=(l.take d).filter fnB ++ (if fnB k=true then [k] else []):=by
 rw [List.take_add_one,h,Option.toList_some,List.filter_append,List.filter_cons,List.filter_nil]
def FnsO (ps:List Tr) (w1:World) (l i:Value) (wr:World):Prop:=∃ q:Nat,i = .int .i64 (q:Int)∧q≤ps.length∧FR (fun b=>b<w1.heap.size) w1.heap.size wr l (Qpq (ps.take q))∧Below w1.heap.size w1 wr
def FnsI (ps:List Tr) (q:Nat) (T:Tr) (w1:World) (l i:Value) (wr:World):Prop:=∃ d:Nat,i = .int .i64 (d:Int)∧d≤T.kids.length∧FR (fun b=>b<w1.heap.size) w1.heap.size wr l (Qpq (ps.take q) ++ (T.kids.take d).filter fnB)∧Below w1.heap.size w1 wr
def FnsP (w:World) (e:Ending) (w':World):Prop:=∃ (l:Value) (w1:World) (ps:List Tr),e = .returned l∧ps.length≤3∧(∀ t∈ps,Qnl t)∧FR (fun b=>b<w1.heap.size) w1.heap.size w' l (Qpq ps)∧Below w1.heap.size w1 w'∧Below w.heap.size w w'
theorem Qpp (A:Option Addr) (c:Nat) (xs:List Int) (w:World) (hx:IntsAt w A xs) (hl:xs.length≤120):Calls Tryz.prog 41 #[.slice A xs.length c] w (FnsP w):=by
 obtain ⟨it,hit,ht0,ht1,ht2⟩:=info_parts Qcp
 have HP:=hQ (Qs7 A c xs w hx hl)
 clear hx hl
 go_enter Tryz.func41,Tryz.ntmps41
 go_wp2_with fail
 go_at_call 24
 refine HP.out.mono ?_
 rintro e w1 ⟨r,ps,rfl,hm,hlen,hgood,hb⟩
 obtain ⟨A1,c1,us,rfl,hc1,hus,hrow,hat⟩:=hm
 have HB:=hQ hb
 have HLEN:=hQ hlen
 have HG:=hQ hgood
 have HR:=hQ (TrAt.move (S':=fun b=>b<w1.heap.size) (fun b h=>h.2) (fun _ _ _=>rfl) _ _ (Zgc hc1 hus hrow hat))
 have HZ:=hQ (fun t ht=>(hgood t ht).2.2.1)
 have hnl:(ps.length:Int)≤3:=by omega
 clear hrow hat hgood hb hc1 hus hlen
 go_wp2_with fail
 go_loopw [3,5] (fun l i wr=>FnsO ps w1 l i wr) (fun _ i _=>ps.length-(intOf i).toNat)
 case atStart=>exact ⟨0,rfl,xZ _,⟨[],rfl,World.ownsRow_nil _ _ _ _,fun i k u hk=>by simp [Qpq] at hk⟩,xC _ _⟩
 case round =>
  obtain ⟨q,rfl,hq,hfr,hb⟩:=hrel
  have HFR:=hQ hfr
  have HBR:=hQ hb
  clear hfr hb
  by_cases hlt:q<ps.length
  ·obtain ⟨T,hT⟩:∃ T,ps[q]? = some T:=⟨_,xF hlt⟩
   obtain ⟨b,off,hka⟩:∃ b off,A1=some ⟨b,off,none⟩:=HR.out.addr.resolve_left (by show ¬ ps.length=0;omega)
   subst hka
   have HT:=hQ hT
   have HTZ:=hQ (show Qak T≤352 from HZ.out T (yA hT))
   have HTK:=hQ (show T.kids.length≤352 from by have h3:=Qa5 T.kids;have h4:=Qa0 T;have:=HTZ.out;omega)
   have HUX:=hQ (HR.out.at rfl (show (Qnc ps).kids[q]? = some T from hT))
   have HFL:=hQ (show (Qpq (ps.take q)).length≤1056 from by
    have h1:=Qs8 (ps.take q)
    have h2:=Qke (ps.take q) (fun t ht=>HG.out t (List.mem_of_mem_take ht))
    have h3:(ps.take q).length≤3:=by rw [List.length_take];have:=HLEN.out;omega
    have h4:352*(ps.take q).length≤352*3:=Nat.mul_le_mul_left _ h3
    omega)
   have hq0:(0:Int)≤(q:Int):=by omega
   have hq1:(q:Int)<(ps.length:Int):=by omega
   have hq2:(q:Int)+1≤3:=by omega
   clear hT
   go_wp2_with fail
   go_loopw [3,6] (fun l i wr=>FnsI ps q T w1 l i wr) (fun _ i _=>T.kids.length-(intOf i).toNat)
   case atStart=>exact ⟨0,rfl,xZ _,by rw [List.take_zero,List.filter_nil,List.append_nil];exact HFR.out,HBR.out⟩
   case round =>
    obtain ⟨d,rfl,hd,hfr,hb⟩:=hrel
    have HB2:=hQ hb
    obtain ⟨gs,hgs⟩:∃ gs,gs=Qpq (ps.take q) ++ (T.kids.take d).filter fnB:=⟨_,rfl⟩
    rw [←hgs] at hfr
    have HGS:=hQ hgs
    have HFR2:=hQ hfr
    obtain ⟨tv,t0,t1,t2,t3,htv⟩:=HUX.out
    have t3:=(hb.cell (xK w1 _ t3)).trans t3
    have tl:=xK wr _ t3
    have hkl:=htv.kl.1
    obtain ⟨tk,tx,tla,tll,tlc,tka,tkl,tkc⟩:=tv
    simp only at hkl t3
    subst hkl
    have d2:(d:Int)+1≤353:=by have:=HTK.out;omega
    clear hfr hb t0 t1 t2 hgs
    by_cases hdl:d<T.kids.length
    ·obtain ⟨k,hk⟩:∃ k,T.kids[d]? = some k:=⟨_,xF hdl⟩
     obtain ⟨kb,ko,hka⟩:∃ b off,tka=some ⟨b,off,none⟩:=htv.addr.resolve_left (by omega)
     subst hka
     obtain ⟨kv,c0,c1',c2,c3,hkv⟩:=htv.at rfl hk
     have c0:=(HB2.out.cell (xK w1 _ c0)).trans c0
     have c1:=(HB2.out.cell (xK w1 _ c1')).trans c1'
     have c2:=(HB2.out.cell (xK w1 _ c2)).trans c2
     have c3:=(HB2.out.cell (xK w1 _ c3)).trans c3
     have cl:=xK wr _ c0
     have d0:(0:Int)≤(d:Int):=by omega
     have d1:(d:Int)<(T.kids.length:Int):=by omega
     have hkk:=hkv.kl.2.2.1
     have HKV:=hQ hkv
     have HNX:=hQ (Zbc hk)
     have HGL:=hQ (show gs.length≤1408 from by
      have h1:=List.length_filter_le fnB (T.kids.take d)
      rw [List.length_take] at h1
      rw [HGS.out,xB]
      have:=HFL.out
      have:=HTK.out
      omega)
     clear c1' htv hkv hk
     by_cases hkd:k.kind=2
     ·have e1:(kv.kind==2)=true:=by rw [hkk,hkd];rfl
      have HFB:=hQ (show fnB k=true from by unfold fnB;exact xS hkd)
      obtain ⟨vk,vx,vla,vll,vlc,vka,vkl,vkc⟩:=kv
      simp only at hkk e1 c0 c1 c2 c3
      have hvk:vk=2:=by rw [hkk,hkd]
      subst hvk
      obtain ⟨vs,h1,h2,h3⟩:=HFR2.out
      have H1:=hQ h1
      have HBA:=hQ ((xC wr.heap.size wr).alloc (xA _) (trO ⟨2,vx,vla,vll,vlc,vka,vkl,vkc⟩))
      have H2:=hQ ((Keeps.of_below (P:=fun _=>none) HBA.out).row h2 fun _ _=>.inl rfl)
      have H3:=hQ (show ∀ (i:Nat) (k:Tr) (u:TV),gs[i]? = some k→vs[i]? = some u→TrAt (fun b=>b<w1.heap.size) (wr.alloc (trO ⟨2,vx,vla,vll,vlc,vka,vkl,vkc⟩)) k u from fun i k u hk hu=>(h3 i k u hk hu).keep HBA.out)
      have HNW:=hQ (show ∀ (j:Nat) (x:Value),(Qag [⟨2,vx,vla,vll,vlc,vka,vkl,vkc⟩])[j]? = some x→(wr.alloc (trO ⟨2,vx,vla,vll,vlc,vka,vkl,vkc⟩)).cell? ((⟨wr.heap.size,0,none⟩:Addr).add j)=some x from fun j x hx=>by
       rw [Addr.add_lit,Nat.zero_add]
       exact Qab (xH wr _) j x (by rw [←Array.getElem?_toList];exact hx))
      have HM1:=hQ (show gs.length+1≤maxLen from by have:=HGL.out;unfold maxLen;omega)
      have HM2:=hQ (show (gs.length+1)*72≤140737488355328 from by have:=HGL.out;omega)
      have HSZ:=hQ (show w1.heap.size≤(wr.alloc (trO ⟨2,vx,vla,vll,vlc,vka,vkl,vkc⟩)).heap.size from by rw [xI];have:=HB2.out.size;omega)
      have HALL:=hQ (Zhc [⟨2,vx,vla,vll,vlc,vka,vkl,vkc⟩])
      obtain ⟨LA,lc,hl⟩:=Qc6 h2
      subst hl
      clear h1 h2 h3 hkk hkd
      go_wp2_with (at_builtin;refine Qel _ rfl _ _ 22 rfl w1.heap.size 29 it _ 4 72 Tryz.underlying22 hit ht0 ht1 ht2 rfl (by decide) _ gs.length (Qag vs) rfl H2.out ⟨wr.heap.size,0,none⟩ 1 1 (Qag [⟨2,vx,vla,vll,vlc,vka,vkl,vkc⟩]) rfl rfl HNW.out HALL.out (by decide) HM1.out HM2.out HSZ.out ?_;intro g6 c6 w6 hown6 hk6 hg6 hlt6;have HO6:=hQ hown6;have HK6:=hQ hk6;clear hown6 hk6 hg6 hlt6)
      go_roundw
      case measure=>first | (simp [intOf];done) | (simp [intOf];omega)
      case rel =>
       refine ⟨d+1,rfl,by omega,?_,?_⟩
       ·have h:=FR.join H1.out H2.out H3.out (us:=[k]) (xs:=[⟨2,vx,vla,vll,vlc,vka,vkl,vkc⟩]) rfl (fun i a u ha hu=>by
         match i,ha,hu with
         | 0,ha,hu =>
          injection ha with ha
          injection hu with hu
          subst ha hu
          exact HKV.out.keep (HB2.out.trans (HBA.out.mono HB2.out.size))
         | i+1,ha,_=>simp at ha) (fun b hb=>hb) HO6.out HK6.out
        rw [HNX.out,xO HFB.out,←xT,←HGS.out]
        exact h
       ·exact (HB2.out.trans (HBA.out.mono HB2.out.size)).trans (HK6.out.below HSZ.out fun b hl=>Qcb fun e=>by have:=(World.ownsRow.lt H2.out b e).1;omega)
     ·have e1:(kv.kind==2)=false:=by rw [hkk];simpa using hkd
      have HFB:=hQ (show fnB k=false from by unfold fnB;exact xR hkd)
      clear hkk hkd
      go_wp2_with fail
      go_roundw
      case measure=>first | (simp [intOf];done) | (simp [intOf];omega)
      case rel=>exact ⟨d+1,rfl,by omega,by rw [HNX.out,xN (by rw [HFB.out];decide),List.append_nil,←HGS.out];exact HFR2.out,HB2.out⟩
    ·obtain rfl:d=T.kids.length:=by omega
     go_wp2_with fail
     go_roundw
     case measure=>first | (simp [intOf];done) | (simp [intOf];omega)
     case rel=>exact ⟨q+1,rfl,by omega,by rw [Zdr HT.out];have h:=HGS.out;rw [List.take_length] at h;rw [←h];exact HFR2.out,HB2.out⟩
  ·obtain rfl:q=ps.length:=by omega
   go_wp2_with fail
   go_ret
   exact ⟨_,w1,ps,rfl,HLEN.out,HG.out,by have h:=HFR.out;rw [List.take_length] at h;exact h,HBR.out,HB.out.trans (HBR.out.mono HB.out.size)⟩
theorem Qrh (A:Option Addr) (n c:Nat) (w:World):Calls Tryz.prog 23 #[.slice A n c] w fun e w'=>e = .returned (.bool (decide (n≤120)))∧w'=w:=by
 have h:(decide ((n:Int)≤120))=decide (n≤120):=by simp;omega
 go_enter Tryz.func23,Tryz.ntmps23
 go_wp2
 go_ret
 first | exact ⟨rfl,rfl⟩ | (rw [←h];exact ⟨rfl,rfl⟩) | (simp;done) | (simp;omega)
theorem Zbd {ps:List Tr} (hlen:ps.length≤3) (hg:∀ t∈ps,Qnl t) {f:Tr} (h:f∈Qpq ps):Qcq f=true∧Qdh f=true∧Qak f≤352∧f.kind=2:=by
 obtain ⟨T,h1,h2,h3⟩:=Zbb h
 have hcnt:=Qui hlen hg
 have hs:=Qml _ (show Qrj (Qnc ps)≤1048576 from by omega)
 have hw:=Qkb _ (show Qrj (Qnc ps)≤1048576 from by omega)
 obtain ⟨i,hi⟩:=List.mem_iff_getElem?.1 h1
 obtain ⟨j,hj⟩:=List.mem_iff_getElem?.1 h2
 have hi':(Qnc ps).kids[i]? = some T:=hi
 have a1:=(Qfi ((Qfi hs).2.2 i T hi')).2.2 j f hj
 have a2:=(Qfj ((Qfj hw).2.2 i T hi')).2.2 j f hj
 have a3:=Qbc hj
 have a4:=(hg T h1).2.2.1
 exact ⟨a1,a2,by omega,h3⟩
theorem Zds {t:Tr}:(Qiv t).length≤Qak t:=by
 unfold Qiv
 split
 ·exact Qqe t [] []
 ·simp
end Go.Proofs.YtjidpkcjpgdafaaGreat

/- Part 42 -/
import Derived.Test.YtjidpkcjpgdafaaGreatSf39
import Derived.Test.YtjidpkcjpgdafaaGreatSf41
import Derived.IntWalk
set_option maxRecDepth 100000
set_option maxHeartbeats 4000000
namespace Go.Proofs.YtjidpkcjpgdafaaGreat
open Go.RowKit Go.Shelf
def Qqn (t:Tr) (zs:List Int):List ByteArray:=Qeq ((Qas t zs).map (·.1))
def VisL (st:List Bnd) (w1:World) (B:Nat) (v i:Value) (wr:World):Prop:=∃ j:Nat,i = .int .i64 (j:Int)∧j≤st.length∧NRow wr w1.heap.size v (Qeq ((st.take j).map (·.1)))∧Below w1.heap.size w1 wr∧B≤wr.heap.size
theorem StkE.in {w w1:World} {PA:Option Addr} {us:List (ByteArray × Value)} {st:List Bnd} {B n cap:Nat} {A:Option Addr} (h:StkE w PA w1 us st) (hs:Qjs w1 B (.slice A n cap) us) {j:Nat} (hj:j<st.length):n=st.length∧∃ (g:Nat) (z:Bnd) (pa:Option Addr) (pn pc:Nat),A=some ⟨g,0,none⟩∧g<w1.heap.size∧st[j]? = some z∧w1.cell? ⟨g,j*2,none⟩=some (.string z.1)∧w1.cell? ⟨g,j*2+1,none⟩=some (.slice pa pn pc):=by
 obtain ⟨y,hy⟩:∃ y,us[j]? = some y:=⟨_,xF (by rw [h.1];exact hj)⟩
 obtain ⟨z,hz⟩:∃ z,st[j]? = some z:=⟨_,xF hj⟩
 obtain ⟨h1,_,_,h4⟩:=h.2 j y z hy hz
 obtain ⟨g,cap',hv,hg,hl⟩:=World.ownsRow.form hs (by rw [h.1];omega)
 injection hv with hv1 hv2 hv3
 subst hv1
 have hc:=hs.cells (g:=g) rfl
 have e0:=hc _ _ (Qeg hy).1
 have e1:=hc _ _ (Qeg hy).2
 rw [Addr.add_lit] at e0 e1
 simp only [Nat.zero_add] at e0 e1
 obtain ⟨pa,pn,pc,hp⟩:∃ pa pn pc,y.2 = .slice pa pn pc:=by
  rcases h4 with h4|⟨pc,hv,_⟩
  ·obtain ⟨A,c,e,_⟩:=h4.ints
   exact ⟨_,_,_,e⟩
  ·exact ⟨_,_,_,hv⟩
 exact ⟨by rw [hv2,h.1],g,z,pa,pn,pc,rfl,hl,hz,by rw [←h1];exact e0,by rw [←hp];exact e1⟩
theorem Qhk (S:Nat→Prop) (t:Tr) (v:TV) (PA:Option Addr) (c:Nat) (zs:List Int) (w:World) (ht:TrAt S w t v) (hs:Qb7 t=true) (hw:Qc2 t=true) (hz:Qam t≤10000) (hA:IntsAt w PA zs) (hzl:zs.length≤10000) (hc:zs.length≤c) :
  Calls Tryz.prog 39 #[.agg #[.int .i64 v.kind,.string v.text,.slice v.la v.ll v.lc,.slice v.ka v.kl v.kc],.slice PA zs.length c] w fun e w'=>∃ r,e = .returned r∧NRow w' w.heap.size r (Qqn t zs)∧Below w.heap.size w w':=by
 have hb0:=Qaf w (trO v)
 have HT:=hQ (ht.keep hb0)
 have HX:=hQ (xH w (trO v))
 have HB0:=hQ hb0
 have HS:=hQ hs
 have HW:=hQ hw
 have HZ:=hQ hz
 have HA:=hQ (hA.keep hb0)
 have HZL:=hQ hzl
 have HC:=hQ hc
 obtain ⟨vk,vx,vla,vll,vlc,vka,vkl,vkc⟩:=v
 clear ht hb0 hs hw hz hA hzl hc
 obtain ⟨st,hst0⟩:∃ st,st=Qas t zs:=⟨_,rfl⟩
 have HSTE:=hQ hst0
 clear hst0
 go_enter Tryz.func39,Tryz.ntmps39
 go_wp2_with fail
 go_at_call 67
 refine (Qit _ t _ PA c zs _ HT.out HS.out HW.out HZ.out HA.out HZL.out HC.out).mono ?_
 rintro e w1 ⟨r,us,rfl,hr,hst,hul,hb⟩
 rw [←HSTE.out] at hst
 have hul2:us.length=st.length:=hst.1
 obtain ⟨RA,rc,rfl⟩:=Qbe hr
 have HB1:=hQ (HB0.out.trans (hb.mono HB0.out.size))
 have HUL:=hQ (show st.length≤20000 by omega)
 have HR:=hQ hr
 have HST:=hQ hst
 rw [hul2]
 have hsl:(st.length:Int)≤20000:=by omega
 clear hr hst hul hb hul2
 go_wp2_with fail
 go_loopw [5,14] (fun v i wr=>VisL st w1 w1.heap.size v i wr) (fun _ i _=>st.length-(intOf i).toNat)
 case atStart=>exact ⟨0,rfl,xZ _,NRow.nil _ _,xC _ _,xA _⟩
 case round =>
  obtain ⟨j,rfl,hj,hn,hb,hB⟩:=hrel
  have HN:=hQ hn
  have HB:=hQ hb
  have HBS:=hQ hB
  clear hn hb hB
  by_cases hlt:j<st.length
  ·obtain ⟨_,g,z,pa,pn,pc,rfl,hg,hz,c0,c1⟩:=HST.out.in HR.out hlt
   have c0:=(HB.out.cell (p:=⟨g,j*2,none⟩) hg).trans c0
   have c1:=(HB.out.cell (p:=⟨g,j*2+1,none⟩) hg).trans c1
   have cl:=xK wr _ c0
   have j0:(0:Int)≤(j:Int):=by omega
   have j1:(j:Int)<(st.length:Int):=by omega
   have j2:(j:Int)+1≤20001:=by omega
   obtain ⟨l,hl⟩:∃ l,l=Qeq ((st.take j).map (·.1)):=⟨_,rfl⟩
   have HNR:=hQ (show NRow wr w1.heap.size _ l from by rw [hl];exact HN.out)
   have HASC:=hQ (show Asc l from by rw [hl];exact Qiv _)
   have HLL:=hQ (show l.length≤20000 from by
    rw [hl]
    have h1:=Qiw ((st.take j).map (·.1))
    rw [List.length_map,List.length_take] at h1
    have:=HUL.out
    omega)
   have HNX:=hQ (show Qeq ((st.take (j+1)).map (·.1))=Qju l z.1 from by
    rw [List.take_add_one,hz,Option.toList_some,List.map_append,List.map_cons,List.map_nil,Qkp,hl])
   have HSP:=hQ (Qjt l z.1)
   clear hz hl
   by_cases hin:l[Qdk l z.1]? = some z.1
   ·have d0:decide (l[Qdk l z.1]? = some z.1)=true:=xS hin
    have HE:=hQ (show Qju l z.1=l from xO hin)
    clear hin
    go_wp2_with fail
    go_at_call 72
    refine (Qlv w1.heap.size _ l z.1 _ (HNR.out.keep (Qaf wr _)) HASC.out (by have:=HLL.out;omega)).mono ?_
    rw [d0]
    rintro e w5 ⟨rfl,q,rfl⟩
    go_wp2_with fail
    go_roundw
    case measure=>first | (simp [intOf];done) | (simp [intOf];omega)
    case rel =>
     have hq:=Qix (wr.alloc (.cells #[.string z.1,.slice pa pn pc] 109)).heap.size (wr.alloc (.cells #[.string z.1,.slice pa pn pc] 109)) q
     have hq2:=(Qaf wr (.cells #[.string z.1,.slice pa pn pc] 109)).trans (hq.mono (Qaf wr (.cells #[.string z.1,.slice pa pn pc] 109)).size)
     exact ⟨j+1,rfl,by omega,by rw [HNX.out,HE.out];exact HNR.out.keep hq2,HB.out.trans (hq2.mono HB.out.size),xQ HBS.out hq2.size⟩
   ·have d0:decide (l[Qdk l z.1]? = some z.1)=false:=xR hin
    have HE:=hQ (show Qju l z.1=l.take (Qdk l z.1) ++ z.1 :: l.drop (Qdk l z.1) from xN hin)
    clear hin
    go_wp2_with fail
    go_at_call 72
    refine (Qlv w1.heap.size _ l z.1 _ (HNR.out.keep (Qaf wr _)) HASC.out (by have:=HLL.out;omega)).mono ?_
    rw [d0]
    rintro e w5 ⟨rfl,q,rfl⟩
    obtain ⟨W5,hW5⟩:∃ W5,W5=(wr.alloc (.cells #[.string z.1,.slice pa pn pc] 109)).drewN q:=⟨_,rfl⟩
    have hq:Below wr.heap.size wr W5:=by
     rw [hW5]
     exact (Qaf wr _).trans (Qix _ _ q)
    have hx5:W5.heap[wr.heap.size]? = some (.cells #[.string z.1,.slice pa pn pc] 109 (0,0)):=by
     rw [hW5]
     exact xH wr _
    rw [←hW5]
    have HQ:=hQ hq
    have HX5:=hQ hx5
    have k0:W5.cell? ⟨wr.heap.size,0,none⟩=some (.string z.1):=Qaa hx5 0 _ rfl
    have kl:=Qab hx5
    clear hq hx5 hW5
    go_wp2_with fail
    go_at_call 73
    refine (Qsb w1.heap.size _ l (Qdk l z.1) z.1 W5.heap.size _ ((HNR.out.keep HQ.out).keep (Qaf W5 _)) HSP.out (by have:=HLL.out;omega) (xH W5 _) (fun e=>?_) (by rw [xI];have:=HBS.out;have:=HQ.out.size;omega)).mono ?_
    ·have h1:=(World.ownsRow.lt (HNR.out.keep HQ.out) _ e).2
     omega
    rintro e w6 ⟨u,rfl,hu,hb6⟩
    have HU:=hQ hu
    have HB6:=hQ (HB.out.trans ((HQ.out.trans ((Qaf W5 (.cells #[.string z.1] 9)).mono HQ.out.size)).mono HB.out.size) |>.trans hb6)
    clear hu hb6
    go_wp2_with fail
    go_roundw
    case measure=>first | (simp [intOf];done) | (simp [intOf];omega)
    case rel=>exact ⟨j+1,rfl,by omega,by rw [HNX.out,HE.out];exact HU.out,HB6.out,HB6.out.size⟩
  ·obtain rfl:j=st.length:=by omega
   go_wp2_with fail
   go_ret
   refine ⟨_,rfl,Qdz (B:=w1.heap.size) ?_ HB1.out.size,HB1.out.trans (HB.out.mono HB1.out.size)⟩
   have h:=HN.out
   rw [List.take_length,HSTE.out] at h
   exact h
end Go.Proofs.YtjidpkcjpgdafaaGreat
namespace Go.Proofs.YtjidpkcjpgdafaaGreat
open Go.RowKit
theorem Qjf (k:Int) (n:Nat):∀ (ks:List Tr) (i:Nat),Qb1 k n i ks=true→∀ a∈ks,Qcs a=true
 | [],_,_,a,h=>by simp at h
 | b :: r,i,h,a,ha=>by
  rw [Qb1,Bool.and_eq_true,Bool.and_eq_true] at h
  rcases List.mem_cons.1 ha with rfl | ha
  ·exact h.1.2
  ·exact Qjf k n r (i+1) h.2 a ha
theorem Qe4 {t:Tr} (hz:Qam t≤1000) (h:Qau t=true):0≤Qan t.kind t.kids.length∧∀ a∈t.kids,Qau a=true:=by
 rw [←Qf7 _ t (xA _) hz,Qg4,Bool.and_eq_true,Bool.and_eq_true] at h
 refine ⟨by have h1:=h.1.1;rw [Bool.not_eq_true'] at h1;have h2:=of_decide_eq_false h1;omega,fun a ha=>?_⟩
 have h1:=Qjf _ _ _ _ h.2 a ha
 rw [←Qf7 _ a (xA _) (by have h2:=Qqq ha;have h3:=Qa5 t;omega)]
 exact h1
theorem Qqr {t k:Tr} {j:Nat} (hz:Qam t≤1000) (h:Qau t=true) (ht:t.kids[j]? = some k):Qe5 t.kind t.kids.length j k.kind=true:=by
 rw [←Qf7 _ t (xA _) hz,Qg4] at h
 simp only [Bool.and_eq_true] at h
 have h2:=h.2
 have key:∀ (l:List Tr) (tk:Int) (n i j:Nat),Qb1 tk n i l=true→∀ a,l[j]? = some a→Qe5 tk n (i+j) a.kind=true:=by
  intro l
  induction l with
  | nil=>intro tk n i j _ a ha;simp at ha
  | cons b r ih =>
   intro tk n i j hr a ha
   rw [Qb1] at hr
   simp only [Bool.and_eq_true] at hr
   match j,ha with
   | 0,ha =>
    injection ha with ha
    subst ha
    exact hr.1.1
   | j+1,ha =>
    have:=ih tk n (i+1) j hr.2 a (by simpa using ha)
    rw [show i+1+j=i+(j+1) from by omega] at this
    exact this
 have:=key _ _ _ _ j h2 k ht
 rwa [Nat.zero_add] at this
theorem Qy7 {tk k:Int} {n i:Nat} (h:Qe5 tk n i k=true) (h1:tk≠1):k≠1∧k≠2:=by
 constructor
 all_goals
  intro hk
  subst hk
  unfold Qe5 at h
  rw [xN h1] at h
  repeat' split at h
  all_goals first
   | exact absurd h (by decide)
   | (rw [show Qg7 1=false from by decide] at h;simp at h)
   | (rw [show Qg7 2=false from by decide] at h;simp at h)
theorem Qkt:∀ (zs:List Int) (t u:Tr),Qau t=true→Qam t≤1000→t.kind≠1→Qay t zs=some u→Qau u=true∧Qam u≤1000∧u.kind≠1∧(zs≠[]→u.kind≠2)
 | [],t,u,h,hz,h1,hf=>by
  rw [Qay] at hf
  injection hf with hf
  subst hf
  exact ⟨h,hz,h1,fun e=>absurd rfl e⟩
 | i :: r,t,u,h,hz,h1,hf=>by
  unfold Qay at hf
  cases hk:Qjn t i
  ·rw [hk] at hf;cases hf
  ·rw [hk,xO rfl] at hf
   obtain ⟨_,_,h3⟩:=Qf2 hk
   have hsz:=Qe9 h3
   have hn:=Qy7 (Qqr hz h h3) h1
   obtain ⟨a,b,c,d⟩:=Qkt r (Qfm t i) u ((Qe4 hz h).2 _ (yA h3)) (by omega) hn.1 hf
   refine ⟨a,b,c,fun _=>?_⟩
   by_cases hr:r = []
   ·subst hr
    rw [Qay] at hf
    injection hf with hf
    rw [←hf]
    exact hn.2
   ·exact d hr
theorem Qn5:(a:List Int)→(b:List Int)→(t u:Tr)→Qay t a=some u→Qay t (a ++ b)=Qay u b
 | [],b,t,u,h=>by
  rw [Qay] at h
  injection h with h
  rw [h,xU]
 | i :: r,b,t,u,h=>by
  unfold Qay at h
  rw [xV,Qay]
  split at h
  ·rename_i hk
   rw [xO hk]
   exact Qn5 r b _ u h
  ·cases h
theorem Qu1 {t k:Tr} {j:Nat} (h:t.kids[j]? = some k):Qay t [(j:Int)] = some k:=by
 have hj:=(xP.1 h).1
 have hk:Qjn t (j:Int)=true:=by
  unfold Qjn
  simp only [Bool.and_eq_true,decide_eq_true_eq]
  omega
 rw [Qay,xO hk]
 unfold Qfm
 rw [Int.toNat_natCast,h]
 rfl
theorem Qfd:(zs:List Int)→(t:Tr)→(n:Nat)→(0≤Qjo n t zs ↔ ∃ u,Qay t zs=some u)
 | [],t,n=>by
  rw [Qjo,Qay]
  exact ⟨fun _=>⟨t,rfl⟩,fun _=>by omega⟩
 | i :: r,t,n=>by
  unfold Qjo Qay
  split
  ·exact Qfd r _ _
  ·exact ⟨fun h=>by omega,fun ⟨u,h⟩=>by cases h⟩
theorem Qku (ks:List Tr):(n:Nat)→n≤ks.length→∀ b∈Qda ks n,∃ j k,j<n∧ks[j]? = some k∧b=(k.text,[(j:Int)])
 | 0,_,b,h=>by rw [Qda] at h;simp at h
 | n+1,hn,b,h=>by
  rw [Qda] at h
  rcases List.mem_cons.1 h with rfl | h
  ·obtain ⟨k,hk⟩:∃ k,ks[n]? = some k:=⟨_,xF (by omega)⟩
   exact ⟨n,k,by omega,hk,by rw [hk];rfl⟩
  ·obtain ⟨j,k,h1,h2,h3⟩:=Qku ks n (by omega) b h
   exact ⟨j,k,by omega,h2,h3⟩
def Qy8 (t:Tr) (b:Bnd):Prop:=∃ k,Qay t b.2=some k∧k.text=b.1∧(k.kind=4∨k.kind=20)
theorem Qw7 {t u:Tr} {p:List Int} (hs:Qau t=true) (hz:Qam t≤1000) (h2:t.kind=2) (hf:Qay t p=some u) (i:Int):∀ b∈Qbw u.kind u.text u.kids p i,Qy8 t b:=by
 intro b hb
 unfold Qbw at hb
 split at hb
 ·rename_i hc
  obtain rfl:=List.mem_singleton.1 hb
  exact ⟨u,hf,rfl,.inr hc.1⟩
 ·split at hb
  ·rename_i hc
   have hp:p = []:=by
    by_cases hp:p = []
    ·exact hp
    ·exact absurd hc.1 ((Qkt p t u hs hz (by omega) hf).2.2.2 hp)
   subst hp
   rw [Qay] at hf
   injection hf with hf
   subst hf
   unfold Qdb at hb
   obtain ⟨j,k,h1,h3,rfl⟩:=Qku t.kids _ (by omega) b hb
   refine ⟨k,Qu1 h3,rfl,.inl ?_⟩
   have:=Qqr hz hs h3
   unfold Qe5 at this
   rw [xN (by omega),xO h2,xN (by omega),xN (by omega)] at this
   simpa using this
  ·simp at hb
theorem Qie {t:Tr} (hs:Qau t=true) (hz:Qam t≤1000) (h2:t.kind=2):(zs:List Int)→(u v:Tr)→(p:List Int)→(st:List Bnd)→Qay t p=some u→Qay u zs=some v→(∀ b∈st,Qy8 t b)→∀ b∈Qbj u p zs st,Qy8 t b
 | [],_,_,_,_,_,_,h=>by unfold Qbj;exact h
 | i :: r,u,v,p,st,hu,hv,h=>by
  unfold Qbj
  unfold Qay at hv
  split at hv
  ·rename_i hk
   refine Qie hs hz h2 r (Qfm u i) v (p ++ [i]) _ ?_ hv fun b hb=>?_
   ·rw [Qn5 p [i] t u hu,Qay,xO hk,Qay]
   ·exact (List.mem_append.1 hb).elim (h b) (Qw7 hs hz h2 hu i b)
  ·cases hv
theorem Qy9 {t:Tr} {k:Tr} {j:Nat} (h:t.kids[j]? = some k):Qjn t (j:Int)=true∧Qfm t (j:Int)=k:=by
 have hj:=(xP.1 h).1
 refine ⟨by unfold Qjn;simp only [Bool.and_eq_true,decide_eq_true_eq];omega,?_⟩
 unfold Qfm
 rw [Int.toNat_natCast,h]
 rfl
theorem Qex {t:Tr} (h:Qd0 t=true):t.kind=2∧Qau t=true:=by
 unfold Qd0 at h
 simpa using h
end Go.Proofs.YtjidpkcjpgdafaaGreat

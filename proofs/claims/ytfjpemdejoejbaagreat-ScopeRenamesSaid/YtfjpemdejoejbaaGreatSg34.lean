/- Part 34 -/
import Derived.Test.YtfjpemdejoejbaaGreatSg23
import Derived.Test.YtfjpemdejoejbaaGreatSg30
import Derived.Test.YtfjpemdejoejbaaGreatSg31
import Derived.Test.YtfjpemdejoejbaaGreatSg32
import Derived.Test.YtfjpemdejoejbaaGreatSg33
set_option maxRecDepth 100000
set_option maxHeartbeats 4000000
namespace Go.Proofs.YtfjpemdejoejbaaGreat
open Go.RowKit Go.Shelf
def Zh3 (t:Tr) (zs:List Int):List ByteArray:=Qh7 ((Qca t zs).map (·.1))
def VisL (st:List Bnd) (w1:World) (B:Nat) (v i:Value) (wr:World):Prop:=∃ j:Nat,i = .int .i64 (j:Int)∧j≤st.length∧NRow wr w1.heap.size v (Qh7 ((st.take j).map (·.1)))∧Below w1.heap.size w1 wr∧B≤wr.heap.size
theorem StkE.in {w w1:World} {PA:Option Addr} {us:List (ByteArray × Value)} {st:List Bnd} {B n cap:Nat} {A:Option Addr} (h:StkE w PA w1 us st) (hs:Ql0 w1 B (.slice A n cap) us) {j:Nat} (hj:j<st.length):n=st.length∧∃ (g:Nat) (z:Bnd) (pa:Option Addr) (pn pc:Nat),A=some ⟨g,0,none⟩∧g<w1.heap.size∧st[j]? = some z∧w1.cell? ⟨g,j*2,none⟩=some (.string z.1)∧w1.cell? ⟨g,j*2+1,none⟩=some (.slice pa pn pc):=by
 obtain ⟨y,hy⟩:∃ y,us[j]? = some y:=⟨_,xF (by rw [h.1];exact hj)⟩;obtain ⟨z,hz⟩:∃ z,st[j]? = some z:=⟨_,xF hj⟩;obtain ⟨h1,_,_,h4⟩:=h.2 j y z hy hz;obtain ⟨g,cap',hv,hg,hl⟩:=World.ownsRow.form hs (by rw [h.1];omega);injection hv with hv1 hv2 hv3;subst hv1;have hc:=hs.cells (g:=g) rfl;have e0:=hc _ _ (Qfm hy).1;have e1:=hc _ _ (Qfm hy).2;rw [Addr.add_lit] at e0 e1;simp only [Nat.zero_add] at e0 e1
 obtain ⟨pa,pn,pc,hp⟩:∃ pa pn pc,y.2 = .slice pa pn pc:=by
  rcases h4 with h4|⟨pc,hv,_⟩
  ·obtain ⟨A,c,e,_⟩:=h4.ints;exact ⟨_,_,_,e⟩
  ·exact ⟨_,_,_,hv⟩
 exact ⟨by rw [hv2,h.1],g,z,pa,pn,pc,rfl,hl,hz,by rw [←h1];exact e0,by rw [←hp];exact e1⟩
theorem Qsy (S:Nat→Prop) (t:Tr) (v:TV) (PA:Option Addr) (c:Nat) (zs:List Int) (w:World) (ht:TrAt S w t v) (hs:Qcf t=true) (hw:Qdb t=true) (hz:Qak t≤10000) (hA:IntsAt w PA zs) (hzl:zs.length≤10000) (hc:zs.length≤c) :
  Calls Tryz.prog 46 #[.agg #[.int .i64 v.kind,.string v.text,.slice v.la v.ll v.lc,.slice v.ka v.kl v.kc],.slice PA zs.length c] w fun e w'=>∃ r,e = .returned r∧NRow w' w.heap.size r (Zh3 t zs)∧Below w.heap.size w w':=by
 have hb0:=Qas w (trO v);have HT:=hQ (ht.keep hb0);have HX:=hQ (xH w (trO v));have HB0:=hQ hb0;have HS:=hQ hs;have HW:=hQ hw;have HZ:=hQ hz;have HA:=hQ (hA.keep hb0);have HZL:=hQ hzl;have HC:=hQ hc;obtain ⟨vk,vx,vla,vll,vlc,vka,vkl,vkc⟩:=v;clear ht hb0 hs hw hz hA hzl hc;obtain ⟨st,hst0⟩:∃ st,st=Qca t zs:=⟨_,rfl⟩;have HSTE:=hQ hst0;clear hst0
 go_enter Tryz.func46,Tryz.ntmps46
 go_wp2_with fail
 go_at_call 74;refine (Qky _ t _ PA c zs _ HT.out HS.out HW.out HZ.out HA.out HZL.out HC.out).mono ?_;rintro e w1 ⟨r,us,rfl,hr,hst,hul,hb⟩;rw [←HSTE.out] at hst;have hul2:us.length=st.length:=hst.1;obtain ⟨RA,rc,rfl⟩:=Qdq hr;have HB1:=hQ (HB0.out.trans (hb.mono HB0.out.size));have HUL:=hQ (show st.length≤20000 by omega);have HR:=hQ hr;have HST:=hQ hst;rw [hul2];have hsl:(st.length:Int)≤20000:=by omega
 clear hr hst hul hb hul2;go_wp2_with fail
 go_loopw [5,14] (fun v i wr=>VisL st w1 w1.heap.size v i wr) (fun _ i _=>st.length-(intOf i).toNat)
 case atStart=>exact ⟨0,rfl,xZ _,NRow.nil _ _,xC _ _,xA _⟩
 case round =>
  obtain ⟨j,rfl,hj,hn,hb,hB⟩:=hrel;have HN:=hQ hn;have HB:=hQ hb;have HBS:=hQ hB;clear hn hb hB
  by_cases hlt:j<st.length
  ·obtain ⟨_,g,z,pa,pn,pc,rfl,hg,hz,c0,c1⟩:=HST.out.in HR.out hlt;have c0:=(HB.out.cell (p:=⟨g,j*2,none⟩) hg).trans c0;have c1:=(HB.out.cell (p:=⟨g,j*2+1,none⟩) hg).trans c1;have cl:=xK wr _ c0;have j0:(0:Int)≤(j:Int):=by omega
   have j1:(j:Int)<(st.length:Int):=by omega
   have j2:(j:Int)+1≤20001:=by omega
   obtain ⟨l,hl⟩:∃ l,l=Qh7 ((st.take j).map (·.1)):=⟨_,rfl⟩;have HNR:=hQ (show NRow wr w1.heap.size _ l from by rw [hl];exact HN.out);have HASC:=hQ (show Asc l from by rw [hl];exact Qwp _)
   have HLL:=hQ (show l.length≤20000 from by
    rw [hl];have h1:=Qwq ((st.take j).map (·.1));rw [List.length_map,List.length_take] at h1;have:=HUL.out
    omega)
   have HNX:=hQ (show Qh7 ((st.take (j+1)).map (·.1))=Qsw l z.1 from by
    rw [List.take_add_one,hz,Option.toList_some,List.map_append,List.map_cons,List.map_nil,Qsx,hl])
   have HSP:=hQ (Qpg l z.1);clear hz hl
   by_cases hin:l[Qfc l z.1]? = some z.1
   ·have d0:decide (l[Qfc l z.1]? = some z.1)=true:=xS hin;have HE:=hQ (show Qsw l z.1=l from xO hin);clear hin;go_wp2_with fail
    go_at_call 75;refine (Qn5 w1.heap.size _ l z.1 _ (HNR.out.keep (Qas wr _)) HASC.out (by have:=HLL.out;omega)).mono ?_;rw [d0];rintro e w5 ⟨rfl,q,rfl⟩;go_wp2_with fail
    go_roundw
    case measure=>first | (simp [intOf];done) | (simp [intOf];omega)
    case rel =>
     have hq:=Qkz (wr.alloc (.cells #[.string z.1,.slice pa pn pc] 115)).heap.size (wr.alloc (.cells #[.string z.1,.slice pa pn pc] 115)) q;have hq2:=(Qas wr (.cells #[.string z.1,.slice pa pn pc] 115)).trans (hq.mono (Qas wr (.cells #[.string z.1,.slice pa pn pc] 115)).size);exact ⟨j+1,rfl,by omega,by rw [HNX.out,HE.out];exact HNR.out.keep hq2,HB.out.trans (hq2.mono HB.out.size),xQ HBS.out hq2.size⟩
   ·have d0:decide (l[Qfc l z.1]? = some z.1)=false:=xR hin;have HE:=hQ (show Qsw l z.1=l.take (Qfc l z.1) ++ z.1 :: l.drop (Qfc l z.1) from xN hin);clear hin;go_wp2_with fail
    go_at_call 75;refine (Qn5 w1.heap.size _ l z.1 _ (HNR.out.keep (Qas wr _)) HASC.out (by have:=HLL.out;omega)).mono ?_;rw [d0];rintro e w5 ⟨rfl,q,rfl⟩;obtain ⟨W5,hW5⟩:∃ W5,W5=(wr.alloc (.cells #[.string z.1,.slice pa pn pc] 115)).drewN q:=⟨_,rfl⟩
    have hq:Below wr.heap.size wr W5:=by
     rw [hW5];exact (Qas wr _).trans (Qkz _ _ q)
    have hx5:W5.heap[wr.heap.size]? = some (.cells #[.string z.1,.slice pa pn pc] 115 (0,0)):=by
     rw [hW5];exact xH wr _
    rw [←hW5];have HQ:=hQ hq;have HX5:=hQ hx5;have k0:W5.cell? ⟨wr.heap.size,0,none⟩=some (.string z.1):=Qab hx5 0 _ rfl;have kl:=Qaa hx5;clear hq hx5 hW5;go_wp2_with fail
    go_at_call 76
    refine (Qwr w1.heap.size _ l (Qfc l z.1) z.1 W5.heap.size _ ((HNR.out.keep HQ.out).keep (Qas W5 _)) HSP.out (by have:=HLL.out;omega) (xH W5 _) (fun e=>?_) (by rw [xI];have:=HBS.out;have:=HQ.out.size;omega)).mono ?_
    ·have h1:=(World.ownsRow.lt (HNR.out.keep HQ.out) _ e).2;omega
    rintro e w6 ⟨u,rfl,hu,hb6⟩;have HU:=hQ hu;have HB6:=hQ (HB.out.trans ((HQ.out.trans ((Qas W5 (.cells #[.string z.1] 9)).mono HQ.out.size)).mono HB.out.size) |>.trans hb6);clear hu hb6;go_wp2_with fail
    go_roundw
    case measure=>first | (simp [intOf];done) | (simp [intOf];omega)
    case rel=>exact ⟨j+1,rfl,by omega,by rw [HNX.out,HE.out];exact HU.out,HB6.out,HB6.out.size⟩
  ·obtain rfl:j=st.length:=by omega
   go_wp2_with fail
   go_ret
   refine ⟨_,rfl,Qij (B:=w1.heap.size) ?_ HB1.out.size,HB1.out.trans (HB.out.mono HB1.out.size)⟩;have h:=HN.out;rw [List.take_length,HSTE.out] at h;exact h
end Go.Proofs.YtfjpemdejoejbaaGreat
namespace Go.Proofs.YtfjpemdejoejbaaGreat
open Go.RowKit
theorem Qli (k:Int) (n:Nat):∀ (ks:List Tr) (i:Nat),Qcq k n i ks=true→∀ a∈ks,Qcy a=true
 | [],_,_,a,h=>by simp at h
 | b :: r,i,h,a,ha=>by
  rw [Qcq,Bool.and_eq_true,Bool.and_eq_true] at h
  rcases List.mem_cons.1 ha with rfl | ha
  ·exact h.1.2
  ·exact Qli k n r (i+1) h.2 a ha
theorem Qfr {t:Tr} (hz:Qak t≤1000) (h:Qan t=true):0≤Qau t.kind t.kids.length∧∀ a∈t.kids,Qan a=true:=by
 rw [←Qgo _ t (xA _) hz,Qhi,Bool.and_eq_true,Bool.and_eq_true] at h;refine ⟨by have h1:=h.1.1;rw [Bool.not_eq_true'] at h1;have h2:=of_decide_eq_false h1;omega,fun a ha=>?_⟩;have h1:=Qli _ _ _ _ h.2 a ha;rw [←Qgo _ a (xA _) (by have h2:=Quo ha;have h3:=Qa7 t;omega)];exact h1
theorem Zed {α:Type} (l:List α) (h:2≤l.length):∃ qs a b,l=qs ++ [a,b]:=by
 have hd:(l.drop (l.length-2)).length=2:=by rw [List.length_drop];omega
 match hm:l.drop (l.length-2),hd with
 | [a,b],_=>exact ⟨l.take (l.length-2),a,b,by rw [←hm,List.take_append_drop]⟩
theorem Qd4 {n:Nat} {must m:Int} (h:0≤Qbd n must m):(n:Int)=must:=by
 unfold Qbd at h
 by_cases e:(n:Int)=must
 ·exact e
 ·rw [xN e] at h;omega
theorem Za0 {α:Type} (l:List α) (h:l.length=2):∃ a b,l = [a,b]:=by
 match l,h with
 | [a,b],_=>exact ⟨a,b,rfl⟩
theorem Za1 {α:Type} (l:List α) (h:l.length=3):∃ a b c,l = [a,b,c]:=by
 match l,h with
 | [a,b,c],_=>exact ⟨a,b,c,rfl⟩
theorem Qm0:∀ N:Nat,PcC N
 | 0=>fun B l ps t v w h=>by have:=Qgu t;omega
 | N+1=>by
  have ih:=Qm0 N;intro B l ps t v w hN ht hs hz hl hB hb;obtain ⟨h1,h2⟩:=Qfr hz hs;have hkl:=ht.kl;obtain ⟨k,x,ls,ks⟩:=t;obtain ⟨vk,vx,vla,vll,vlc,vka,vkl,vkc⟩:=v;simp only [Tr.kind,Tr.text,Tr.leads,Tr.kids] at hkl h1 h2;obtain ⟨rfl,rfl,rfl,rfl⟩:=hkl
  by_cases h0:vk≤0∨23≤vk
  ·have hm:Qau vk ks.length = -1:=by unfold Qau;simp only [show vk≠1 from by omega,show vk≠2 from by omega,show vk≠3 from by omega,show vk≠4 from by omega,show vk≠5 from by omega,show vk≠6 from by omega,show vk≠7 from by omega,show vk≠8 from by omega,show vk≠9 from by omega,show vk≠10 from by omega,show vk≠11 from by omega,show vk≠12 from by omega,show vk≠13 from by omega,show vk≠14 from by omega,show vk≠15 from by omega,show vk≠16 from by omega,show vk≠17 from by omega,show vk≠18 from by omega,show vk≠19 from by omega,show vk≠20 from by omega,show vk≠21 from by omega,show vk≠22 from by omega,if_false]
   omega
  ·rcases Qin h0 with rfl | rfl | rfl | rfl | rfl | rfl | rfl | rfl | rfl | rfl | rfl | rfl | rfl | rfl | rfl | rfl | rfl | rfl | rfl | rfl | rfl | rfl
   ·exact Zar ih B l ps vx ls ks vla vka vlc vkc w hN ht (fun j k hk=>h2 k (yA hk)) hz hl hB hb
   ·have hn:2≤ks.length:=by
     rcases Nat.lt_or_ge ks.length 2 with h' | h'
     ·have hm:Qau 2 ks.length = -1:=by show (if 2≤(ks.length:Int) then 6+max 0 ((ks.length:Int)-3) else -1)=_;rw [xN (by omega)]
      omega
     ·exact h'
    obtain ⟨qs,a,b,rfl⟩:=Zed ks hn;have hlen:(qs ++ [a,b]).length=qs.length+2:=by simp
    rw [hlen] at ht ⊢;exact Zas ih B l ps vx ls qs a b vla vka vlc vkc w hN ht (h2 a (by simp)) (h2 b (by simp)) (fun k hk=>h2 k (by simp [hk])) hz hl hB hb
   ·have hn:=Qd4 (n:=ks.length) (must:=1) (m:=3) h1;obtain ⟨a,rfl⟩:=List.length_eq_one_iff.1 (show ks.length=1 from by omega);exact Zat ih B l ps vx ls a vla vka vlc vkc w hN ht (h2 a (by simp)) hz hl hB hb
   ·have hn:=Qd4 (n:=ks.length) (must:=1) (m:=2) h1;obtain ⟨a,rfl⟩:=List.length_eq_one_iff.1 (show ks.length=1 from by omega);exact Zau ih B l ps vx ls a vla vka vlc vkc w hN ht (h2 a (by simp)) hz hl hB hb
   ·obtain rfl:ks = []:=List.eq_nil_of_length_eq_zero (by have hn:=Qd4 (n:=ks.length) (must:=0) (m:=1) h1;omega);exact Zaw ih B l ps vx ls vla vka vlc vkc w hN ht hz hl hB hb
   ·obtain rfl:ks = []:=List.eq_nil_of_length_eq_zero (by have hn:=Qd4 (n:=ks.length) (must:=0) (m:=1) h1;omega);exact Zax ih B l ps vx ls vla vka vlc vkc w hN ht hz hl hB hb
   ·obtain rfl:ks = []:=List.eq_nil_of_length_eq_zero (by have hn:=Qd4 (n:=ks.length) (must:=0) (m:=1) h1;omega);exact Zay ih B l ps vx ls vla vka vlc vkc w hN ht hz hl hB hb
   ·have hn:=Qd4 (n:=ks.length) (must:=1) (m:=2) h1;obtain ⟨a,rfl⟩:=List.length_eq_one_iff.1 (show ks.length=1 from by omega);exact Zav ih B l ps vx ls a vla vka vlc vkc w hN ht (h2 a (by simp)) hz hl hB hb
   ·obtain rfl:ks = []:=List.eq_nil_of_length_eq_zero (by have hn:=Qd4 (n:=ks.length) (must:=0) (m:=1) h1;omega);exact Zaz ih B l ps vx ls vla vka vlc vkc w hN ht hz hl hB hb
   ·obtain rfl:ks = []:=List.eq_nil_of_length_eq_zero (by have hn:=Qd4 (n:=ks.length) (must:=0) (m:=1) h1;omega);exact Qw2 ih B l ps vx ls vla vka vlc vkc w hN ht hz hl hB hb
   ·obtain rfl:ks = []:=List.eq_nil_of_length_eq_zero (by have hn:=Qd4 (n:=ks.length) (must:=0) (m:=1) h1;omega);exact Qw3 ih B l ps vx ls vla vka vlc vkc w hN ht hz hl hB hb
   ·obtain rfl:ks = []:=List.eq_nil_of_length_eq_zero (by have hn:=Qd4 (n:=ks.length) (must:=0) (m:=1) h1;omega);exact Qw4 ih B l ps vx ls vla vka vlc vkc w hN ht hz hl hB hb
   ·obtain rfl:ks = []:=List.eq_nil_of_length_eq_zero (by have hn:=Qd4 (n:=ks.length) (must:=0) (m:=1) h1;omega);exact Qwz ih B l ps vx ls vla vka vlc vkc w hN ht hz hl hB hb
   ·obtain rfl:ks = []:=List.eq_nil_of_length_eq_zero (by have hn:=Qd4 (n:=ks.length) (must:=0) (m:=1) h1;omega);exact Qw0 ih B l ps vx ls vla vka vlc vkc w hN ht hz hl hB hb
   ·obtain rfl:ks = []:=List.eq_nil_of_length_eq_zero (by have hn:=Qd4 (n:=ks.length) (must:=0) (m:=1) h1;omega);exact Qw1 ih B l ps vx ls vla vka vlc vkc w hN ht hz hl hB hb
   ·exact Qwx ih B l ps vx ls ks vla vka vlc vkc w hN ht (fun j k hk=>h2 k (yA hk)) hz hl hB hb
   ·have hn:=Qd4 (n:=ks.length) (must:=1) (m:=0) h1;obtain ⟨a,rfl⟩:=List.length_eq_one_iff.1 (show ks.length=1 from by omega);exact Qww ih B l ps vx ls a vla vka vlc vkc w hN ht (h2 a (by simp)) hz hl hB hb
   ·exact Qwy ih B l ps vx ls ks vla vka vlc vkc w hN ht (fun j k hk=>h2 k (yA hk)) hz hl hB hb
   ·have hn:=Qd4 (n:=ks.length) (must:=3) (m:=3) h1;obtain ⟨a,b,c,rfl⟩:=Za1 ks (show ks.length=3 from by omega);exact Qw5 ih B l ps vx ls a b c vla vka vlc vkc w hN ht (h2 a (by simp)) (h2 b (by simp)) (h2 c (by simp)) hz hl hB hb
   ·have hn:=Qd4 (n:=ks.length) (must:=2) (m:=4) h1;obtain ⟨a,b,rfl⟩:=Za0 ks (show ks.length=2 from by omega);exact Qw6 ih B l ps vx ls a b vla vka vlc vkc w hN ht (h2 a (by simp)) (h2 b (by simp)) hz hl hB hb
   ·have hn:=Qd4 (n:=ks.length) (must:=2) (m:=1) h1;obtain ⟨a,b,rfl⟩:=Za0 ks (show ks.length=2 from by omega);exact Qw7 ih B l ps vx ls a b vla vka vlc vkc w hN ht (h2 a (by simp)) (h2 b (by simp)) hz hl hB hb
   ·have hn:=Qd4 (n:=ks.length) (must:=1) (m:=2) h1;obtain ⟨a,rfl⟩:=List.length_eq_one_iff.1 (show ks.length=1 from by omega);exact Qwv ih B l ps vx ls a vla vka vlc vkc w hN ht (h2 a (by simp)) hz hl hB hb
theorem Qup {t k:Tr} {j:Nat} (hz:Qak t≤1000) (h:Qan t=true) (ht:t.kids[j]? = some k):Qgq t.kind t.kids.length j k.kind=true:=by
 rw [←Qgo _ t (xA _) hz,Qhi] at h;simp only [Bool.and_eq_true] at h;have h2:=h.2
 have key:∀ (l:List Tr) (tk:Int) (n i j:Nat),Qcq tk n i l=true→∀ a,l[j]? = some a→Qgq tk n (i+j) a.kind=true:=by
  intro l
  induction l with
  | nil=>intro tk n i j _ a ha;simp at ha
  | cons b r ih =>
   intro tk n i j hr a ha;rw [Qcq] at hr;simp only [Bool.and_eq_true] at hr
   match j,ha with
   | 0,ha =>
    injection ha with ha;subst ha;exact hr.1.1
   | j+1,ha =>
    have:=ih tk n (i+1) j hr.2 a (by simpa using ha)
    rw [show i+1+j=i+(j+1) from by omega] at this;exact this
 have:=key _ _ _ _ j h2 k ht
 rwa [Nat.zero_add] at this
theorem Zgy {tk k:Int} {n i:Nat} (h:Qgq tk n i k=true) (h1:tk≠1):k≠1∧k≠2:=by
 constructor
 all_goals
  intro hk;subst hk;unfold Qgq at h;rw [xN h1] at h
  repeat' split at h
  all_goals first
   | exact absurd h (by decide)
   | (rw [show Qim 1=false from by decide] at h;simp at h)
   | (rw [show Qim 2=false from by decide] at h;simp at h)
theorem Qm1:∀ (zs:List Int) (t u:Tr),Qan t=true→Qak t≤1000→t.kind≠1→Qaz t zs=some u→Qan u=true∧Qak u≤1000∧u.kind≠1∧(zs≠[]→u.kind≠2)
 | [],t,u,h,hz,h1,hf=>by
  rw [Qaz] at hf;injection hf with hf;subst hf;exact ⟨h,hz,h1,fun e=>absurd rfl e⟩
 | i :: r,t,u,h,hz,h1,hf=>by
  unfold Qaz at hf
  cases hk:Qjn t i
  ·rw [hk] at hf;cases hf
  ·rw [hk,xO rfl] at hf;obtain ⟨_,_,h3⟩:=Qd7 hk;have hsz:=Qbe h3;have hn:=Zgy (Qup hz h h3) h1;obtain ⟨a,b,c,d⟩:=Qm1 r (Qep t i) u ((Qfr hz h).2 _ (yA h3)) (by omega) hn.1 hf;refine ⟨a,b,c,fun _=>?_⟩
   by_cases hr:r = []
   ·subst hr;rw [Qaz] at hf;injection hf with hf;rw [←hf];exact hn.2
   ·exact d hr
theorem Qq6:(a:List Int)→(b:List Int)→(t u:Tr)→Qaz t a=some u→Qaz t (a ++ b)=Qaz u b
 | [],b,t,u,h=>by
  rw [Qaz] at h;injection h with h;rw [h,xU]
 | i :: r,b,t,u,h=>by
  unfold Qaz at h;rw [xV,Qaz]
  split at h
  ·rename_i hk
   rw [xO hk];exact Qq6 r b _ u h
  ·cases h
theorem Za2 {t k:Tr} {j:Nat} (h:t.kids[j]? = some k):Qaz t [(j:Int)] = some k:=by
 have hj:=(xP.1 h).1
 have hk:Qjn t (j:Int)=true:=by
  unfold Qjn;simp only [Bool.and_eq_true,decide_eq_true_eq];omega
 rw [Qaz,xO hk];unfold Qep;rw [Int.toNat_natCast,h];rfl
theorem Qh1:(zs:List Int)→(t:Tr)→(n:Nat)→(0≤Qnd n t zs ↔ ∃ u,Qaz t zs=some u)
 | [],t,n=>by
  rw [Qnd,Qaz];exact ⟨fun _=>⟨t,rfl⟩,fun _=>by omega⟩
 | i :: r,t,n=>by
  unfold Qnd Qaz
  split
  ·exact Qh1 r _ _
  ·exact ⟨fun h=>by omega,fun ⟨u,h⟩=>by cases h⟩
theorem Qm2 (ks:List Tr):(n:Nat)→n≤ks.length→∀ b∈Qej ks n,∃ j k,j<n∧ks[j]? = some k∧b=(k.text,[(j:Int)])
 | 0,_,b,h=>by rw [Qej] at h;simp at h
 | n+1,hn,b,h=>by
  rw [Qej] at h
  rcases List.mem_cons.1 h with rfl | h
  ·obtain ⟨k,hk⟩:∃ k,ks[n]? = some k:=⟨_,xF (by omega)⟩;exact ⟨n,k,by omega,hk,by rw [hk];rfl⟩
  ·obtain ⟨j,k,h1,h2,h3⟩:=Qm2 ks n (by omega) b h;exact ⟨j,k,by omega,h2,h3⟩
def Zgz (t:Tr) (b:Bnd):Prop:=∃ k,Qaz t b.2=some k∧k.text=b.1∧(k.kind=4∨k.kind=20)
theorem Zee {t u:Tr} {p:List Int} (hs:Qan t=true) (hz:Qak t≤1000) (h2:t.kind=2) (hf:Qaz t p=some u) (i:Int):∀ b∈Qct u.kind u.text u.kids p i,Zgz t b:=by
 intro b hb;unfold Qct at hb
 split at hb
 ·rename_i hc
  obtain rfl:=List.mem_singleton.1 hb;exact ⟨u,hf,rfl,.inr hc.1⟩
 ·split at hb
  ·rename_i hc
   have hp:p = []:=by
    by_cases hp:p = []
    ·exact hp
    ·exact absurd hc.1 ((Qm1 p t u hs hz (by omega) hf).2.2.2 hp)
   subst hp;rw [Qaz] at hf;injection hf with hf;subst hf;unfold Qek at hb;obtain ⟨j,k,h1,h3,rfl⟩:=Qm2 t.kids _ (by omega) b hb;refine ⟨k,Za2 h3,rfl,.inl ?_⟩;have:=Qup hz hs h3
   unfold Qgq at this;rw [xN (by omega),xO h2,xN (by omega),xN (by omega)] at this
   simpa using this
  ·simp at hb
theorem Qkf {t:Tr} (hs:Qan t=true) (hz:Qak t≤1000) (h2:t.kind=2):(zs:List Int)→(u v:Tr)→(p:List Int)→(st:List Bnd)→Qaz t p=some u→Qaz u zs=some v→(∀ b∈st,Zgz t b)→∀ b∈Qbt u p zs st,Zgz t b
 | [],_,_,_,_,_,_,h=>by unfold Qbt;exact h
 | i :: r,u,v,p,st,hu,hv,h=>by
  unfold Qbt;unfold Qaz at hv
  split at hv
  ·rename_i hk
   refine Qkf hs hz h2 r (Qep u i) v (p ++ [i]) _ ?_ hv fun b hb=>?_
   ·rw [Qq6 p [i] t u hu,Qaz,xO hk,Qaz]
   ·exact (List.mem_append.1 hb).elim (h b) (Zee hs hz h2 hu i b)
  ·cases hv
theorem Qtf {t:Tr} {k:Tr} {j:Nat} (h:t.kids[j]? = some k):Qjn t (j:Int)=true∧Qep t (j:Int)=k:=by
 have hj:=(xP.1 h).1;refine ⟨by unfold Qjn;simp only [Bool.and_eq_true,decide_eq_true_eq];omega,?_⟩;unfold Qep;rw [Int.toNat_natCast,h];rfl
mutual
theorem Quq:(t:Tr)→(p:List Int)→(st:List Bnd)→∀ z∈Qi8 t p st,∃ r u,z.1=p ++ r∧Qaz t r=some u∧u.kind=12∧z.2=Qdo (Qbt t p r st) u.text
 | .mk k x l ks,p,st,z,h=>by
  rw [Qi8] at h
  split at h
  ·rename_i hk
   obtain rfl:=List.mem_singleton.1 h;exact ⟨[],.mk k x l ks,by simp,by rw [Qaz],hk,by rw [Qbt];rfl⟩
  ·exact Qq7 (.mk k x l ks) ks 0 p st (by rw [List.drop_zero];rfl) z h
theorem Qq7:(t:Tr)→(l:List Tr)→(i:Nat)→(p:List Int)→(st:List Bnd)→t.kids.drop i=l→∀ z∈Qg3 t.kind t.text t.kids l i p st,∃ r u,z.1=p ++ r∧Qaz t r=some u∧u.kind=12∧z.2=Qdo (Qbt t p r st) u.text
 | _,[],_,_,_,_,z,h=>by rw [Qg3] at h;simp at h
 | t,a :: s,i,p,st,hd,z,h=>by
  rw [Qg3] at h
  have ha:t.kids[i]? = some a:=by
   have:=congrArg (fun l=>l[0]?) hd
   simpa [List.getElem?_drop] using this
  rcases List.mem_append.1 h with h | h
  ·obtain ⟨r,u,h1,h2,h3,h4⟩:=Quq a (p ++ [(i:Int)]) _ z h;obtain ⟨k1,k2⟩:=Qtf ha;exact ⟨(i:Int) :: r,u,by rw [h1];simp,by rw [Qaz,xO k1,k2];exact h2,h3,by rw [Qbt,k2];exact h4⟩
  ·exact Qq7 t s (i+1) p st (by rw [←List.drop_drop,hd];rfl) z h
end
theorem Qm3 {st:List Bnd} {x:ByteArray} {p:List Int} (h:Qdo st x=some p):(x,p)∈st:=by
 unfold Qdo at h;rw [Option.map_eq_some_iff] at h;obtain ⟨b,hb,he⟩:=h;have h1:=List.find?_some hb;have h2:=List.mem_reverse.1 (List.mem_of_find?_eq_some hb);simp only [decide_eq_true_eq] at h1;rw [←h1,←he];exact h2
theorem Qm4 {st:List Bnd} {x:ByteArray}:Qdo st x=none ↔ x ∉ st.map (·.1):=by
 unfold Qdo;rw [Option.map_eq_none_iff,List.find?_eq_none]
 constructor
 ·intro h hx;obtain ⟨b,hb,he⟩:=List.mem_map.1 hx;have:=h b (List.mem_reverse.2 hb)
  simp [he] at this
 ·intro h b hb hd
  apply h
  simp only [decide_eq_true_eq] at hd;exact List.mem_map.2 ⟨b,List.mem_reverse.1 hb,hd⟩
theorem Qfs {t:Tr} (h:Qfx t=true):t.kind=2∧Qan t=true:=by
 unfold Qfx at h
 simpa using h
theorem Qk2 {t:Tr} (hz:Qak t≤1000) {z:Vrb} (h:z∈Qfo t):∃ u,Qaz t z.1=some u∧u.kind=12∧(u.text∈Zh3 t z.1 ↔ z.2≠none)∧∀ q,z.2=some q→∃ k,Qaz t q=some k∧k.text=u.text∧(k.kind=4∨k.kind=20):=by
 unfold Qfo at h
 split at h
 ·rename_i hf
  obtain ⟨h2,hs⟩:=Qfs hf;obtain ⟨r,u,e1,e2,e3,e4⟩:=Quq t [] [] z h;rw [xU] at e1
  have hr:Qca t z.1=Qbt t [] r []:=by
   unfold Qca;rw [e1,xO ⟨hf,(Qh1 r t 0).2 ⟨u,e2⟩⟩]
  refine ⟨u,by rw [e1];exact e2,e3,?_,fun q hq=>?_⟩
  ·unfold Zh3;rw [Qwo,hr,e4,Ne,Qm4,Classical.not_not]
  ·rw [e4] at hq;have hm:=Qm3 hq;obtain ⟨k,k1,k2,k3⟩:=Qkf hs hz h2 r t u [] [] (by rw [Qaz]) e2 (fun b hb=>by simp at hb) _ hm;exact ⟨k,k1,k2,k3⟩
 ·simp at h
end Go.Proofs.YtfjpemdejoejbaaGreat

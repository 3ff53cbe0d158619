/- Part 37 -/
import Derived.Test.YtjidpkcjpgdafaaGreatSe23
import Derived.Test.YtjidpkcjpgdafaaGreatSe30
import Derived.Test.YtjidpkcjpgdafaaGreatSe31
import Derived.Test.YtjidpkcjpgdafaaGreatSe32
import Derived.Test.YtjidpkcjpgdafaaGreatSe33
import Derived.Test.YtjidpkcjpgdafaaGreatSe36
import Derived.Test.YtjidpkcjpgdafaaGreatSe34
set_option maxRecDepth 100000
set_option maxHeartbeats 4000000
namespace Go.Proofs.YtjidpkcjpgdafaaGreat
open Go.RowKit Go.Shelf
def Qxb (t:Tr) (zs:List Int):List ByteArray:=Qfz ((Qbk t zs).map (·.1))
def VisL (st:List Bnd) (w1:World) (B:Nat) (v i:Value) (wr:World):Prop:=∃ j:Nat,i = .int .i64 (j:Int)∧j≤st.length∧NRow wr w1.heap.size v (Qfz ((st.take j).map (·.1)))∧Below w1.heap.size w1 wr∧B≤wr.heap.size
theorem StkE.in {w w1:World} {PA:Option Addr} {us:List (ByteArray × Value)} {st:List Bnd} {B n cap:Nat} {A:Option Addr} (h:StkE w PA w1 us st) (hs:Ql1 w1 B (.slice A n cap) us) {j:Nat} (hj:j<st.length):n=st.length∧∃ (g:Nat) (z:Bnd) (pa:Option Addr) (pn pc:Nat),A=some ⟨g,0,none⟩∧g<w1.heap.size∧st[j]? = some z∧w1.cell? ⟨g,j*2,none⟩=some (.string z.1)∧w1.cell? ⟨g,j*2+1,none⟩=some (.slice pa pn pc):=by
 obtain ⟨y,hy⟩:∃ y,us[j]? = some y:=⟨_,xF (by rw [h.1];exact hj)⟩;obtain ⟨z,hz⟩:∃ z,st[j]? = some z:=⟨_,xF hj⟩;obtain ⟨h1,_,_,h4⟩:=h.2 j y z hy hz;obtain ⟨g,cap',hv,hg,hl⟩:=World.ownsRow.form hs (by rw [h.1];omega);injection hv with hv1 hv2 hv3;subst hv1;have hc:=hs.cells (g:=g) rfl;have e0:=hc _ _ (Qfn hy).1;have e1:=hc _ _ (Qfn hy).2;rw [Addr.add_lit] at e0 e1;simp only [Nat.zero_add] at e0 e1
 obtain ⟨pa,pn,pc,hp⟩:∃ pa pn pc,y.2 = .slice pa pn pc:=by
  rcases h4 with h4|⟨pc,hv,_⟩
  ·obtain ⟨A,c,e,_⟩:=h4.ints;exact ⟨_,_,_,e⟩
  ·exact ⟨_,_,_,hv⟩
 exact ⟨by rw [hv2,h.1],g,z,pa,pn,pc,rfl,hl,hz,by rw [←h1];exact e0,by rw [←hp];exact e1⟩
theorem Qm4 (S:Nat→Prop) (t:Tr) (v:TV) (PA:Option Addr) (c:Nat) (zs:List Int) (w:World) (ht:TrAt S w t v) (hs:Qcp t=true) (hw:Qdi t=true) (hz:Qal t≤10000) (hA:IntsAt w PA zs) (hzl:zs.length≤10000) (hc:zs.length≤c) :
  Calls Tryz.prog 39 #[.agg #[.int .i64 v.kind,.string v.text,.slice v.la v.ll v.lc,.slice v.ka v.kl v.kc],.slice PA zs.length c] w fun e w'=>∃ r,e = .returned r∧NRow w' w.heap.size r (Qxb t zs)∧Below w.heap.size w w':=by
 have hb0:=Qai w (trO v);have HT:=hQ (ht.keep hb0);have HX:=hQ (xH w (trO v));have HB0:=hQ hb0;have HS:=hQ hs;have HW:=hQ hw;have HZ:=hQ hz;have HA:=hQ (hA.keep hb0);have HZL:=hQ hzl;have HC:=hQ hc;obtain ⟨vk,vx,vla,vll,vlc,vka,vkl,vkc⟩:=v;clear ht hb0 hs hw hz hA hzl hc;obtain ⟨st,hst0⟩:∃ st,st=Qbk t zs:=⟨_,rfl⟩;have HSTE:=hQ hst0;clear hst0
 go_enter Tryz.func39,Tryz.ntmps39
 go_wp2_with fail
 go_at_call 67;refine (Qkt _ t _ PA c zs _ HT.out HS.out HW.out HZ.out HA.out HZL.out HC.out).mono ?_;rintro e w1 ⟨r,us,rfl,hr,hst,hul,hb⟩;rw [←HSTE.out] at hst;have hul2:us.length=st.length:=hst.1;obtain ⟨RA,rc,rfl⟩:=Qca hr;have HB1:=hQ (HB0.out.trans (hb.mono HB0.out.size));have HUL:=hQ (show st.length≤20000 by omega);have HR:=hQ hr;have HST:=hQ hst;rw [hul2];have hsl:(st.length:Int)≤20000:=by omega
 clear hr hst hul hb hul2;go_wp2_with fail
 go_loopw [5,14] (fun v i wr=>VisL st w1 w1.heap.size v i wr) (fun _ i _=>st.length-(intOf i).toNat)
 case atStart=>exact ⟨0,rfl,xZ _,NRow.nil _ _,xC _ _,xA _⟩
 case round =>
  obtain ⟨j,rfl,hj,hn,hb,hB⟩:=hrel;have HN:=hQ hn;have HB:=hQ hb;have HBS:=hQ hB;clear hn hb hB
  by_cases hlt:j<st.length
  ·obtain ⟨_,g,z,pa,pn,pc,rfl,hg,hz,c0,c1⟩:=HST.out.in HR.out hlt;have c0:=(HB.out.cell (p:=⟨g,j*2,none⟩) hg).trans c0;have c1:=(HB.out.cell (p:=⟨g,j*2+1,none⟩) hg).trans c1;have cl:=xK wr _ c0;have j0:(0:Int)≤(j:Int):=by omega
   have j1:(j:Int)<(st.length:Int):=by omega
   have j2:(j:Int)+1≤20001:=by omega
   obtain ⟨l,hl⟩:∃ l,l=Qfz ((st.take j).map (·.1)):=⟨_,rfl⟩;have HNR:=hQ (show NRow wr w1.heap.size _ l from by rw [hl];exact HN.out);have HASC:=hQ (show Asc l from by rw [hl];exact Qkv _)
   have HLL:=hQ (show l.length≤20000 from by
    rw [hl];have h1:=Qkw ((st.take j).map (·.1));rw [List.length_map,List.length_take] at h1;have:=HUL.out
    omega)
   have HNX:=hQ (show Qfz ((st.take (j+1)).map (·.1))=Ql3 l z.1 from by
    rw [List.take_add_one,hz,Option.toList_some,List.map_append,List.map_cons,List.map_nil,Qm3,hl])
   have HSP:=hQ (Ql2 l z.1);clear hz hl
   by_cases hin:l[Qeq l z.1]? = some z.1
   ·have d0:decide (l[Qeq l z.1]? = some z.1)=true:=xS hin;have HE:=hQ (show Ql3 l z.1=l from xO hin);clear hin;go_wp2_with fail
    go_at_call 72;refine (Qol w1.heap.size _ l z.1 _ (HNR.out.keep (Qai wr _)) HASC.out (by have:=HLL.out;omega)).mono ?_;rw [d0];rintro e w5 ⟨rfl,q,rfl⟩;go_wp2_with fail
    go_roundw
    case measure=>first | (simp [intOf];done) | (simp [intOf];omega)
    case rel =>
     have hq:=Qkx (wr.alloc (.cells #[.string z.1,.slice pa pn pc] 109)).heap.size (wr.alloc (.cells #[.string z.1,.slice pa pn pc] 109)) q;have hq2:=(Qai wr (.cells #[.string z.1,.slice pa pn pc] 109)).trans (hq.mono (Qai wr (.cells #[.string z.1,.slice pa pn pc] 109)).size);exact ⟨j+1,rfl,by omega,by rw [HNX.out,HE.out];exact HNR.out.keep hq2,HB.out.trans (hq2.mono HB.out.size),xQ HBS.out hq2.size⟩
   ·have d0:decide (l[Qeq l z.1]? = some z.1)=false:=xR hin;have HE:=hQ (show Ql3 l z.1=l.take (Qeq l z.1) ++ z.1 :: l.drop (Qeq l z.1) from xN hin);clear hin;go_wp2_with fail
    go_at_call 72;refine (Qol w1.heap.size _ l z.1 _ (HNR.out.keep (Qai wr _)) HASC.out (by have:=HLL.out;omega)).mono ?_;rw [d0];rintro e w5 ⟨rfl,q,rfl⟩;obtain ⟨W5,hW5⟩:∃ W5,W5=(wr.alloc (.cells #[.string z.1,.slice pa pn pc] 109)).drewN q:=⟨_,rfl⟩
    have hq:Below wr.heap.size wr W5:=by
     rw [hW5];exact (Qai wr _).trans (Qkx _ _ q)
    have hx5:W5.heap[wr.heap.size]? = some (.cells #[.string z.1,.slice pa pn pc] 109 (0,0)):=by
     rw [hW5];exact xH wr _
    rw [←hW5];have HQ:=hQ hq;have HX5:=hQ hx5;have k0:W5.cell? ⟨wr.heap.size,0,none⟩=some (.string z.1):=Qab hx5 0 _ rfl;have kl:=Qaa hx5;clear hq hx5 hW5;go_wp2_with fail
    go_at_call 73
    refine (Qv3 w1.heap.size _ l (Qeq l z.1) z.1 W5.heap.size _ ((HNR.out.keep HQ.out).keep (Qai W5 _)) HSP.out (by have:=HLL.out;omega) (xH W5 _) (fun e=>?_) (by rw [xI];have:=HBS.out;have:=HQ.out.size;omega)).mono ?_
    ·have h1:=(World.ownsRow.lt (HNR.out.keep HQ.out) _ e).2;omega
    rintro e w6 ⟨u,rfl,hu,hb6⟩;have HU:=hQ hu;have HB6:=hQ (HB.out.trans ((HQ.out.trans ((Qai W5 (.cells #[.string z.1] 9)).mono HQ.out.size)).mono HB.out.size) |>.trans hb6);clear hu hb6;go_wp2_with fail
    go_roundw
    case measure=>first | (simp [intOf];done) | (simp [intOf];omega)
    case rel=>exact ⟨j+1,rfl,by omega,by rw [HNX.out,HE.out];exact HU.out,HB6.out,HB6.out.size⟩
  ·obtain rfl:j=st.length:=by omega
   go_wp2_with fail
   go_ret
   refine ⟨_,rfl,Qfl (B:=w1.heap.size) ?_ HB1.out.size,HB1.out.trans (HB.out.mono HB1.out.size)⟩;have h:=HN.out;rw [List.take_length,HSTE.out] at h;exact h
end Go.Proofs.YtjidpkcjpgdafaaGreat
namespace Go.Proofs.YtjidpkcjpgdafaaGreat
open Go.RowKit
theorem Qli (k:Int) (n:Nat):∀ (ks:List Tr) (i:Nat),Qcm k n i ks=true→∀ a∈ks,Qcv a=true
 | [],_,_,a,h=>by simp at h
 | b :: r,i,h,a,ha=>by
  rw [Qcm,Bool.and_eq_true,Bool.and_eq_true] at h
  rcases List.mem_cons.1 ha with rfl | ha
  ·exact h.1.2
  ·exact Qli k n r (i+1) h.2 a ha
theorem Qgr {t:Tr} (hz:Qal t≤1000) (h:Qap t=true):0≤Qat t.kind t.kids.length∧∀ a∈t.kids,Qap a=true:=by
 rw [←Qfq _ t (xA _) hz,Qhg,Bool.and_eq_true,Bool.and_eq_true] at h;refine ⟨by have h1:=h.1.1;rw [Bool.not_eq_true'] at h1;have h2:=of_decide_eq_false h1;omega,fun a ha=>?_⟩;have h1:=Qli _ _ _ _ h.2 a ha;rw [←Qfq _ a (xA _) (by have h2:=Qt9 ha;have h3:=Qa0 t;omega)];exact h1
theorem Zdl {α:Type} (l:List α) (h:2≤l.length):∃ qs a b,l=qs ++ [a,b]:=by
 have hd:(l.drop (l.length-2)).length=2:=by rw [List.length_drop];omega
 match hm:l.drop (l.length-2),hd with
 | [a,b],_=>exact ⟨l.take (l.length-2),a,b,by rw [←hm,List.take_append_drop]⟩
theorem Qd3 {n:Nat} {must m:Int} (h:0≤Qbb n must m):(n:Int)=must:=by
 unfold Qbb at h
 by_cases e:(n:Int)=must
 ·exact e
 ·rw [xN e] at h;omega
theorem Zae {α:Type} (l:List α) (h:l.length=2):∃ a b,l = [a,b]:=by
 match l,h with
 | [a,b],_=>exact ⟨a,b,rfl⟩
theorem Zaf {α:Type} (l:List α) (h:l.length=3):∃ a b c,l = [a,b,c]:=by
 match l,h with
 | [a,b,c],_=>exact ⟨a,b,c,rfl⟩
theorem Qnb:∀ N:Nat,PcC N
 | 0=>fun B l ps t v w h=>by have:=Qgx t;omega
 | N+1=>by
  have ih:=Qnb N;intro B l ps t v w hN ht hs hz hl hB hb;obtain ⟨h1,h2⟩:=Qgr hz hs;have hkl:=ht.kl;obtain ⟨k,x,ls,ks⟩:=t;obtain ⟨vk,vx,vla,vll,vlc,vka,vkl,vkc⟩:=v;simp only [Tr.kind,Tr.text,Tr.leads,Tr.kids] at hkl h1 h2;obtain ⟨rfl,rfl,rfl,rfl⟩:=hkl
  by_cases h0:vk≤0∨23≤vk
  ·have hm:Qat vk ks.length = -1:=by unfold Qat;simp only [show vk≠1 from by omega,show vk≠2 from by omega,show vk≠3 from by omega,show vk≠4 from by omega,show vk≠5 from by omega,show vk≠6 from by omega,show vk≠7 from by omega,show vk≠8 from by omega,show vk≠9 from by omega,show vk≠10 from by omega,show vk≠11 from by omega,show vk≠12 from by omega,show vk≠13 from by omega,show vk≠14 from by omega,show vk≠15 from by omega,show vk≠16 from by omega,show vk≠17 from by omega,show vk≠18 from by omega,show vk≠19 from by omega,show vk≠20 from by omega,show vk≠21 from by omega,show vk≠22 from by omega,if_false]
   omega
  ·rcases Qif h0 with rfl | rfl | rfl | rfl | rfl | rfl | rfl | rfl | rfl | rfl | rfl | rfl | rfl | rfl | rfl | rfl | rfl | rfl | rfl | rfl | rfl | rfl
   ·exact Qz5 ih B l ps vx ls ks vla vka vlc vkc w hN ht (fun j k hk=>h2 k (yA hk)) hz hl hB hb
   ·have hn:2≤ks.length:=by
     rcases Nat.lt_or_ge ks.length 2 with h' | h'
     ·have hm:Qat 2 ks.length = -1:=by show (if 2≤(ks.length:Int) then 6+max 0 ((ks.length:Int)-3) else -1)=_;rw [xN (by omega)]
      omega
     ·exact h'
    obtain ⟨qs,a,b,rfl⟩:=Zdl ks hn;have hlen:(qs ++ [a,b]).length=qs.length+2:=by simp
    rw [hlen] at ht ⊢;exact Qz6 ih B l ps vx ls qs a b vla vka vlc vkc w hN ht (h2 a (by simp)) (h2 b (by simp)) (fun k hk=>h2 k (by simp [hk])) hz hl hB hb
   ·have hn:=Qd3 (n:=ks.length) (must:=1) (m:=3) h1;obtain ⟨a,rfl⟩:=List.length_eq_one_iff.1 (show ks.length=1 from by omega);exact Qz7 ih B l ps vx ls a vla vka vlc vkc w hN ht (h2 a (by simp)) hz hl hB hb
   ·have hn:=Qd3 (n:=ks.length) (must:=1) (m:=2) h1;obtain ⟨a,rfl⟩:=List.length_eq_one_iff.1 (show ks.length=1 from by omega);exact Qz8 ih B l ps vx ls a vla vka vlc vkc w hN ht (h2 a (by simp)) hz hl hB hb
   ·obtain rfl:ks = []:=List.eq_nil_of_length_eq_zero (by have hn:=Qd3 (n:=ks.length) (must:=0) (m:=1) h1;omega);exact Zaa ih B l ps vx ls vla vka vlc vkc w hN ht hz hl hB hb
   ·obtain rfl:ks = []:=List.eq_nil_of_length_eq_zero (by have hn:=Qd3 (n:=ks.length) (must:=0) (m:=1) h1;omega);exact Zab ih B l ps vx ls vla vka vlc vkc w hN ht hz hl hB hb
   ·obtain rfl:ks = []:=List.eq_nil_of_length_eq_zero (by have hn:=Qd3 (n:=ks.length) (must:=0) (m:=1) h1;omega);exact Zac ih B l ps vx ls vla vka vlc vkc w hN ht hz hl hB hb
   ·have hn:=Qd3 (n:=ks.length) (must:=1) (m:=2) h1;obtain ⟨a,rfl⟩:=List.length_eq_one_iff.1 (show ks.length=1 from by omega);exact Qz9 ih B l ps vx ls a vla vka vlc vkc w hN ht (h2 a (by simp)) hz hl hB hb
   ·obtain rfl:ks = []:=List.eq_nil_of_length_eq_zero (by have hn:=Qd3 (n:=ks.length) (must:=0) (m:=1) h1;omega);exact Zad ih B l ps vx ls vla vka vlc vkc w hN ht hz hl hB hb
   ·obtain rfl:ks = []:=List.eq_nil_of_length_eq_zero (by have hn:=Qd3 (n:=ks.length) (must:=0) (m:=1) h1;omega);exact Qwe ih B l ps vx ls vla vka vlc vkc w hN ht hz hl hB hb
   ·obtain rfl:ks = []:=List.eq_nil_of_length_eq_zero (by have hn:=Qd3 (n:=ks.length) (must:=0) (m:=1) h1;omega);exact Qwf ih B l ps vx ls vla vka vlc vkc w hN ht hz hl hB hb
   ·obtain rfl:ks = []:=List.eq_nil_of_length_eq_zero (by have hn:=Qd3 (n:=ks.length) (must:=0) (m:=1) h1;omega);exact Qwg ih B l ps vx ls vla vka vlc vkc w hN ht hz hl hB hb
   ·obtain rfl:ks = []:=List.eq_nil_of_length_eq_zero (by have hn:=Qd3 (n:=ks.length) (must:=0) (m:=1) h1;omega);exact Qwb ih B l ps vx ls vla vka vlc vkc w hN ht hz hl hB hb
   ·obtain rfl:ks = []:=List.eq_nil_of_length_eq_zero (by have hn:=Qd3 (n:=ks.length) (must:=0) (m:=1) h1;omega);exact Qwc ih B l ps vx ls vla vka vlc vkc w hN ht hz hl hB hb
   ·obtain rfl:ks = []:=List.eq_nil_of_length_eq_zero (by have hn:=Qd3 (n:=ks.length) (must:=0) (m:=1) h1;omega);exact Qwd ih B l ps vx ls vla vka vlc vkc w hN ht hz hl hB hb
   ·exact Qv9 ih B l ps vx ls ks vla vka vlc vkc w hN ht (fun j k hk=>h2 k (yA hk)) hz hl hB hb
   ·have hn:=Qd3 (n:=ks.length) (must:=1) (m:=0) h1;obtain ⟨a,rfl⟩:=List.length_eq_one_iff.1 (show ks.length=1 from by omega);exact Qv8 ih B l ps vx ls a vla vka vlc vkc w hN ht (h2 a (by simp)) hz hl hB hb
   ·exact Qwa ih B l ps vx ls ks vla vka vlc vkc w hN ht (fun j k hk=>h2 k (yA hk)) hz hl hB hb
   ·have hn:=Qd3 (n:=ks.length) (must:=3) (m:=3) h1;obtain ⟨a,b,c,rfl⟩:=Zaf ks (show ks.length=3 from by omega);exact Qwh ih B l ps vx ls a b c vla vka vlc vkc w hN ht (h2 a (by simp)) (h2 b (by simp)) (h2 c (by simp)) hz hl hB hb
   ·have hn:=Qd3 (n:=ks.length) (must:=2) (m:=4) h1;obtain ⟨a,b,rfl⟩:=Zae ks (show ks.length=2 from by omega);exact Qwi ih B l ps vx ls a b vla vka vlc vkc w hN ht (h2 a (by simp)) (h2 b (by simp)) hz hl hB hb
   ·have hn:=Qd3 (n:=ks.length) (must:=2) (m:=1) h1;obtain ⟨a,b,rfl⟩:=Zae ks (show ks.length=2 from by omega);exact Qwj ih B l ps vx ls a b vla vka vlc vkc w hN ht (h2 a (by simp)) (h2 b (by simp)) hz hl hB hb
   ·have hn:=Qd3 (n:=ks.length) (must:=1) (m:=2) h1;obtain ⟨a,rfl⟩:=List.length_eq_one_iff.1 (show ks.length=1 from by omega);exact Qv7 ih B l ps vx ls a vla vka vlc vkc w hN ht (h2 a (by simp)) hz hl hB hb
theorem Qua {t k:Tr} {j:Nat} (hz:Qal t≤1000) (h:Qap t=true) (ht:t.kids[j]? = some k):Qgt t.kind t.kids.length j k.kind=true:=by
 rw [←Qfq _ t (xA _) hz,Qhg] at h;simp only [Bool.and_eq_true] at h;have h2:=h.2
 have key:∀ (l:List Tr) (tk:Int) (n i j:Nat),Qcm tk n i l=true→∀ a,l[j]? = some a→Qgt tk n (i+j) a.kind=true:=by
  intro l
  induction l with
  | nil=>intro tk n i j _ a ha;simp at ha
  | cons b r ih =>
   intro tk n i j hr a ha;rw [Qcm] at hr;simp only [Bool.and_eq_true] at hr
   match j,ha with
   | 0,ha =>
    injection ha with ha;subst ha;exact hr.1.1
   | j+1,ha =>
    have:=ih tk n (i+1) j hr.2 a (by simpa using ha)
    rw [show i+1+j=i+(j+1) from by omega] at this;exact this
 have:=key _ _ _ _ j h2 k ht
 rwa [Nat.zero_add] at this
theorem Zf0 {tk k:Int} {n i:Nat} (h:Qgt tk n i k=true) (h1:tk≠1):k≠1∧k≠2:=by
 constructor
 all_goals
  intro hk;subst hk;unfold Qgt at h;rw [xN h1] at h
  repeat' split at h
  all_goals first
   | exact absurd h (by decide)
   | (rw [show Qie 1=false from by decide] at h;simp at h)
   | (rw [show Qie 2=false from by decide] at h;simp at h)
theorem Qnc:∀ (zs:List Int) (t u:Tr),Qap t=true→Qal t≤1000→t.kind≠1→Qbr t zs=some u→Qap u=true∧Qal u≤1000∧u.kind≠1∧(zs≠[]→u.kind≠2)
 | [],t,u,h,hz,h1,hf=>by
  rw [Qbr] at hf;injection hf with hf;subst hf;exact ⟨h,hz,h1,fun e=>absurd rfl e⟩
 | i :: r,t,u,h,hz,h1,hf=>by
  unfold Qbr at hf
  cases hk:Qmr t i
  ·rw [hk] at hf;cases hf
  ·rw [hk,xO rfl] at hf;obtain ⟨_,_,h3⟩:=Qht hk;have hsz:=Qbd h3;have hn:=Zf0 (Qua hz h h3) h1;obtain ⟨a,b,c,d⟩:=Qnc r (Qhs t i) u ((Qgr hz h).2 _ (yA h3)) (by omega) hn.1 hf;refine ⟨a,b,c,fun _=>?_⟩
   by_cases hr:r = []
   ·subst hr;rw [Qbr] at hf;injection hf with hf;rw [←hf];exact hn.2
   ·exact d hr
theorem Qrb:(a:List Int)→(b:List Int)→(t u:Tr)→Qbr t a=some u→Qbr t (a ++ b)=Qbr u b
 | [],b,t,u,h=>by
  rw [Qbr] at h;injection h with h;rw [h,xU]
 | i :: r,b,t,u,h=>by
  unfold Qbr at h;rw [xV,Qbr]
  split at h
  ·rename_i hk
   rw [xO hk];exact Qrb r b _ u h
  ·cases h
theorem Zag {t k:Tr} {j:Nat} (h:t.kids[j]? = some k):Qbr t [(j:Int)] = some k:=by
 have hj:=(xP.1 h).1
 have hk:Qmr t (j:Int)=true:=by
  unfold Qmr;simp only [Bool.and_eq_true,decide_eq_true_eq];omega
 rw [Qbr,xO hk];unfold Qhs;rw [Int.toNat_natCast,h];rfl
theorem Qiv:(zs:List Int)→(t:Tr)→(n:Nat)→(0≤Qlu n t zs ↔ ∃ u,Qbr t zs=some u)
 | [],t,n=>by
  rw [Qlu,Qbr];exact ⟨fun _=>⟨t,rfl⟩,fun _=>by omega⟩
 | i :: r,t,n=>by
  unfold Qlu Qbr
  split
  ·exact Qiv r _ _
  ·exact ⟨fun h=>by omega,fun ⟨u,h⟩=>by cases h⟩
theorem Qnd (ks:List Tr):(n:Nat)→n≤ks.length→∀ b∈Qef ks n,∃ j k,j<n∧ks[j]? = some k∧b=(k.text,[(j:Int)])
 | 0,_,b,h=>by rw [Qef] at h;simp at h
 | n+1,hn,b,h=>by
  rw [Qef] at h
  rcases List.mem_cons.1 h with rfl | h
  ·obtain ⟨k,hk⟩:∃ k,ks[n]? = some k:=⟨_,xF (by omega)⟩;exact ⟨n,k,by omega,hk,by rw [hk];rfl⟩
  ·obtain ⟨j,k,h1,h2,h3⟩:=Qnd ks n (by omega) b h;exact ⟨j,k,by omega,h2,h3⟩
def Zf1 (t:Tr) (b:Bnd):Prop:=∃ k,Qbr t b.2=some k∧k.text=b.1∧(k.kind=4∨k.kind=20)
theorem Zdm {t u:Tr} {p:List Int} (hs:Qap t=true) (hz:Qal t≤1000) (h2:t.kind=2) (hf:Qbr t p=some u) (i:Int):∀ b∈Qcw u.kind u.text u.kids p i,Zf1 t b:=by
 intro b hb;unfold Qcw at hb
 split at hb
 ·rename_i hc
  obtain rfl:=List.mem_singleton.1 hb;exact ⟨u,hf,rfl,.inr hc.1⟩
 ·split at hb
  ·rename_i hc
   have hp:p = []:=by
    by_cases hp:p = []
    ·exact hp
    ·exact absurd hc.1 ((Qnc p t u hs hz (by omega) hf).2.2.2 hp)
   subst hp;rw [Qbr] at hf;injection hf with hf;subst hf;unfold Qeg at hb;obtain ⟨j,k,h1,h3,rfl⟩:=Qnd t.kids _ (by omega) b hb;refine ⟨k,Zag h3,rfl,.inl ?_⟩;have:=Qua hz hs h3
   unfold Qgt at this;rw [xN (by omega),xO h2,xN (by omega),xN (by omega)] at this
   simpa using this
  ·simp at hb
theorem Qj9 {t:Tr} (hs:Qap t=true) (hz:Qal t≤1000) (h2:t.kind=2):(zs:List Int)→(u v:Tr)→(p:List Int)→(st:List Bnd)→Qbr t p=some u→Qbr u zs=some v→(∀ b∈st,Zf1 t b)→∀ b∈Qcq u p zs st,Zf1 t b
 | [],_,_,_,_,_,_,h=>by unfold Qcq;exact h
 | i :: r,u,v,p,st,hu,hv,h=>by
  unfold Qcq;unfold Qbr at hv
  split at hv
  ·rename_i hk
   refine Qj9 hs hz h2 r (Qhs u i) v (p ++ [i]) _ ?_ hv fun b hb=>?_
   ·rw [Qrb p [i] t u hu,Qbr,xO hk,Qbr]
   ·exact (List.mem_append.1 hb).elim (h b) (Zdm hs hz h2 hu i b)
  ·cases hv
theorem Qhh {t:Tr} (h:Qfb t=true):t.kind=2∧Qap t=true:=by
 unfold Qfb at h
 simpa using h
end Go.Proofs.YtjidpkcjpgdafaaGreat
namespace Go.Proofs.YtjidpkcjpgdafaaGreat
open Go.RowKit Go.Shelf
theorem Qby {w w':World} {g o:Nat} {x:Value} (hb:Below w.heap.size w w') (hg:g<w.heap.size) (h:w.cell? ⟨g,o,none⟩=some x):w'.cell? ⟨g,o,none⟩=some x:=(xJ (w:=w) (a:=⟨g,o,none⟩) (hb.block g hg)).trans h
theorem Qud:(zs:List Int)→(t u:Tr)→Qbr t zs=some u→zs.length+Qal u≤Qal t
 | [],t,u,h=>by
  rw [Qbr] at h;injection h with h;subst h;simp
 | i :: r,t,u,h=>by
  unfold Qbr at h
  split at h
  ·rename_i hk
   have h1:=Qud r _ u h;obtain ⟨_,_,h3⟩:=Qht hk;have h2:=Qnh h3;rw [xD];omega
  ·cases h
def AtK (t:Tr) (z:List Int) (w:World) (s7:Value) (wx:World):Prop:=∃ (g:Nat) (x:TV),s7 = .pointer (some ⟨g,0,none⟩)∧wx.heap[g]? = some (trO x)∧x.kind=((Qbr t z).getD Qkk).kind∧x.text=((Qbr t z).getD Qkk).text∧Below w.heap.size w wx
theorem Qpy {t:Tr} {z:List Int} {w w3:World} {x:TV} (hz:w3.heap[w.heap.size]? = some (trO ⟨0,⟨#[]⟩,none,0,0,none,0,0⟩)) (h1:x.kind=((Qbr t z).getD Qkk).kind) (h2:x.text=((Qbr t z).getD Qkk).text) (hb:Below w.heap.size w w3):AtK t z w (.pointer (some ⟨w.heap.size,0,none⟩)) (Qf7 w3 w.heap.size x) :=
 ⟨w.heap.size,x,rfl,Qgp x hz,h1,h2,hb.trans (Qck w3 w.heap.size x)⟩
theorem Qni {t:Tr} {z:List Int} {w w3:World} {x:TV} (h1:x.kind=((Qbr t z).getD Qkk).kind) (h2:x.text=((Qbr t z).getD Qkk).text) (hb:Below w.heap.size w w3):AtK t z w (.pointer (some ⟨w3.heap.size,0,none⟩)) (w3.alloc (trO x)) :=
 ⟨w3.heap.size,x,rfl,xH _ _,h1,h2,hb.alloc hb.size _⟩
theorem Qwm {x y:ByteArray} (h:y≠x):(y.toList==x.toList)=false:=by
 rw [beq_eq_false_iff_ne];exact fun e=>h (Qm1 e)
theorem Zak:(Tryz.prog.info? 23).map (fun i=>(i.zero,i.size,i.bytes))=some (some (.slice none 0 0),1,24):=by kernel_rfl
theorem Ql5 (S:Nat→Prop) (t:Tr) (v:TV) (w:World) (ht:TrAt S w t v) (hw:Qdi t=true) (hz:Qal t≤1000) :
  Calls Tryz.prog 68 #[.agg #[.int .i64 v.kind,.string v.text,.slice v.la v.ll v.lc,.slice v.ka v.kl v.kc]] w fun e w'=>e = .returned (.bool (Qfb t))∧Below w.heap.size w w':=by
 have hb0:=Qai w (trO v);have HT:=hQ (ht.keep hb0);have HX:=hQ (xH w (trO v));have HB0:=hQ hb0;have HW:=hQ hw;have HZ:=hQ hz;have HSS:=hQ (Qfq _ t (xA _) hz);have hkd:=ht.kl.2.2.1;obtain ⟨vk,vx,vla,vll,vlc,vka,vkl,vkc⟩:=v;simp only at hkd;subst hkd;clear ht hb0 hw hz
 by_cases h2:t.kind=2
 ·have HF:=hQ (show Qfb t=Qap t from by unfold Qfb;rw [xS h2,Bool.true_and]);have d2':(t.kind==2)=true:=by simpa using h2
  go_enter Tryz.func68,Tryz.ntmps68
  clear h2;go_wp2_with (go_at_call 98;refine (Qgs _ _ t _ _ (xA _) HT.out HZ.out HW.out).mono ?_;rintro e w1 ⟨rfl,hb⟩;have HB1:=hQ (HB0.out.trans (hb.mono HB0.out.size));clear hb)
  go_ret
  exact ⟨Qah (by rw [HF.out,HSS.out]),HB1.out⟩
 ·have HF:=hQ (show Qfb t=false from by unfold Qfb;rw [xR h2,Bool.false_and]);have d2':(t.kind==2)=false:=by simpa using h2
  go_enter Tryz.func68,Tryz.ntmps68
  clear h2
  go_wp2
  go_ret
  exact ⟨Qah HF.out.symm,HB0.out⟩
def PthAt (w:World) (lo:Nat) (v:Value) (p:List Int):Prop:=(∃ A c,v = .slice A p.length c∧(p≠[]→∃ b off,A=some ⟨b,off,none⟩∧b<lo∧∀ (i:Nat) (x:Int),p[i]? = some x→w.cell? ⟨b,off+i,none⟩=some (.int .i64 x)))∨IB w lo v p
theorem PthAt.ints {w:World} {lo:Nat} {v:Value} {p:List Int} (h:PthAt w lo v p) (hl:lo≤w.heap.size):∃ A c,v = .slice A p.length c∧IntsAt w A p:=by
 rcases h with ⟨A,c,e,h⟩ | h
 ·refine ⟨A,c,e,fun hne=>?_⟩;obtain ⟨b,off,h1,h2,h3⟩:=h hne;exact ⟨b,off,h1,by omega,h3⟩
 ·exact h.ints
theorem PthAt.keep {w w':World} {lo:Nat} {v:Value} {p:List Int} (h:PthAt w lo v p) (hl:lo≤w.heap.size) (hb:Below w.heap.size w w'):PthAt w' lo v p:=by
 rcases h with ⟨A,c,e,h⟩ | h
 ·refine .inl ⟨A,c,e,fun hne=>?_⟩;obtain ⟨b,off,h1,h2,h3⟩:=h hne;exact ⟨b,off,h1,h2,fun i x hx=>(xJ (w:=w) (a:=⟨b,off+i,none⟩) (hb.block b (by omega))).trans (h3 i x hx)⟩
 ·exact .inr (h.keep hb)
theorem PthAt.of_ints {w w':World} {A:Option Addr} {p:List Int} (h:IntsAt w A p) (hb:Below w.heap.size w w') (c:Nat):PthAt w' w.heap.size (.slice A p.length c) p :=
 .inl ⟨A,c,rfl,fun hne=>by
  obtain ⟨b,off,h1,h2,h3⟩:=h hne;exact ⟨b,off,h1,h2,fun i x hx=>(xJ (w:=w) (a:=⟨b,off+i,none⟩) (hb.block b h2)).trans (h3 i x hx)⟩⟩
def PhRow (w:World) (lo B:Nat) (v:Value) (ps:List (List Int)):Prop:=∃ hs:List Value,hs.length=ps.length∧w.ownsRow B 23 1 v ps.length hs∧∀ (j:Nat) (h:Value) (p:List Int),hs[j]? = some h→ps[j]? = some p→PthAt w lo h p
theorem PhRow.nil (w:World) (lo B:Nat):PhRow w lo B (.slice none 0 0) []:=⟨[],rfl,World.ownsRow_nil _ _ _ _,fun j h p hh=>by simp at hh⟩
theorem PhRow.keep {w w':World} {lo B:Nat} {v:Value} {ps:List (List Int)} (h:PhRow w lo B v ps) (hl:lo≤w.heap.size) (hb:Below w.heap.size w w'):PhRow w' lo B v ps:=by
 obtain ⟨hs,h1,h2,h3⟩:=h;exact ⟨hs,h1,(Keeps.of_below (P:=fun _=>none) hb).row h2 fun _ _=>.inl rfl,fun j h p hh hp=>(h3 j h p hh hp).keep hl hb⟩
theorem PhRow.slice {w:World} {lo B:Nat} {v:Value} {ps:List (List Int)} (h:PhRow w lo B v ps):∃ A c,v = .slice A ps.length c:=by
 obtain ⟨hs,_,h2,_⟩:=h;exact Qdv h2
theorem PhRow.low {w:World} {lo B B':Nat} {v:Value} {ps:List (List Int)} (h:PhRow w lo B v ps) (hb:B'≤B):PhRow w lo B' v ps:=by
 obtain ⟨hs,h1,h2,h3⟩:=h;exact ⟨hs,h1,Qfl h2 hb,h3⟩
theorem PhRow.at {w:World} {lo B:Nat} {A:Option Addr} {n c:Nat} {ps:List (List Int)} (h:PhRow w lo B (.slice A n c) ps) (hl:lo≤w.heap.size) {j:Nat} {p:List Int} (hp:ps[j]? = some p):n=ps.length∧∃ (g:Nat) (PA:Option Addr) (pc:Nat),A=some ⟨g,0,none⟩∧B≤g∧g<w.heap.size∧w.cell? ⟨g,j,none⟩=some (.slice PA p.length pc)∧IntsAt w PA p:=by
 obtain ⟨hs,h1,h2,h3⟩:=h;have hj:=(xP.1 hp).1;obtain ⟨g,cap,hv,hg,hgl⟩:=World.ownsRow.form h2 (by omega);injection hv with hv1 hv2 hv3;subst hv1;obtain ⟨h,hh⟩:∃ h,hs[j]? = some h:=⟨_,xF (by rw [h1];exact hj)⟩;have hcs:=h2.cells (g:=g) rfl j h hh;rw [Addr.add_lit,Nat.zero_add] at hcs;obtain ⟨PA,pc,e,hi⟩:=(h3 j h p hh hp).ints hl;subst e;exact ⟨hv2,g,PA,pc,rfl,hg,hgl,hcs,hi⟩
theorem PhRow.snoc {w w':World} {lo B g cap:Nat} {v x:Value} {ps:List (List Int)} {hs:List Value} {p:List Int} (h1:hs.length=ps.length) (h2:w.ownsRow B 23 1 v ps.length hs)
  (h3:∀ (j:Nat) (h:Value) (p:List Int),hs[j]? = some h→ps[j]? = some p→PthAt w lo h p) (hx:PthAt w lo x p) (hlB:lo≤B) (hlw:lo≤w.heap.size)
  (ho:w'.ownsRow B 23 1 (.slice (some ⟨g,0,none⟩) (ps.length+1) cap) (ps.length+1) (hs ++ [x])) (hk:Keeps (pre v (ps.length*1)) w w'):PhRow w' lo B (.slice (some ⟨g,0,none⟩) (ps.length+1) cap) (ps ++ [p]):=by
 have hI:∀ {u:Value} {q:List Int},PthAt w lo u q→PthAt w' lo u q:=fun {u q} h=>by
  rcases h with ⟨A,c,e,h⟩ | h
  ·refine .inl ⟨A,c,e,fun hne=>?_⟩;obtain ⟨b,off,e1,e2,e3⟩:=h hne;refine ⟨b,off,e1,e2,fun i y hy=>(xJ (w:=w) (a:=⟨b,off+i,none⟩) (hk.block b (by omega) (Qcr fun eb=>?_))).trans (e3 i y hy)⟩;have:=(World.ownsRow.lt h2 b eb).1
   omega
  ·refine .inr (h.keepP hk fun k hk'=>.inl (Qcr fun eb=>?_));obtain ⟨g1,c1,cur1,hv1,_,hh1,_⟩:=h;rw [hv1] at hk';injection hk' with hk';have ek:g1=k:=hk';subst ek
   rcases h2.2 with ⟨rfl,_⟩|⟨g2,cap2,cur2,rfl,_,hh2,_⟩
   ·cases eb
   ·injection eb with eb;have e2:g2=g1:=eb;subst e2;rw [hh1] at hh2;injection hh2 with hh2;injection hh2 with _ h5;exact absurd h5 (by decide)
 refine ⟨hs ++ [x],by rw [xB,xB,h1];rfl,by rw [xB];exact ho,fun j h q hh hq=>?_⟩
 by_cases hj:j<ps.length
 ·rw [yB (by rw [h1];exact hj)] at hh;rw [yB hj] at hq;exact hI (h3 j h q hh hq)
 ·have hjl:=(xP.1 hq).1;rw [xB,List.length_singleton] at hjl;obtain rfl:j=ps.length:=by omega
  rw [xX (by omega),h1,Nat.sub_self] at hh;rw [xX (xA _),Nat.sub_self] at hq;injection hh with hh;injection hq with hq;subst hh hq;exact hI hx
end Go.Proofs.YtjidpkcjpgdafaaGreat

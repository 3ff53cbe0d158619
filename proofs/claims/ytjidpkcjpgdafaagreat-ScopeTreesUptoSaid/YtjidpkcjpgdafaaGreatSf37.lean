/- Part 37 -/
import Derived.Test.YtjidpkcjpgdafaaGreatSf36
set_option maxRecDepth 100000
set_option maxHeartbeats 4000000
namespace Go.Proofs.YtjidpkcjpgdafaaGreat
open Go.RowKit Go.Shelf
def StkE (w:World) (PA:Option Addr) (wr:World) (us:List (ByteArray × Value)) (st:List Bnd):Prop:=us.length=st.length∧∀ (j:Nat) (y:ByteArray × Value) (z:Bnd),us[j]? = some y→st[j]? = some z →
 y.1=z.1∧z.2≠[]∧z.2.length≤1000000∧(IB wr w.heap.size y.2 z.2∨∃ pc,y.2 = .slice PA z.2.length pc∧IntsAt w PA z.2)
def Qyl (t:Tr) (PA:Option Addr) (zs:List Int) (w:World) (D:Nat) (r i:Value) (wr:World):Prop :=
 ∃ (j m:Nat) (x:TV) (cur:Tr) (us:List (ByteArray × Value)) (st:List Bnd),i = .int .i64 (j:Int)∧j≤zs.length∧wr.heap[D]? = some (trO x)∧TrAt (fun k=>k<w.heap.size) wr cur x∧Below w.heap.size w wr∧0≤Qjo m cur (zs.drop j)∧(zs.take j≠[]∨cur.kind=2)∧Qam cur≤Qam t∧us.length+2*Qam cur≤20000 ∧
  Qjs wr (D+1) r us∧StkE w PA wr us st∧Qbj t [] zs [] = Qbj cur (zs.take j) (zs.drop j) st
theorem Qt7 (w:World) {b k:Nat} (u:TV) (h:k≠b):(Qvf w b u).heap[k]? = w.heap[k]?:=by
 unfold Qvf
 rw [heap_setCell_other _ _ _ _ h,heap_setCell_other _ _ _ _ h,heap_setCell_other _ _ _ _ h,heap_setCell_other _ _ _ _ h]
theorem Qt8 {w w':World} {B:Nat} {e:TypeId} {s:Nat} {v:Value} {n:Nat} {xs:List Value} (h:w.ownsRow B e s v n xs) (hk:∀ k,B≤k→w'.heap[k]? = w.heap[k]?):w'.ownsRow B e s v n xs:=by
 refine ⟨h.1,?_⟩
 rcases h.2 with h0|⟨g,cap,cur,hv,hb,hh,hr⟩
 ·exact .inl h0
 ·exact .inr ⟨g,cap,cur,hv,hb,(hk g hb).trans hh,hr⟩
theorem IntsAt.take {w:World} {A:Option Addr} {zs:List Int} {j:Nat} (h:IntsAt w A zs):IntsAt w A (zs.take j):=fun hne=>by
 obtain ⟨b,off,h1,h2,h3⟩:=h (fun e=>hne (by rw [e,List.take_nil]))
 refine ⟨b,off,h1,h2,fun i x hx=>h3 i x ?_⟩
 have hi:=(xP.1 hx).1
 rw [List.length_take] at hi
 rwa [List.getElem?_take_of_lt (by omega)] at hx
theorem Qt9 {w wr wd w3:World} {D j c:Nat} {PA:Option Addr} {r:Value} {us us':List (ByteArray × Value)} {st:List Bnd} {cur:Tr} {p:List Int} {q:Int} {x:TV} (hr:Qjs wr (D+1) r us) (hrd:Qjs wd (D+1) r us) (hst:StkE w PA wr us st) (hd:Below wr.heap.size wr wd) (hk:Keeps (pre r (us.length*2)) wd w3) (hD:w.heap.size≤D)
  (hc:(cur.kind=20∧q=1∧us' = [(cur.text,Value.slice PA j c)])∨(¬(cur.kind=20∧q=1)∧cur.kind=2∧q=(cur.kids.length:Int)-1∧ParamsAt w3 wd.heap.size us' (Qdb cur.kids))∨(¬(cur.kind=20∧q=1)∧¬(cur.kind=2∧q=(cur.kids.length:Int)-1)∧us' = []))
  (hpl:p.length=j) (hA:IntsAt w PA p) (hne:p≠[]∨cur.kind=2) (hjl:p.length≤1000000) (hwd:w.heap.size≤wd.heap.size) (hx:w3.heap[D]? = some (trO x)) (u:TV) :
  StkE w PA (Qvf w3 D u) (us ++ us') (st ++ Qbw cur.kind cur.text cur.kids p q)∧us'.length≤cur.kids.length+1:=by
 have set:∀ {v:Value} {z:List Int},IB w3 w.heap.size v z→IB (Qvf w3 D u) w.heap.size v z:=fun {v z} ⟨g,cp,cu,h1,h2,h3,h4⟩=>⟨g,cp,cu,h1,h2,(Qt7 w3 u (fun e=>by
  subst e
  rw [hx] at h3
  injection h3 with h3
  injection h3 with _ h5
  exact absurd h5 (by decide))).trans h3,h4⟩
 have hlen:us'.length=(Qbw cur.kind cur.text cur.kids p q).length∧∀ (i:Nat) (y:ByteArray × Value) (z:Bnd),us'[i]? = some y→(Qbw cur.kind cur.text cur.kids p q)[i]? = some z →
   y.1=z.1∧z.2≠[]∧z.2.length≤1000000∧(IB (Qvf w3 D u) w.heap.size y.2 z.2∨∃ pc,y.2 = .slice PA z.2.length pc∧IntsAt w PA z.2):=by
  rcases hc with ⟨c1,c2,rfl⟩|⟨c0,c1,c2,hp⟩|⟨c0,c1,rfl⟩
  ·have he:Qbw cur.kind cur.text cur.kids p q = [(cur.text,p)]:=xO ⟨c1,c2⟩
   rw [he]
   have hp0:p≠[]:=hne.resolve_right (by rw [c1];decide)
   refine ⟨rfl,fun i y z hy hz=>?_⟩
   match i,hy,hz with
   | 0,hy,hz =>
    injection hy with hy
    injection hz with hz
    subst hy hz
    exact ⟨rfl,hp0,hjl,.inr ⟨c,by rw [hpl],hA⟩⟩
  ·have he:Qbw cur.kind cur.text cur.kids p q=Qdb cur.kids:=by unfold Qbw;rw [xN c0,xO ⟨c1,c2⟩]
   rw [he]
   refine ⟨hp.1,fun i y z hy hz=>?_⟩
   obtain ⟨q1,q2⟩:=hp.2 i y z hy hz
   have hz1:z.2.length=1:=Qkm (yA hz)
   exact ⟨q1,fun e=>by rw [e] at hz1;simp at hz1,by omega,.inl (set (q2.low hwd))⟩
  ·have he:Qbw cur.kind cur.text cur.kids p q = []:=by unfold Qbw;rw [xN c0,xN c1]
   rw [he]
   exact ⟨rfl,fun i y z hy=>by simp at hy⟩
 refine ⟨⟨by rw [xB,xB,hst.1,hlen.1],fun i y z hy hz=>?_⟩,by rw [hlen.1];exact Qr7 _ _ _ _ _⟩
 by_cases hj:i<us.length
 ·rw [yB hj] at hy
  rw [yB (by rw [←hst.1];exact hj)] at hz
  obtain ⟨q1,q2,q3,q4⟩:=hst.2 i y z hy hz
  exact ⟨q1,q2,q3,q4.imp (fun h=>set ((h.keep hd).keeps hrd hk)) id⟩
 ·rw [xX (by omega)] at hy
  rw [xX (by rw [←hst.1];omega),←hst.1] at hz
  exact hlen.2 _ y z hy hz
theorem Qe3 {w:World} {b i:Nat} {cs:Array Value} {ty:TypeId} (h:w.heap[b]? = some (.cells cs ty (0,0))):w.frozen? ⟨b,i,none⟩=false:=by simp [World.frozen?,h]
theorem Qsa (S:Nat→Prop) (t:Tr) (v:TV) (PA:Option Addr) (c:Nat) (zs:List Int) (w:World) (ht:TrAt S w t v) (hs:Qb7 t=true) (hw:Qc2 t=true) (hz:Qam t≤10000) (hA:IntsAt w PA zs) (hzl:zs.length≤10000)
  (hc:zs.length≤c) (hf:Qd0 t=true) (hn:0≤Qjo 0 t zs) :
  Calls Tryz.prog 67 #[.agg #[.int .i64 v.kind,.string v.text,.slice v.la v.ll v.lc,.slice v.ka v.kl v.kc],.slice PA zs.length c] w fun e w'=>∃ r us,e = .returned r∧Qjs w' w.heap.size r us∧StkE w PA w' us (Qbj t [] zs [])∧us.length≤20000∧Below w.heap.size w w':=by
 have hb0:=Qaf w (trO v)
 have HT:=hQ (ht.keep hb0)
 have HX:=hQ (xH w (trO v))
 have HB0:=hQ hb0
 have HS:=hQ hs
 have HW:=hQ hw
 have HZ:=hQ hz
 have HF:=hQ hf
 have HN:=hQ hn
 have HA:=hQ hA
 have HZL:=hQ hzl
 have HC:=hQ hc
 have HTL:=hQ (TrAt.low t v ht)
 have HK2:=hQ (show t.kind=2 from by unfold Qd0 at hf;simp at hf;exact hf.1)
 have hkl:=ht.kl.1
 obtain ⟨vk,vx,vla,vll,vlc,vka,vkl,vkc⟩:=v
 simp only at hkl
 subst hkl
 clear ht hb0 hs hw hz hf hA hzl hc
 have d0:decide (Qjo 0 t zs<0)=false:=xR (by omega)
 clear hn
 go_enter Tryz.func67,Tryz.ntmps67
 go_wp2_with (first
  | (go_at_call 70;refine (Qep _ t _ _ HT.out HS.out HW.out).mono ?_;rw [HF.out];rintro e w1 ⟨rfl,hb⟩;have HB1:=hQ (HB0.out.trans (hb.mono HB0.out.size));have HT1:=hQ (HT.out.keep hb);have HX1:=hQ ((hb.block _ (Qab HX.out)).trans HX.out);have k0:w1.cell? ⟨w.heap.size,0,none⟩=some (.int .i64 vk):=Qaa HX1.out 0 _ rfl;have k1:w1.cell? ⟨w.heap.size,1,none⟩=some (.string vx):=Qaa HX1.out 1 _ rfl;have k2:w1.cell? ⟨w.heap.size,2,none⟩=some (.slice vla vll vlc):=Qaa HX1.out 2 _ rfl;have k3:w1.cell? ⟨w.heap.size,3,none⟩=some (.slice vka t.kids.length vkc):=Qaa HX1.out 3 _ rfl;clear hb)
  | (go_at_call 114;refine (Qkg _ t _ PA c zs _ HT1.out (HA.out.keep HB1.out) (by have:=HZL.out;unfold maxLen;omega) (by have:=HZ.out;omega)).mono ?_;rintro e w2 ⟨rfl,hb⟩;have HB2:=hQ (HB1.out.trans (hb.mono HB1.out.size));have HT2:=hQ (HT1.out.keep hb);have HX2:=hQ ((hb.block _ (Qab HX1.out)).trans HX1.out);clear k0 k1 k2 k3;have k0:w2.cell? ⟨w.heap.size,0,none⟩=some (.int .i64 vk):=Qaa HX2.out 0 _ rfl;have k1:w2.cell? ⟨w.heap.size,1,none⟩=some (.string vx):=Qaa HX2.out 1 _ rfl;have k2:w2.cell? ⟨w.heap.size,2,none⟩=some (.slice vla vll vlc):=Qaa HX2.out 2 _ rfl;have k3:w2.cell? ⟨w.heap.size,3,none⟩=some (.slice vka t.kids.length vkc):=Qaa HX2.out 3 _ rfl;clear hb))
 have HD2:=hQ (Qaf w2 (trO ⟨vk,vx,vla,vll,vlc,vka,t.kids.length,vkc⟩))
 have HB3:=hQ (HB2.out.trans (HD2.out.mono HB2.out.size))
 have HX3:=hQ (xH w2 (trO ⟨vk,vx,vla,vll,vlc,vka,t.kids.length,vkc⟩))
 have HSZ2:=hQ HB2.out.size
 clear k0 k1 k2 k3
 go_loopw [5,21] (fun r i wr=>Qyl t PA zs w w2.heap.size r i wr) (fun _ i _=>zs.length-(intOf i).toNat)
 case atStart =>
  refine ⟨0,0,_,t,[],[],rfl,xZ _,HX3.out,HTL.out.lows HB3.out,HB3.out,HN.out,.inr HK2.out,xA _,by simp;have:=HZ.out;omega,World.ownsRow_nil _ _ _ _,⟨rfl,fun j y z hy=>by simp at hy⟩,rfl⟩
 case round =>
  obtain ⟨j,m,x,cur,us,st,rfl,hj,hx,hty,hb,hnn,hne,hsz,hul,hr,hst,hpp⟩:=hrel
  have HXX:=hQ hx
  have HTY:=hQ hty
  have HBR:=hQ hb
  have HNN:=hQ hnn
  have HNE:=hQ hne
  have HSZ:=hQ hsz
  have HUL:=hQ hul
  have HR:=hQ hr
  have HST:=hQ hst
  have HPP:=hQ hpp
  have hkl:=hty.kl.1
  have hkk:=hty.kl.2.2.1
  obtain ⟨xk,xx,xla,xll,xlc,xka,xkl,xkc⟩:=x
  simp only at hkl hkk
  subst hkl hkk
  clear hx hty hb hnn hne hsz hul hr hst hpp
  by_cases hlt:j<zs.length
  ·obtain ⟨z,hz⟩:∃ z,zs[j]? = some z:=⟨_,xF hlt⟩
   obtain ⟨ab,ao,rfl,_,hac⟩:=(HA.out.keep HBR.out).at hlt
   have a0:=hac j z hz
   have HDZ:=hQ (Qeo hz)
   have hz0:=hQ hz
   clear hac hz
   have hcc:=HC.out
   have hkb:Qjn cur z=true:=by
    have h:=HNN.out
    rw [HDZ.out,Qjo] at h
    cases hkb:Qjn cur z with
    | true=>rfl
    | false=>rw [hkb] at h;simp at h
   have HNK:=hQ (show 0≤Qjo (m+1+Qbb (cur.kids.take z.toNat)) (Qfm cur z) (zs.drop (j+1)) from by have h:=HNN.out;rw [HDZ.out,Qjo,hkb] at h;exact h)
   obtain ⟨z0,z1,z2⟩:=Qf2 hkb
   obtain ⟨q,rfl⟩:∃ q:Nat,z=(q:Int):=⟨z.toNat,by omega⟩
   rw [Int.toNat_natCast] at z2 HNK
   have hq:q<cur.kids.length:=by omega
   obtain ⟨kb,ko,hka⟩:∃ b off,xka=some ⟨b,off,none⟩:=HTY.out.addr.resolve_left (by omega)
   subst hka
   have hcap:=HTY.out.caps.2
   simp only at hcap
   have hqc:(q:Int)≤(xkc:Int):=by omega
   have hjc:j≤c:=by omega
   have HZ2:=hQ z2
   have HKS:=hQ (Qns z2)
   have HDR:=hQ (show Below wr.heap.size wr wr.drew from (xC _ wr).drew)
   have HTD:=hQ (show TrAt (fun k=>k<w.heap.size) wr.drew cur ⟨cur.kind,xx,xla,xll,xlc,some ⟨kb,ko,none⟩,cur.kids.length,xkc⟩ from HTY.out.keep HDR.out)
   have HRD:=hQ (hS1 HR.out HDR.out)
   have HXD:=hQ (show wr.drew.heap[w2.heap.size]? = some (trO ⟨cur.kind,xx,xla,xll,xlc,some ⟨kb,ko,none⟩,cur.kids.length,xkc⟩) from HXX.out)
   have HBB:=hQ (show w2.heap.size+1≤wr.drew.heap.size from Qab HXX.out)
   have HLN:=hQ (show us.length+cur.kids.length+1≤1000000 from by have h1:=HUL.out;have h2:=Qbn cur.kids;have h3:=Qa5 cur;omega)
   have k0:wr.drew.cell? ⟨w2.heap.size,0,none⟩=some (.int .i64 cur.kind):=Qaa HXD.out 0 _ rfl
   have k1:wr.drew.cell? ⟨w2.heap.size,1,none⟩=some (.string xx):=Qaa HXD.out 1 _ rfl
   have k2:wr.drew.cell? ⟨w2.heap.size,2,none⟩=some (.slice xla xll xlc):=Qaa HXD.out 2 _ rfl
   have k3:wr.drew.cell? ⟨w2.heap.size,3,none⟩=some (.slice (some ⟨kb,ko,none⟩) cur.kids.length xkc):=Qaa HXD.out 3 _ rfl
   clear hkb z2
   go_wp2_with fail
   go_region_held3 (fun w'=>w'.cell? ⟨w2.heap.size,0,none⟩=some (.int .i64 cur.kind)∧w'.cell? ⟨w2.heap.size,1,none⟩=some (.string xx)∧w'.cell? ⟨w2.heap.size,2,none⟩=some (.slice xla xll xlc)∧w'.cell? ⟨w2.heap.size,3,none⟩=some (.slice (some ⟨kb,ko,none⟩) cur.kids.length xkc)) (first | with_reducible exact ⟨k0,k1,k2,k3⟩ | go_keep) (first
    | (go_at_call 115;refine (Qnq (fun k=>k<w.heap.size) (w2.heap.size+1) u5 us cur ⟨cur.kind,xx,xla,xll,xlc,some ⟨kb,ko,none⟩,cur.kids.length,xkc⟩ (some ⟨ab,ao,none⟩) j c (q:Int) wr.drew HTD.out HRD.out HBB.out HLN.out).mono ?_;rintro e w3 ⟨sv',us',rfl,hs3,hk3,hl3,hc3⟩;have HS3:=hQ hs3;have HK3:=hQ hk3;have HC3:=hQ hc3;have HX3':=hQ (show w3.heap[w2.heap.size]? = some (trO ⟨cur.kind,xx,xla,xll,xlc,some ⟨kb,ko,none⟩,cur.kids.length,xkc⟩) from (hk3.block _ (Qab HXD.out) (Qbt (Qg2 HRD.out HXD.out (by decide)))).trans HXD.out);clear k0 k1 k2 k3;have k0:w3.cell? ⟨w2.heap.size,0,none⟩=some (.int .i64 cur.kind):=Qaa HX3'.out 0 _ rfl;have k1:w3.cell? ⟨w2.heap.size,1,none⟩=some (.string xx):=Qaa HX3'.out 1 _ rfl;have k2:w3.cell? ⟨w2.heap.size,2,none⟩=some (.slice xla xll xlc):=Qaa HX3'.out 2 _ rfl;have k3:w3.cell? ⟨w2.heap.size,3,none⟩=some (.slice (some ⟨kb,ko,none⟩) cur.kids.length xkc):=Qaa HX3'.out 3 _ rfl;clear hs3 hk3 hl3 hc3)
    | fail)
   all_goals
    have HBK:=hQ (show Below w.heap.size wr.drew w3 from HK3.out.below (xQ HSZ2.out (by have:=HBB.out;omega)) (fun k hk=>Qbt fun e=>by have:=(HRD.out.lt k e).1;have:=HSZ2.out;omega))
    obtain ⟨u,c0,c1,c2,c3,hu⟩:=(HTD.out.lows HBK.out).at rfl HZ2.out
    have HU:=hQ hu
    have f0:w3.frozen? ⟨w2.heap.size,0,none⟩=false:=Qe3 HX3'.out
    have f1:w3.frozen? ⟨w2.heap.size,1,none⟩=false:=Qe3 HX3'.out
    have f2:w3.frozen? ⟨w2.heap.size,2,none⟩=false:=Qe3 HX3'.out
    have f3:w3.frozen? ⟨w2.heap.size,3,none⟩=false:=Qe3 HX3'.out
    clear hu
    have hwj:wrap64 ((j:Int)+1)=(j:Int)+1:=by have:=HZL.out;unfold wrap64;omega
    go_wp2
    go_roundw
    case measure =>
     show zs.length-(intOf (.int .i64 (wrap64 ((j:Int)+1)))).toNat<zs.length-(intOf (.int .i64 (j:Int))).toNat
     rw [hwj]
     show zs.length-((j:Int)+1).toNat<zs.length-((j:Int)).toNat
     omega
    case rel =>
     have hse:=Qt9 (p:=zs.take j) HR.out HRD.out HST.out HDR.out HK3.out HSZ2.out HC3.out (by rw [List.length_take,Nat.min_eq_left hj]) HA.out.take HNE.out (by have:=HZL.out;rw [List.length_take];omega) (xQ HBR.out.size HDR.out.size) HX3'.out u
     refine ⟨j+1,_,u,Qfm cur q,us ++ us',st ++ Qbw cur.kind cur.text cur.kids (zs.take j) q,by go_num,by omega,Qh4 u HX3'.out,TrAt.move (fun _ h=>h) (fun k hk _=>(Qck w3 w2.heap.size u).block k (xE hk HSZ2.out)) _ _ HU.out,((HBR.out.trans (HDR.out.mono HBR.out.size)).trans HBK.out).trans ((Qck w3 w2.heap.size u).mono HSZ2.out),HNK.out,.inl ?_,?_,?_,Qt8 HS3.out (fun k hk=>Qt7 w3 u (by omega)),hse.1,?_⟩
     ·intro e
      have:=congrArg List.length e
      rw [List.length_take,xG] at this
      omega
     ·have:=HKS.out
      have:=HSZ.out
      omega
     ·have h1:=HKS.out
      have h2:=HUL.out
      have h3:=hse.2
      rw [xB]
      omega
     ·rw [HPP.out,HDZ.out,Qbj,Qgp hz0.out]
  ·obtain rfl:j=zs.length:=by omega
   go_wp2
   go_ret
   have h:=HPP.out
   rw [List.drop_length,Qbj] at h
   exact ⟨_,us,rfl,Qdz HR.out (by have:=HSZ2.out;omega),by rw [h];exact HST.out,by have:=HUL.out;omega,HBR.out⟩
end Go.Proofs.YtjidpkcjpgdafaaGreat

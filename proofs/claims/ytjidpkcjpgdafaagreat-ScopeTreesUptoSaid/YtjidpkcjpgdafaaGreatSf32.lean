/- Part 32 -/
import Derived.Test.YtjidpkcjpgdafaaGreatSf31
set_option maxRecDepth 100000
set_option maxHeartbeats 4000000
namespace Go.Proofs.YtjidpkcjpgdafaaGreat
open Go.RowKit Go.Shelf
theorem Qqi:(Tryz.prog.info? 109).map (fun i=>(i.zero,i.size,i.bytes))=some (some (.agg #[.string ⟨#[]⟩,.slice none 0 0]),2,40):=by kernel_rfl
def Qfb (us:List (ByteArray × Value)):List Value:=us.flatMap fun u=>[.string u.1,u.2]
theorem Qf5 (a b:List (ByteArray × Value)):Qfb (a ++ b)=Qfb a ++ Qfb b:=by unfold Qfb;rw [List.flatMap_append]
def Qjs (w:World) (B:Nat) (v:Value) (us:List (ByteArray × Value)):Prop:=w.ownsRow B 109 2 v us.length (Qfb us)
def IB (w:World) (lo:Nat) (v:Value) (p:List Int):Prop:=∃ g c cur,v = .slice (some ⟨g,0,none⟩) p.length c∧lo≤g∧w.heap[g]? = some (.cells cur 3 (0,0))∧cur.toList.take p.length=p.map (Value.int .i64)
def ParamsAt (w:World) (lo:Nat) (us:List (ByteArray × Value)) (ps:List Bnd):Prop:=us.length=ps.length∧∀ (j:Nat) (y:ByteArray × Value) (z:Bnd),us[j]? = some y→ps[j]? = some z→y.1=z.1∧IB w lo y.2 z.2
theorem IB.keep {w w':World} {lo:Nat} {v:Value} {p:List Int} (h:IB w lo v p) (hb:Below w.heap.size w w'):IB w' lo v p:=by
 obtain ⟨g,c,cur,h1,h2,h3,h4⟩:=h
 exact ⟨g,c,cur,h1,h2,(hb.block g (Qab h3)).trans h3,h4⟩
theorem Qtz {w:World} {B:Nat} {r:Value} {us:List (ByteArray × Value)} (h:Qjs w B r us) {g:Nat} {cur:Array Value} {ty:TypeId} {fr:Nat × Nat} (hg:w.heap[g]? = some (.cells cur ty fr)) (ht:ty≠109):r.ownBlock≠some g:=fun e=>by
 rcases h.2 with ⟨rfl,_⟩|⟨g',cap,cur',rfl,_,hh,_⟩
 ·cases e
 ·injection e with e
  subst e
  rw [hg] at hh
  injection hh with hh
  injection hh with _ h2
  exact ht h2
theorem IB.keeps {w w':World} {lo B:Nat} {v r:Value} {p:List Int} {c:Nat} {us:List (ByteArray × Value)} (h:IB w lo v p) (hr:Qjs w B r us) (hk:Keeps (pre r c) w w'):IB w' lo v p:=by
 obtain ⟨g,cp,cur,h1,h2,h3,h4⟩:=h
 exact ⟨g,cp,cur,h1,h2,(hk.block g (Qab h3) (Qbt (Qtz hr h3 (by decide)))).trans h3,h4⟩
theorem ParamsAt.step {w w':World} {lo:Nat} {us:List (ByteArray × Value)} {ps:List Bnd} (h:ParamsAt w lo us ps) (hk:∀ v p,IB w lo v p→IB w' lo v p):ParamsAt w' lo us ps:=⟨h.1,fun j y z hy hz=>⟨(h.2 j y z hy hz).1,hk _ _ (h.2 j y z hy hz).2⟩⟩
theorem ParamsAt.snoc {w:World} {lo:Nat} {us:List (ByteArray × Value)} {ps:List Bnd} (h:ParamsAt w lo us ps) {v:Value} {x:ByteArray} {p:List Int} (hi:IB w lo v p):ParamsAt w lo (us ++ [(x,v)]) (ps ++ [(x,p)]):=by
 refine ⟨by rw [xB,xB,h.1];rfl,fun j y z hy hz=>?_⟩
 by_cases hj:j<us.length
 ·rw [yB hj] at hy
  rw [yB (by rw [←h.1];exact hj)] at hz
  exact h.2 j y z hy hz
 ·have hjl:=(xP.1 hy).1
  rw [xB,List.length_singleton] at hjl
  obtain rfl:j=us.length:=by omega
  rw [xX (xA _),Nat.sub_self] at hy
  rw [h.1,xX (xA _),Nat.sub_self] at hz
  injection hy with hy
  injection hz with hz
  subst hy hz
  exact ⟨rfl,hi⟩
def ParL (t:Tr) (v:TV) (w:World) (l i:Value) (wr:World):Prop:=∃ (k:Nat) (us:List (ByteArray × Value)) (done:List Bnd) (iv:Int),i = .int .i64 iv∧(iv=(k:Int)-1∨k=0∧iv<0)∧-3≤iv∧k≤t.kids.length∧us.length+k≤1000000 ∧
 Qjs wr (w.heap.size+1) l us∧ParamsAt wr w.heap.size us done∧done ++ Qda t.kids k=Qdb t.kids∧Below w.heap.size w wr∧wr.heap[w.heap.size]? = some (trO v)
theorem Qk3 (S:Nat→Prop) (t:Tr) (v:TV) (w:World) (ht:TrAt S w t v) (hl:t.kids.length≤1000000) :
  Calls Tryz.prog 161 #[.agg #[.int .i64 v.kind,.string v.text,.slice v.la v.ll v.lc,.slice v.ka v.kl v.kc]] w fun e w'=>∃ r us,e = .returned r∧Qjs w' w.heap.size r us∧ParamsAt w' w.heap.size us (Qdb t.kids)∧Below w.heap.size w w':=by
 have HB0:=hQ ((xC w.heap.size w).alloc (xA _) (trO v))
 have HT:=hQ (TrAt.low t v ht)
 have HX:=hQ (xH w (trO v))
 have hkl:=ht.kl.1
 obtain ⟨vk,vx,vla,vll,vlc,vka,vkl,vkc⟩:=v
 simp only at hkl
 subst hkl
 clear ht
 go_enter Tryz.func161,Tryz.ntmps161
 go_wp2
 have HLL:=hQ hl
 clear hl
 go_loopw [3,4] (fun l i wr=>ParL t ⟨vk,vx,vla,vll,vlc,vka,t.kids.length,vkc⟩ w l i wr) (fun _ i _=>(intOf i+1).toNat)
 case atStart =>
  have:=HLL.out
  refine ⟨t.kids.length-2,[],[],_,rfl,by omega,by omega,by omega,by simp;omega,World.ownsRow_nil _ _ _ _,⟨rfl,fun j y z hy=>by simp at hy⟩,rfl,HB0.out,HX.out⟩
 case round =>
  obtain ⟨k,us,done,iv,rfl,hiv,hi3,hkl,hul,hr,hp,hd,hb,hx⟩:=hrel
  have HR:=hQ hr
  have HPP:=hQ hp
  have HDD:=hQ hd
  have HB:=hQ hb
  have HXX:=hQ hx
  clear hr hp hd hb hx
  have k3:=Qaa HXX.out 3 _ rfl
  have hbl:=Qab HXX.out
  by_cases h0:0≤iv
  ·obtain ⟨q,rfl⟩:∃ q:Nat,iv=(q:Int):=⟨iv.toNat,by omega⟩
   obtain rfl:k=q+1:=by omega
   have hq:q<t.kids.length:=by omega
   obtain ⟨kb,ko,hka⟩:∃ b off,vka=some ⟨b,off,none⟩:=HT.out.addr.resolve_left (by omega)
   subst hka
   obtain ⟨kd,hkd⟩:∃ kd,t.kids[q]? = some kd:=⟨_,xF hq⟩
   obtain ⟨u,c0,c1,c2,c3,hu⟩:=(HT.out.lows HB.out).at rfl hkd
   have hcap:=HT.out.caps.2
   simp only at hcap
   have hqi:(q:Int)<(t.kids.length:Int):=by omega
   have HTX:=hQ hu.kl.2.2.2
   have HKD:=hQ hkd
   obtain ⟨ip,hip,pz0,pz1,pz2⟩:=info_parts Qqi
   have HW:=hQ (show Below wr.heap.size wr ((wr.alloc (.cells #[.int .i64 (q:Int)] 3)).alloc (.cells #[.string u.text,.slice (some ⟨wr.heap.size,0,none⟩) 1 1] 109)) from ((xC _ wr).alloc (xA _) _).alloc (by simp) _)
   have HRW:=hQ (show Qjs ((wr.alloc (.cells #[.int .i64 (q:Int)] 3)).alloc (.cells #[.string u.text,.slice (some ⟨wr.heap.size,0,none⟩) 1 1] 109)) (w.heap.size+1) u3 us from (HR.out.alloc _).alloc _)
   have HI:=hQ (show ((wr.alloc (.cells #[.int .i64 (q:Int)] 3)).alloc (.cells #[.string u.text,.slice (some ⟨wr.heap.size,0,none⟩) 1 1] 109)).heap[wr.heap.size]? = some (.cells #[.int .i64 (q:Int)] 3 (0,0)) from (Below.heap_alloc _ _ _ (by simp)).trans (xH wr _))
   have HN:=hQ (xM (show ((wr.alloc (.cells #[.int .i64 (q:Int)] 3)).alloc (.cells #[.string u.text,.slice (some ⟨wr.heap.size,0,none⟩) 1 1] 109)).heap[wr.heap.size+1]? = some (.cells #[.string u.text,.slice (some ⟨wr.heap.size,0,none⟩) 1 1] 109 (0,0)) from by
    have:=xH (wr.alloc (.cells #[.int .i64 (q:Int)] 3)) (.cells #[.string u.text,.slice (some ⟨wr.heap.size,0,none⟩) 1 1] 109)
    rwa [xI] at this))
   generalize hW2:((wr.alloc (.cells #[.int .i64 (q:Int)] 3)).alloc (.cells #[.string u.text,.slice (some ⟨wr.heap.size,0,none⟩) 1 1] 109))=W2 at HW HRW HI HN
   have HW2:=hQ hW2
   clear hW2 hu hkd
   go_wp2_with (at_builtin;rw [HW2.out];refine Qd2 _ rfl _ _ 104 rfl (w.heap.size+1) 109 ip _ 2 40 Tryz.underlying104 hip pz0 pz1 pz2 rfl (by decide) _ us.length (Qfb us) rfl HRW.out ⟨wr.heap.size+1,0,none⟩ 1 1 [.string u.text,.slice (some ⟨wr.heap.size,0,none⟩) 1 1] rfl rfl HN.out (by intro v hv;simp at hv;rcases hv with rfl | rfl <;> rfl) (by decide) (by unfold maxLen;omega) (by omega) (by have:=HW.out.size;omega) ?_;intro g3 c3 w3 hown hk hg hlt;have HO:=hQ hown;have HK:=hQ hk;clear hown hk hg hlt)
   go_roundw
   case rel =>
    have hlo:∀ k,k<w.heap.size+1→pre u3 (us.length*2) k=none:=fun k hk=>Qbt fun e=>by
     have:=(HRW.out.lt k e).1
     omega
    have hbw:Below (w.heap.size+1) W2 w3:=HK.out.below (by have:=HW.out.size;omega) hlo
    refine ⟨q,us ++ [(u.text,.slice (some ⟨wr.heap.size,0,none⟩) 1 1)],done ++ [(u.text,[(q:Int)])],_,rfl,by omega,by omega,by omega,by rw [xB,List.length_singleton];omega,?_,?_,?_,?_,?_⟩
    ·unfold Qjs
     rw [xB,Qf5]
     exact HO.out
    ·refine (((HPP.out.step fun _ _ h=>h.keep HW.out).snoc ?_).step fun _ _ h=>h.keeps HRW.out HK.out)
     exact ⟨wr.heap.size,1,_,rfl,HB.out.size,HI.out,rfl⟩
    ·rw [←HDD.out,Qda,HKD.out,Option.getD_some,HTX.out,xT]
     rfl
    ·exact (HB.out.trans (HW.out.mono HB.out.size)).trans (hbw.mono (by omega))
    ·exact (hbw.block _ (by omega)).trans ((HW.out.block _ hbl).trans HXX.out)
   case measure=>first | (simp [intOf];done) | (simp [intOf];omega)
  ·obtain rfl:k=0:=by omega
   go_wp2
   go_ret
   exact ⟨_,rfl,us,Qdz HR.out (by omega),by have h:=HDD.out;rw [Qda,List.append_nil] at h;rw [←h];exact HPP.out,HB.out⟩
def Qt0 (B:Nat) (v:Value) (us:List (ByteArray × Value)) (t:Tr) (pv:Value) (i:Int) (w:World) (e:Ending) (w':World):Prop :=
 ∃ v' ws,e = .returned v'∧Qjs w' B v' (us ++ ws)∧Keeps (pre v (us.length*2)) w w'∧Later w v v' ∧
  ((t.kind=20∧i=1∧ws = [(t.text,pv)])∨(¬(t.kind=20∧i=1)∧t.kind=2∧i=(t.kids.length:Int)-1∧ParamsAt w' w.heap.size ws (Qdb t.kids))∨(¬(t.kind=20∧i=1)∧¬(t.kind=2∧i=(t.kids.length:Int)-1)∧ws = []))
theorem Keeps.after {P:Nat→Option Nat} {a b c:World} (h:Below a.heap.size a b) (h':Keeps P b c) (hp:∀ k,P k=none∨∃ n,P k=some n):Keeps P a c :=
 (Keeps.of_below (P:=P) h).trans h' fun k _=>(hp k).imp id fun ⟨n,hn⟩=>⟨n,n,hn,hn,xA _⟩
theorem hS1 {w w':World} {B:Nat} {v:Value} {us:List (ByteArray × Value)} (h:Qjs w B v us) (hb:Below w.heap.size w w'):Qjs w' B v us:=(Keeps.of_below (P:=fun _=>none) hb).row h fun _ _=>.inl rfl
theorem Qip (ks:List Tr):(Qdb ks).length≤ks.length:=by unfold Qdb;rw [Qhj];omega
theorem IB.low {w:World} {a b:Nat} {v:Value} {p:List Int} (h:IB w b v p) (hb:a≤b):IB w a v p:=by
 obtain ⟨g,c,cur,h1,h2,h3,h4⟩:=h
 exact ⟨g,c,cur,h1,xQ hb h2,h3,h4⟩
theorem ParamsAt.low {w:World} {a b:Nat} {us:List (ByteArray × Value)} {ps:List Bnd} (h:ParamsAt w b us ps) (hb:a≤b):ParamsAt w a us ps:=⟨h.1,fun j y z hy hz=>⟨(h.2 j y z hy hz).1,(h.2 j y z hy hz).2.low hb⟩⟩
theorem sOne {w:World} {lo:Nat} {us:List (ByteArray × Value)} {ps:List Bnd} (h:ParamsAt w lo us ps):∀ u∈Qfb us,u.oneCell'=true:=fun u hu=>by
 unfold Qfb at hu
 obtain ⟨y,hy,hu⟩:=List.mem_flatMap.1 hu
 obtain ⟨j,hj⟩:=List.mem_iff_getElem?.1 hy
 have hl:=(xP.1 hj).1
 rw [h.1] at hl
 obtain ⟨_,g,c,cur,h1,_⟩:=h.2 j y _ hj (xF hl)
 rcases List.mem_cons.1 hu with rfl | hu
 ·rfl
 ·rw [List.mem_singleton] at hu
  rw [hu,h1]
  rfl
theorem Qt1 (v:Value) (c k:Nat):pre v c k=none∨∃ n,pre v c k=some n:=by
 unfold pre
 split
 ·exact .inr ⟨c,rfl⟩
 ·exact .inl rfl
theorem Qnq (S:Nat→Prop) (B:Nat) (sv:Value) (us:List (ByteArray × Value)) (t:Tr) (v:TV) (A:Option Addr) (n c:Nat) (i:Int) (w:World) (ht:TrAt S w t v) (hs:Qjs w B sv us) (hB:B≤w.heap.size) (hl:us.length+t.kids.length+1≤1000000) :
  Calls Tryz.prog 115 #[sv,.agg #[.int .i64 v.kind,.string v.text,.slice v.la v.ll v.lc,.slice v.ka v.kl v.kc],.slice A n c,.int .i64 i] w (Qt0 B sv us t (.slice A n c) i w):=by
 obtain ⟨k,x,ls,ks⟩:=t
 have hkl:v.kl=ks.length:=ht.kl.1
 have htx:v.text=x:=ht.kl.2.2.2
 have hkd:v.kind=k:=ht.kl.2.2.1
 have hl':us.length+ks.length+1≤1000000:=hl
 obtain ⟨vk,vx,vla,vll,vlc,vka,vkl,vkc⟩:=v
 simp only at hkl htx hkd
 subst hkl htx hkd
 have HL:=hQ hl'
 clear hl hl'
 have HB0:=hQ ((xC w.heap.size w).alloc (xA _) (.cells #[.int .i64 vk,.string vx,.slice vla vll vlc,.slice vka ks.length vkc] 29))
 have HT:=hQ (show TrAt S (w.alloc (.cells #[.int .i64 vk,.string vx,.slice vla vll vlc,.slice vka ks.length vkc] 29)) (Tr.mk vk vx ls ks) ⟨vk,vx,vla,vll,vlc,vka,ks.length,vkc⟩ from ht.keep HB0.out)
 have HX:=hQ (xH w (.cells #[.int .i64 vk,.string vx,.slice vla vll vlc,.slice vka ks.length vkc] 29))
 have HS:=hQ (show Qjs (w.alloc (.cells #[.int .i64 vk,.string vx,.slice vla vll vlc,.slice vka ks.length vkc] 29)) B sv us from hs.alloc _)
 have HBB:=hQ hB
 clear ht hs hB
 obtain ⟨ip,hip,pz0,pz1,pz2⟩:=info_parts Qqi
 by_cases hk20:vk=20
 ·subst hk20
  by_cases hi1:i=1
  ·subst hi1
   have HW:=hQ ((HB0.out).alloc HB0.out.size (.cells #[.string vx,.slice A n c] 109))
   have HRW:=hQ (show Qjs ((w.alloc (.cells #[.int .i64 20,.string vx,.slice vla vll vlc,.slice vka ks.length vkc] 29)).alloc (.cells #[.string vx,.slice A n c] 109)) B sv us from HS.out.alloc _)
   have HN:=hQ (xM (show ((w.alloc (.cells #[.int .i64 20,.string vx,.slice vla vll vlc,.slice vka ks.length vkc] 29)).alloc (.cells #[.string vx,.slice A n c] 109)).heap[w.heap.size+1]? = some (.cells #[.string vx,.slice A n c] 109 (0,0)) from by
    have:=xH (w.alloc (.cells #[.int .i64 20,.string vx,.slice vla vll vlc,.slice vka ks.length vkc] 29)) (.cells #[.string vx,.slice A n c] 109)
    rwa [xI] at this))
   generalize hW2:((w.alloc (.cells #[.int .i64 20,.string vx,.slice vla vll vlc,.slice vka ks.length vkc] 29)).alloc (.cells #[.string vx,.slice A n c] 109))=W2 at HW HRW HN
   have HW2:=hQ hW2
   clear hW2
   have HL1:=hQ (show us.length+1≤1000000 from by have:=HL.out;omega)
   have HBW:=hQ (show B≤W2.heap.size from by have:=HW.out.size;have:=HBB.out;omega)
   go_enter Tryz.func115,Tryz.ntmps115
   go_wp2_with (at_builtin;rw [HW2.out];refine Qd2 _ rfl _ _ 104 rfl B 109 ip _ 2 40 Tryz.underlying104 hip pz0 pz1 pz2 rfl (by decide) _ us.length (Qfb us) rfl HRW.out ⟨w.heap.size+1,0,none⟩ 1 1 [.string vx,.slice A n c] rfl rfl HN.out (by intro v hv;simp at hv;rcases hv with rfl | rfl <;> rfl) (by decide) (by have:=HL1.out;unfold maxLen;omega) (by have:=HL1.out;omega) HBW.out ?_;intro g3 c3 w3 hown hk hg hlt;have HO:=hQ hown;have HK:=hQ hk;have HG:=hQ hg;clear hown hk hg hlt)
   go_ret
   refine ⟨_,[(vx,.slice A n c)],rfl,?_,Keeps.after HW.out HK.out (Qt1 _ _),?_,.inl ⟨rfl,rfl,rfl⟩⟩
   ·unfold Qjs
    rw [xB,Qf5]
    exact HO.out
   ·intro g hg
    injection hg with hg
    have hg':g3=g:=hg
    subst hg'
    exact HG.out.imp id fun h=>by have:=HW.out.size;omega
  ·have d1:decide (i=1)=false:=xR hi1
   go_enter Tryz.func115,Tryz.ntmps115
   go_wp2
   go_ret
   exact ⟨_,[],rfl,by rw [List.append_nil];exact HS.out,Keeps.of_below HB0.out,fun g hg=>.inl hg,.inr (.inr ⟨fun h=>hi1 h.2,fun h=>absurd (show (20:Int)=2 from h.1) (by decide),rfl⟩)⟩
 ·by_cases hk2:vk=2
  ·subst hk2
   by_cases hil:i=(ks.length:Int)-1
   ·subst hil
    have hw:wrap64 ((ks.length:Int)-1)=(ks.length:Int)-1:=by have:=HL.out;unfold wrap64;omega
    go_enter Tryz.func115,Tryz.ntmps115
    go_wp2_with (first
     | (go_at_call 161;refine (Qk3 _ _ _ _ HT.out (by have:=HL.out;show ks.length≤1000000;omega)).mono ?_;rintro e w1 ⟨r,ws,rfl,hr,hp,hb⟩;have HR:=hQ hr;have HP:=hQ hp;have HB1:=hQ hb;have HB2:=hQ (HB0.out.trans (hb.mono HB0.out.size));have HS1:=hQ (hS1 HS.out hb);clear hr hp hb)
     | (at_builtin;refine Qpe _ rfl _ _ 104 rfl B _ 109 ip _ 2 40 Tryz.underlying104 hip pz0 pz1 pz2 rfl (by decide) _ us.length (Qfb us) rfl HS1.out _ ws.length (Qfb ws) rfl HR.out (sOne HP.out) (by have h1:=HL.out;have h2:=HP.out.1;have h3:=Qip ks;have h4:ws.length=(Qdb ks).length:=h2;unfold maxLen;omega) (by have h1:=HL.out;have h2:=HP.out.1;have h3:=Qip ks;have h4:ws.length=(Qdb ks).length:=h2;omega) (by have h1:=HBB.out;have h2:=HB2.out.size;omega) ?_;intro v3 w3 hown hk hg;have HO:=hQ hown;have HK:=hQ hk;have HG:=hQ hg;clear hown hk hg))
    go_ret
    refine ⟨_,ws,rfl,?_,Keeps.after HB2.out HK.out (Qt1 _ _),fun g hg=>(HG.out g hg).imp id fun h=>by have:=HB2.out.size;omega,.inr (.inl ⟨fun h=>hk20 h.1,rfl,rfl,?_⟩)⟩
    ·unfold Qjs
     rw [xB,Qf5]
     exact HO.out
    ·exact (show ParamsAt _ w.heap.size ws (Qdb ks) from HP.out.low HB0.out.size).step fun _ _ h=>h.keeps HS1.out HK.out
   ·have hw:wrap64 ((ks.length:Int)-1)=(ks.length:Int)-1:=by have:=HL.out;unfold wrap64;omega
    have d2:(i==(ks.length:Int)-1)=false:=by simpa using hil
    have d3:decide (i=(ks.length:Int)-1)=false:=by simpa using hil
    go_enter Tryz.func115,Tryz.ntmps115
    go_wp2
    go_ret
    exact ⟨_,[],rfl,by rw [List.append_nil];exact HS.out,Keeps.of_below HB0.out,fun g hg=>.inl hg,.inr (.inr ⟨fun h=>hk20 h.1,fun h=>hil h.2,rfl⟩)⟩
  ·have d1:decide (vk=20)=false:=xR hk20
   have d2:decide (vk=2)=false:=xR hk2
   go_enter Tryz.func115,Tryz.ntmps115
   go_wp2
   go_ret
   exact ⟨_,[],rfl,by rw [List.append_nil];exact HS.out,Keeps.of_below HB0.out,fun g hg=>.inl hg,.inr (.inr ⟨fun h=>hk20 h.1,fun h=>hk2 h.1,rfl⟩)⟩
end Go.Proofs.YtjidpkcjpgdafaaGreat

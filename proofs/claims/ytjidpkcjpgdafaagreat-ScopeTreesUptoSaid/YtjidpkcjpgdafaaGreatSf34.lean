/- Part 34 -/
import Derived.Test.YtjidpkcjpgdafaaGreatSf33
set_option maxRecDepth 100000
set_option maxHeartbeats 4000000
namespace Go.Proofs.YtjidpkcjpgdafaaGreat
open Go.RowKit Go.Shelf
theorem Qkl (ks:List Tr):(n:Nat)→∀ z∈Qda ks n,z.2.length=1
 | 0,z,h=>by rw [Qda] at h;simp at h
 | n+1,z,h=>by
  rw [Qda] at h
  rcases List.mem_cons.1 h with rfl | h
  ·rfl
  ·exact Qkl ks n z h
theorem Qkm {ks:List Tr} {z:Bnd} (h:z∈Qdb ks):z.2.length=1:=Qkl ks _ z h
structure Hand (B:Nat) (w:World) (lv:Value) (ws:List (Value × Value × Bool)) (pv:Value) (p:List Int) (sv:Value) (us:List (ByteArray × Value)) (st:List Bnd):Prop where
 hl:VRow w B lv ws
 hp:IRow w B pv p
 hs:Qjs w B sv us
 hm:StkM w B pv p.length us st
 hb:B≤w.heap.size
section
variable {B:Nat} {w w':World} {lv pv sv:Value} {ws:List (Value × Value × Bool)} {p:List Int} {us:List (ByteArray × Value)} {st:List Bnd}
theorem Hand.apart (h:Hand B w lv ws pv p sv us st):Qiq lv pv∧Qiq lv sv∧Qiq pv sv:=⟨Qft h.hl h.hp (by decide),Qft h.hl h.hs (by decide),Qft h.hp h.hs (by decide)⟩
theorem Hand.keep (h:Hand B w lv ws pv p sv us st) (hk:Keeps (Qd7 lv (ws.length*3) pv p.length sv (us.length*2)) w w'):Hand B w' lv ws pv p sv us st:=by
 obtain ⟨d1,d2,d3⟩:=h.apart
 exact ⟨hk.row h.hl (fun k hk=>.inr ⟨_,Qmq hk,xA _⟩),hk.row h.hp (fun k hk=>.inr ⟨_,Qpf hk d1,by omega⟩),hk.row h.hs (fun k hk=>.inr ⟨_,Qpg hk d2 d3,xA _⟩),h.hm.keep hk h.hl h.hs,xQ h.hb hk.size⟩
theorem Hand.later (h:Hand B w lv ws pv p sv us st) (hb:Below w.heap.size w w'):Hand B w' lv ws pv p sv us st:=h.keep (Keeps.of_below hb)
theorem Qnr (N:Nat) (P:Nat→Option Nat):Qg0 N P P:=fun k _=>by
 cases h:P k with
 | none=>exact .inl rfl
 | some n=>exact .inr ⟨n,n,rfl,rfl,xA _⟩
theorem Qv9 {pv':Value} {n n':Nat} {wa:World} (hm:StkM w B pv n us st) (_hw:w.heap.size≤wa.heap.size) (hk:∀ v z,IB w B v z→(∀ g,v.ownBlock=some g→pv.ownBlock=some g→z.length≤n)→IB w' B v z) (hl:Later w pv pv') (hn:n≤n'):StkM w' B pv' n' us st:=by
 refine ⟨hm.1,fun j y z hy hz=>?_⟩
 obtain ⟨h1,h2,h3,h4,h5⟩:=hm.2 j y z hy hz
 refine ⟨h1,hk _ _ h2 h5,h3,h4,fun g hg hp=>?_⟩
 rcases hl g hp with h | h
 ·exact xQ (h5 g hg h) hn
 ·obtain ⟨g',c,cur,hv,_,hh,_⟩:=h2
  rw [hv] at hg
  injection hg with hg
  have e1:g'=g:=hg
  have:=Qab hh
  omega
theorem Hand.path (h:Hand B w lv ws pv p sv us st) {pv':Value} {q:Int} (hk:Keeps (pre pv (p.length*1)) w w') (hp:IRow w' B pv' (p ++ [q])) (hl:Later w pv pv') :
  Hand B w' lv ws pv' (p ++ [q]) sv us st∧Keeps (Qd7 lv (ws.length*3) pv p.length sv (us.length*2)) w w'∧IRow w' B pv p:=by
 obtain ⟨d1,d2,d3⟩:=h.apart
 have hK:Keeps (Qd7 lv (ws.length*3) pv p.length sv (us.length*2)) w w':=by
  refine (Keeps.refl _ w).trans hk ?_
  rw [Nat.mul_one]
  exact Qzs d1
 have hh:=h.keep hK
 refine ⟨⟨hh.hl,hp,hh.hs,?_,hh.hb⟩,hK,hh.hp⟩
 refine Qv9 (wa:=w) h.hm (xA _) (fun v z hi hz=>?_) hl (by rw [xB];omega)
 refine hi.keepP hk fun g hg=>?_
 by_cases hp:pv.ownBlock=some g
 ·exact .inr ⟨_,Qg1 hp,by have:=hz g hg hp;omega⟩
 ·exact .inl (Qbt hp)
theorem Hand.stack (h:Hand B w lv ws pv p sv us st) {pv0:Value} {p0:List Int} (h0:IRow w B pv0 p0) (hle:∀ g,pv0.ownBlock=some g→pv.ownBlock=some g→p0.length≤p.length) {t:Tr} {i:Int} {e:Ending}
  (hne:p0≠[]∨t.kind=2) (hpl:p0.length≤1000000) (he:Qt0 B sv us t pv0 i w e w') :
  ∃ sv' us',e = .returned sv'∧us'.length≤us.length+t.kids.length+1∧us.length≤us'.length∧Hand B w' lv ws pv p sv' us' (st ++ Qbw t.kind t.text t.kids p0 i)∧Keeps (Qd7 lv (ws.length*3) pv p.length sv (us.length*2)) w w'∧Later w sv sv'∧IRow w' B pv0 p0:=by
 obtain ⟨d1,d2,d3⟩:=h.apart
 obtain ⟨sv',us',rfl,hs,hk,hl,hc⟩:=he
 have hK:Keeps (Qd7 lv (ws.length*3) pv p.length sv (us.length*2)) w w':=(Keeps.refl _ w).trans hk (Qzt d2 d3)
 have hh:=h.keep hK
 have h0':IRow w' B pv0 p0:=hk.row h0 fun k hk'=>.inl (Qbt (Qft h0 h.hs (by decide) k hk'))
 have hcl:us'.length≤t.kids.length+1:=by
  rcases hc with ⟨_,_,rfl⟩|⟨_,_,_,hp⟩|⟨_,_,rfl⟩
  ·simp
  ·rw [hp.1]
   have:=Qip t.kids
   omega
  ·simp
 refine ⟨sv',us ++ us',rfl,by rw [xB];omega,by rw [xB];omega,⟨hh.hl,hh.hp,hs,?_,hh.hb⟩,hK,hl,h0'⟩
 have hlen:us'.length=(Qbw t.kind t.text t.kids p0 i).length∧∀ (j:Nat) (y:ByteArray × Value) (z:Bnd),us'[j]? = some y→(Qbw t.kind t.text t.kids p0 i)[j]? = some z →
   y.1=z.1∧IB w' B y.2 z.2∧z.2≠[]∧z.2.length≤1000000∧∀ g,y.2.ownBlock=some g→pv.ownBlock=some g→z.2.length≤p.length:=by
  rcases hc with ⟨c1,c2,rfl⟩|⟨c0,c1,c2,hp⟩|⟨c0,c1,rfl⟩
  ·have he:Qbw t.kind t.text t.kids p0 i = [(t.text,p0)]:=xO ⟨c1,c2⟩
   rw [he]
   have hp0:p0≠[]:=hne.resolve_right (by rw [c1];decide)
   refine ⟨rfl,fun j y z hy hz=>?_⟩
   match j,hy,hz with
   | 0,hy,hz =>
    injection hy with hy
    injection hz with hz
    subst hy hz
    exact ⟨rfl,h0'.ib hp0,hp0,hpl,hle⟩
  ·have he:Qbw t.kind t.text t.kids p0 i=Qdb t.kids:=by unfold Qbw;rw [xN c0,xO ⟨c1,c2⟩]
   rw [he]
   refine ⟨hp.1,fun j y z hy hz=>?_⟩
   obtain ⟨q1,q2⟩:=hp.2 j y z hy hz
   have hz1:z.2.length=1:=Qkm (yA hz)
   refine ⟨q1,q2.low h.hb,fun e=>by rw [e] at hz1;simp at hz1,by omega,fun g hg hpg=>?_⟩
   obtain ⟨g',c,cur,hv,hlo,hh',_⟩:=q2
   rw [hv] at hg
   injection hg with hg
   have e1:g'=g:=hg
   have:=(h.hp.lt g hpg).2
   omega
  ·have he:Qbw t.kind t.text t.kids p0 i = []:=by unfold Qbw;rw [xN c0,xN c1]
   rw [he]
   exact ⟨rfl,fun j y z hy=>by simp at hy⟩
 refine ⟨by rw [xB,xB,hh.hm.1,hlen.1],fun j y z hy hz=>?_⟩
 by_cases hj:j<us.length
 ·rw [yB hj] at hy
  rw [yB (by rw [←hh.hm.1];exact hj)] at hz
  exact hh.hm.2 j y z hy hz
 ·rw [xX (by omega)] at hy
  rw [xX (by rw [←hh.hm.1];omega),←hh.hm.1] at hz
  exact hlen.2 _ y z hy hz
end
def Qt3 (B:Nat) (lv:Value) (ws:List (Value × Value × Bool)) (pv:Value) (p:List Int) (sv:Value) (us:List (ByteArray × Value)) (st:List Bnd) (t:Tr) (w:World) (e:Ending) (w':World):Prop :=
 ∃ v' vs',e = .returned v'∧VRow w' B v' (ws ++ vs')∧VarsAt w' w.heap.size vs' (Qh9 t p st)∧Keeps (Qd7 lv (ws.length*3) pv p.length sv (us.length*2)) w w'∧Later w lv v'
theorem Qqj:(Tryz.prog.info? 66).map (fun i=>(i.zero,i.size,i.bytes))=some (some (.agg #[.slice none 0 0,.slice none 0 0,.bool false]),3,56):=by kernel_rfl
theorem Qbe {w:World} {B:Nat} {e:TypeId} {s:Nat} {v:Value} {n:Nat} {xs:List Value} (h:w.ownsRow B e s v n xs):∃ A c,v = .slice A n c:=by
 rcases h.2 with ⟨rfl,rfl⟩|⟨g,cap,cur,rfl,_⟩
 ·exact ⟨_,_,rfl⟩
 ·exact ⟨_,_,rfl⟩
theorem Qaf (w:World) (o:Obj):Below w.heap.size w (w.alloc o):=(xC w.heap.size w).alloc (xA _) o
theorem Qev (A:Option Addr) (m cap:Nat) (st:List Bnd) (x:ByteArray) (w:World) (hm:m=st.length) (hS:Qv6 w A st) (hl:m≤1000000) :
  Calls Tryz.prog 66 #[.slice A m cap,.string x] w (InnPost (Qcc st x) w):=by
 subst hm
 exact Qmp A cap st x w hS hl
theorem Qis {w:World} {v:Value} {g n c:Nat} (h:v.ownBlock=some g∨w.heap.size≤g):Later w v (.slice (some ⟨g,0,none⟩) n c):=fun k hk=>by
 injection hk with hk
 have e:g=k:=hk
 subst e
 exact h
theorem IRow.intsAt {w:World} {B n c:Nat} {A:Option Addr} {p:List Int} (h:IRow w B (.slice A n c) p):IntsAt w A p:=h.ints.2
theorem IRow.app {w:World} {B:Nat} {v:Value} {p:List Int} {P:Nat→Option Nat} {w':World} (h:IRow w B v p) (hk:Keeps P w w') (hp:∀ g,B≤g→g<w.heap.size→P g=none):IRow w' B v p :=
 hk.row h fun g hg=>.inl (hp g (h.lt g hg).1 (h.lt g hg).2)
theorem Qt4 {B:Nat} {t:Tr} {lv v' pv sv:Value} {ws:List (Value × Value × Bool)} {p:List Int} {us:List (ByteArray × Value)} {st:List Bnd} {w w2 w3:World} {y:Value × Value × Bool} {z:Vrb} {o:Obj}
  (hh:Hand B w lv ws pv p sv us st) (hb:Below w.heap.size w w2) (hv:Qt2 w2 w.heap.size y z) (hown:w3.ownsRow B 66 3 v' (ws.length+1) (Qdc ws ++ [y.1,y.2.1,.bool y.2.2])) (hk:Keeps (pre lv (ws.length*3)) (w2.alloc o) w3)
  (hl:Later (w2.alloc o) lv v') (hvt:Qh9 t p st = [z]):Qt3 B lv ws pv p sv us st t w (.returned v') w3:=by
 have hb3:=hb.trans ((Qaf w2 o).mono hb.size)
 refine ⟨v',[y],rfl,?_,?_,(Keeps.of_below hb3).trans hk Qzu,fun g hg=>(hl g hg).imp id fun h=>xQ hb3.size h⟩
 ·unfold VRow
  rw [xB,Qia]
  exact hown
 ·rw [hvt]
  refine (VarsAt.one hv).step fun v q h=>?_
  exact (h.keep (Qaf w2 o)).app hk fun g hg _=>Qbt fun e=>by
   have:=(hh.hl.lt g e).2
   omega
theorem Qmr (B:Nat) (t:Tr) (v:TV) (lv:Value) (ws:List (Value × Value × Bool)) (pv:Value) (p:List Int) (sv:Value) (us:List (ByteArray × Value)) (st:List Bnd) (w:World) (ht:TrAt (fun k=>k<B) w t v) (hh:Hand B w lv ws pv p sv us st)
  (hk:t.kind=12) (hne:p≠[]) (h1:ws.length+1≤100000) (h2:p.length≤1000000) (h3:us.length≤1000000) :
  Calls Tryz.prog 71 #[lv,.agg #[.int .i64 v.kind,.string v.text,.slice v.la v.ll v.lc,.slice v.ka v.kl v.kc],pv,sv] w (Qt3 B lv ws pv p sv us st t w):=by
 obtain ⟨LA,lc,hlv⟩:=Qbe hh.hl
 obtain ⟨PA,pc,hpv⟩:=Qbe hh.hp
 obtain ⟨SA,sc,hsv⟩:=Qbe hh.hs
 subst hlv hpv hsv
 have HT:=hQ (show TrAt (fun k=>k<B) w t v from ht)
 have hkd:=ht.kl.2.2.1
 have htx:=ht.kl.2.2.2
 obtain ⟨vk,vx,vla,vll,vlc,vka,vkl,vkc⟩:=v
 simp only at hkd htx
 rw [hk] at hkd
 subst hkd htx
 have HH:=hQ hh
 have HSL:=hQ (hh.hm.stk hh.hs).1
 obtain ⟨iv,hiv,vz0,vz1,vz2⟩:=info_parts Qqj
 clear ht hh
 go_enter Tryz.func71,Tryz.ntmps71
 cases hin:Qcc st t.text with
 | none =>
  have HIN:=hQ hin
  clear hin
  have HVT:=hQ (show Qh9 t p st = [(p,none)] from by rw [Qmn,xO hk,HIN.out])
  go_wp2_with (first
   | (go_at_call 66;have hhb:=Qaf w (.cells #[.int .i64 12,.string t.text,.slice vla vll vlc,.slice vka vkl vkc] 29);have hh0:=HH.out.later hhb;refine (Qev SA _ sc st t.text _ HSL.out (hh0.hm.stk hh0.hs).2 h3).mono ?_;rw [HIN.out];rintro e w1 ⟨hb,rfl⟩;have HBA:=hQ (hhb.trans (hb.mono hhb.size));have HH1:=hQ (hh0.later hb);clear hb hhb hh0)
   | (go_at_call 113;refine (Qio PA pc p _ HH1.out.hp.intsAt hne h2).mono ?_;rintro e w2 ⟨y,rfl,hy,hb⟩;obtain ⟨YA,yn,yc,rfl⟩:=hy.slice;have HBB:=hQ (HBA.out.trans (hb.mono HBA.out.size));have HH2:=hQ (HH1.out.later hb);have HY:=hQ (hy.low HBA.out.size);have HVR:=hQ (show VRow (w2.alloc (.cells #[.slice YA yn yc,.slice none 0 0,.bool true] 66)) B (.slice LA ws.length lc) ws from HH2.out.hl.alloc _);have HN:=hQ (xM (xH w2 (.cells #[.slice YA yn yc,.slice none 0 0,.bool true] 66)));have HONE:=hQ (show ∀ u∈[(.slice YA yn yc:Value),.slice none 0 0,.bool true],u.oneCell'=true from by intro v hv;simp at hv;rcases hv with rfl | rfl | rfl <;> rfl);have HBW:=hQ (show B≤(w2.alloc (.cells #[.slice YA yn yc,.slice none 0 0,.bool true] 66)).heap.size from by have:=HH2.out.hb;rw [xI];omega);clear hb hy)
   | (at_builtin;refine Qd2 _ rfl _ _ 57 rfl B 66 iv _ 3 56 Tryz.underlying57 hiv vz0 vz1 vz2 rfl (by decide) _ ws.length (Qdc ws) rfl HVR.out ⟨w2.heap.size,0,none⟩ 1 1 [.slice YA yn yc,.slice none 0 0,.bool true] rfl rfl HN.out HONE.out (by decide) (by unfold maxLen;omega) (by omega) HBW.out ?_;intro g3 c3 w3 hown hk3 hg hlt;have HO:=hQ hown;have HK:=hQ hk3;have HG:=hQ (Qis (n:=ws.length+1) (c:=c3) hg);clear hown hk3 hg hlt))
  go_ret
  exact (show Qt3 B (.slice LA ws.length lc) ws (.slice PA p.length pc) p (.slice SA us.length sc) us st t w (.returned (.slice (some ⟨g3,0,none⟩) (ws.length+1) c3)) w3 from
   Qt4 (y:=(.slice YA yn yc,.slice none 0 0,true)) HH.out HBB.out ⟨HY.out,.inl ⟨rfl,rfl,rfl⟩⟩ HO.out HK.out HG.out HVT.out)
 | some q =>
  have HIN:=hQ hin
  clear hin
  have HVT:=hQ (show Qh9 t p st = [(p,some q)] from by rw [Qmn,xO hk,HIN.out])
  go_wp2_with (first
   | (go_at_call 66;have hhb:=Qaf w (.cells #[.int .i64 12,.string t.text,.slice vla vll vlc,.slice vka vkl vkc] 29);have hh0:=HH.out.later hhb;refine (Qev SA _ sc st t.text _ HSL.out (hh0.hm.stk hh0.hs).2 h3).mono ?_;rw [HIN.out];rintro e w1 ⟨hb,x,rfl,hx⟩;obtain ⟨XA,xn,xc,rfl⟩:=hx.slice;have HX:=hQ (hx.low hhb.size);clear hx;have HBA:=hQ (hhb.trans (hb.mono hhb.size));have HH1:=hQ (hh0.later hb);clear hb hhb hh0)
   | (go_at_call 113;refine (Qio PA pc p _ HH1.out.hp.intsAt hne h2).mono ?_;rintro e w2 ⟨y,rfl,hy,hb⟩;obtain ⟨YA,yn,yc,rfl⟩:=hy.slice;have HBB:=hQ (HBA.out.trans (hb.mono HBA.out.size));have HH2:=hQ (HH1.out.later hb);have HX2:=hQ (HX.out.keep hb);have HY:=hQ (hy.low HBA.out.size);have HVR:=hQ (show VRow (w2.alloc (.cells #[.slice YA yn yc,.slice XA xn xc,.bool false] 66)) B (.slice LA ws.length lc) ws from HH2.out.hl.alloc _);have HN:=hQ (xM (xH w2 (.cells #[.slice YA yn yc,.slice XA xn xc,.bool false] 66)));have HONE:=hQ (show ∀ u∈[(.slice YA yn yc:Value),.slice XA xn xc,.bool false],u.oneCell'=true from by intro v hv;simp at hv;rcases hv with rfl | rfl | rfl <;> rfl);have HBW:=hQ (show B≤(w2.alloc (.cells #[.slice YA yn yc,.slice XA xn xc,.bool false] 66)).heap.size from by have:=HH2.out.hb;rw [xI];omega);clear hb hy)
   | (at_builtin;refine Qd2 _ rfl _ _ 57 rfl B 66 iv _ 3 56 Tryz.underlying57 hiv vz0 vz1 vz2 rfl (by decide) _ ws.length (Qdc ws) rfl HVR.out ⟨w2.heap.size,0,none⟩ 1 1 [.slice YA yn yc,.slice XA xn xc,.bool false] rfl rfl HN.out HONE.out (by decide) (by unfold maxLen;omega) (by omega) HBW.out ?_;intro g3 c3 w3 hown hk3 hg hlt;have HO:=hQ hown;have HK:=hQ hk3;have HG:=hQ (Qis (n:=ws.length+1) (c:=c3) hg);clear hown hk3 hg hlt))
  go_ret
  exact (show Qt3 B (.slice LA ws.length lc) ws (.slice PA p.length pc) p (.slice SA us.length sc) us st t w (.returned (.slice (some ⟨g3,0,none⟩) (ws.length+1) c3)) w3 from
   Qt4 (y:=(.slice YA yn yc,.slice XA xn xc,false)) HH.out HBB.out ⟨HY.out,.inr ⟨q,rfl,HX2.out,rfl⟩⟩ HO.out HK.out HG.out HVT.out)
end Go.Proofs.YtjidpkcjpgdafaaGreat

/- Part 36 -/
import Derived.Test.YtfjpemdejoejbaaGreatTt35
set_option maxRecDepth 100000
set_option maxHeartbeats 4000000
namespace Go.Proofs.YtfjpemdejoejbaaGreat
open Go.RowKit
theorem Qk7 (S:Nat→Prop) (A:Option Addr) (c:Nat) (ps:List Tr) (w:World) (hp:TrAt S w (Qap ps) ⟨0,⟨#[]⟩,none,0,0,A,ps.length,c⟩) (hf:Qbb (Qap ps)=true) (hw:Qaz (Qap ps)=true) :
  Calls Tryz.prog 34 #[.slice A ps.length c] w fun e w'=>e = .returned (.bool (Qb4 ps))∧Below w.heap.size w w':=by
 have HP:=hQ hp;have HF:=hQ (Qby hf).2.2;have HWD:=hQ (Qa1 hw).2.2;have hl:ps.length≤140737488355328:=(Qby hf).2.1;clear hp hf hw
 go_enter Tryz.func34,Tryz.ntmps34
 go_wp2
 go_loopw [7] (fun i wr=>∃ k:Nat,i = .int .i64 k∧k≤ps.length∧Hid (Qmd ps k)∧Below w.heap.size w wr) (fun i _=>ps.length-(intOf i).toNat)
 case atStart=>exact ⟨0,rfl,xZ _,hQ fun j t hj=>absurd hj (by omega),xC _ _⟩
 case round =>
  obtain ⟨k,rfl,hk,hn,hb⟩:=hrel;have HN:=hn;have HBR:=hQ hb;clear hn hb
  by_cases hlt:k<ps.length
  ·obtain ⟨t,ht⟩:∃ t,ps[k]? = some t:=⟨_,xF hlt⟩;obtain ⟨b,off,hka⟩:∃ b off,A=some ⟨b,off,none⟩:=HP.out.addr.resolve_left (by show ¬ ps.length=0;omega);subst hka;obtain ⟨u,c0,c1,c2,c3,hu⟩:=(HP.out.keep HBR.out).at rfl (show (Qap ps).kids[k]? = some t from ht);have HU:=hQ hu;have HTX:=hQ hu.kl.2.2.1;have HK:=hQ ht;have cl:=xK wr _ c0;have hk0:(0:Int)≤(k:Int):=by omega
   have hk1:(k:Int)<(ps.length:Int):=by omega
   have hk2:(k:Int)+1≤1900000000000001:=by omega
   have HA:=hQ ((xC wr.heap.size wr).alloc (xA _) (trO u));have HC:=hQ (Qi8 _ S t u (wr.alloc (trO u)) (xA _) (HU.out.keep HA.out) (HF.out k t HK.out) (HWD.out k t HK.out));clear hu ht;obtain ⟨vk,vx,vla,vll,vlc,vka,vkl,vkc⟩:=u
   by_cases hx:vk=1
   ·subst hx;have HX:=hQ (show t.kind=1 from HTX.out.symm)
    by_cases hs:Qaj t=true
    ·have HS:=hQ hs;rw [hs] at HC;clear hs;go_wp2_with (go_at_call 62;refine HC.out.mono ?_;rintro e w1 ⟨rfl,hb⟩;have HB1:=hQ (HA.out.trans (hb.mono HA.out.size));clear hb)
     go_roundw
     case measure=>first | (simp [intOf];done) | (simp [intOf];omega)
     case rel=>exact ⟨k+1,by go_num,by omega,hQ (Qk2 HN.out HK.out HX.out HS.out),HBR.out.trans (HB1.out.mono HBR.out.size)⟩
    ·have hs':Qaj t=false:=by simpa using hs
     have HV:=hQ (Qhh HK.out (fun h=>hs h.2));rw [hs'] at HC;clear hs hs';go_wp2_with (go_at_call 62;refine HC.out.mono ?_;rintro e w1 ⟨rfl,hb⟩;have HB1:=hQ (HA.out.trans (hb.mono HA.out.size));clear hb)
     refine bodyPost_ret (v:=.bool false) (by simp [results,Tryz.results34,go_sem, *]) rfl ?_;rw [HV.out];exact ⟨rfl,HBR.out.trans (HB1.out.mono HBR.out.size)⟩
   ·have q1:=Qcm hx;have HV:=hQ (Qhh HK.out (fun h=>hx (HTX.out.trans h.1)))
    go_wp2
    refine bodyPost_ret (v:=.bool false) (by simp [results,Tryz.results34,go_sem, *]) rfl ?_;rw [HV.out];exact ⟨rfl,HBR.out.trans (HA.out.mono HBR.out.size)⟩
  ·obtain rfl:k=ps.length:=by omega
   have HV:=hQ (Qnk HN.out)
   go_wp2
   try rw [Exit.noGoto_ret]
   first | go_ret3 | go_ret
   rw [HV.out];exact ⟨rfl,HBR.out⟩
def Qk8 (t:Tr):Bool:=decide (5≤t.kind) && decide (t.kind≤9) && Qaj t
theorem Qui (S:Nat→Prop) (t:Tr) (v:TV) (w:World) (h:TrAt S w t v) (hf:Qbb t=true) (hw:Qaz t=true) :
  Calls Tryz.prog 54 #[.agg #[.int .i64 v.kind,.string v.text,.slice v.la v.ll v.lc,.slice v.ka v.kl v.kc]] w fun e w'=>e = .returned (.bool (Qk8 t))∧Below w.heap.size w w':=by
 have HA:=hQ ((xC w.heap.size w).alloc (xA _) (trO v));have HX:=xH w (trO v);have HC:=hQ (Qi8 _ S t v (w.alloc (trO v)) (xA _) (h.keep HA.out) hf hw);have hk:=h.kl.2.2.1;clear h hf hw;obtain ⟨vk,vx,vla,vll,vlc,vka,vkl,vkc⟩:=v;simp only at hk;have k0:=Qaa HX 0 _ rfl;have k1:=Qaa HX 1 _ rfl;have k2:=Qaa HX 2 _ rfl;have k3:=Qaa HX 3 _ rfl;clear HX;have HR:=hQ (show Qk8 t=(decide (5≤vk) && decide (vk≤9) && Qaj t) from by unfold Qk8;rw [hk]);clear hk
 by_cases h5:5≤vk
 ·have d5:=xS h5
  by_cases h9:vk≤9
  ·have d9:=xS h9;have HV:=hQ (show Qk8 t=Qaj t from by rw [HR.out,d5,d9];rfl);clear h5 h9
   go_enter Tryz.func54,Tryz.ntmps54
   go_wp2_with (go_at_call 62;refine HC.out.mono ?_;rintro e w1 ⟨rfl,hb⟩;have HB1:=hQ (HA.out.trans (hb.mono HA.out.size));clear hb)
   go_ret
   exact ⟨by rw [HV.out];first | rfl | simp,HB1.out⟩
  ·have d9:=xR h9;have HV:=hQ (show Qk8 t=false from by rw [HR.out,d5,d9];rfl);clear h5 h9 HC
   go_enter Tryz.func54,Tryz.ntmps54
   go_wp2
   go_ret
   exact ⟨by rw [HV.out];first | rfl | simp,HA.out⟩
 ·have d5:=xR h5;have HV:=hQ (show Qk8 t=false from by rw [HR.out,d5];rfl);clear h5 HC
  go_enter Tryz.func54,Tryz.ntmps54
  go_wp2
  go_ret
  exact ⟨by rw [HV.out];first | rfl | simp,HA.out⟩
theorem Qeb:(t:Tr)→Qa6 t≤Qal t
 | .mk k x ls ks=>by
  rw [Qa6,Qal]
  split
  ·have:Qo8 ks≤Qak ks:=by
    cases ks with
    | nil=>rw [Qo8];exact xZ _
    | cons a r =>
     rw [Qo8,Qak];have:=Qeb a
     omega
   omega
  ·omega
theorem Qsf (N:Nat):∀ (S:Nat→Prop) (t:Tr) (v:TV) (w:World),SizeOf.sizeOf t≤N→(∀ b,S b→b<w.heap.size)→TrAt S w t v→Qar t=true→5≤t.kind∧t.kind≤9→Qal t≤2000000 →
  Calls Tryz.prog 55 #[.agg #[.int .i64 v.kind,.string v.text,.slice v.la v.ll v.lc,.slice v.ka v.kl v.kc]] w fun e w'=>∃ u:TV,e = .returned (.tuple #[.agg #[.int .i64 u.kind,.string u.text,.slice u.la u.ll u.lc,.slice u.ka u.kl u.kc],.int .i64 (Qa6 t:Nat)])∧TrAt S w' (Qav t) u∧Below w.heap.size w w':=by
 induction N with
 | zero=>intro S t v w h;have:=Qf7 t;omega
 | succ N ih =>
  intro S t v w hN hS h hs hk hz;have HS:=hQ hS;have HTW:=hQ h;have hb0:=((xC w.heap.size w).alloc (xA _) (trO v)).alloc (by rw [xI];omega) (.cells #[.int .i64 0,.string ⟨#[]⟩,.slice none 0 0,.slice none 0 0] 25);have HB0:=hQ hb0;have HX:=hQ (show ((w.alloc (trO v)).alloc (.cells #[.int .i64 0,.string ⟨#[]⟩,.slice none 0 0,.slice none 0 0] 25)).heap[w.heap.size]? = some (trO v) from (((xC (w.alloc (trO v)).heap.size _).alloc (xA _) _).block w.heap.size (by simp)).trans (xH w _));have HRR:=hQ (show ((w.alloc (trO v)).alloc (.cells #[.int .i64 0,.string ⟨#[]⟩,.slice none 0 0,.slice none 0 0] 25)).heap[w.heap.size+1]? = some (trO ⟨0,⟨#[]⟩,none,0,0,none,0,0⟩) from by rw [←xI w (trO v)];exact xH _ _);have HT:=hQ (h.keep hb0);have e1:=h.kl.2.2.1;clear hb0;obtain ⟨vk,vx,vla,vll,vlc,vka,vkl,vkc⟩:=v;simp only at e1;have k0:=Qaa HX.out 0 _ rfl;have k1:=Qaa HX.out 1 _ rfl;have k2:=Qaa HX.out 2 _ rfl;have k3:=Qaa HX.out 3 _ rfl;have r0:=Qaa HRR.out 0 _ rfl;have r1:=Qaa HRR.out 1 _ rfl;have r2:=Qaa HRR.out 2 _ rfl;have r3:=Qaa HRR.out 3 _ rfl;have rbl:=Qab HRR.out;have rrf:=xL HRR.out
  rcases Qeu hs hk with ⟨h8,k,hkk,hk1,hk2⟩|⟨h8,_,_⟩
  ·have hv8:vk=8:=e1.trans h8;subst hv8;obtain ⟨q1,q2⟩:=Qek h8 hkk;have HQ1:=hQ q1;have HQ2:=hQ q2;have hkj:t.kids[0]? = some k:=by rw [hkk];rfl
   have hkl:vkl=1:=by have:=h.kl.1;rw [hkk] at this;exact this
   subst hkl;obtain ⟨b,off,hka⟩:∃ b off,vka=some ⟨b,off,none⟩:=h.addr.resolve_left (by rw [hkk];simp);subst hka;obtain ⟨u,c0,c1,c2,c3,hu⟩:=h.at rfl hkj;simp only [Nat.zero_mul,Nat.add_zero] at c0 c1 c2 c3;have cl:=xK w _ c0;have HC:=hQ (ih S k u _ (by have:=Qbn hkj;omega) (fun b hb=>xE (hS b hb) HB0.out.size) (hu.keep HB0.out) hk2 hk1 (by have:=Qdn hkj;omega));have hlz:Qa6 k≤2000000:=by have:=Qeb k;have:=Qdn hkj;omega
   have hl1:(Qa6 k:Int)+1≤2000001:=by omega
   have hl0:(0:Int)≤(Qa6 k:Int):=by omega
   clear ih hN hS h hs hk hz hk1 hk2 hkk hkj hu q1 q2 h8 e1
   go_enter Tryz.func55,Tryz.ntmps55
   go_wp2_with (go_at_call 55;refine HC.out.mono ?_;rintro e w1 ⟨y,rfl,hy,hb⟩;have HY:=hQ hy;have HB1:=hQ hb;have HR1:=hQ ((hb.block _ rbl).trans HRR.out);have g0:=Qaa HR1.out 0 _ rfl;have g1:=Qaa HR1.out 1 _ rfl;have g2:=Qaa HR1.out 2 _ rfl;have g3:=Qaa HR1.out 3 _ rfl;have gbl:=Qab HR1.out;have grf:=xL HR1.out;clear hy hb r0 r1 r2 r3 rbl rrf k0 k1 k2 k3 c0 c1 c2 c3)
   refine bodyPost_ret (v:=.tuple #[.agg #[.int .i64 y.kind,.string y.text,.slice y.la y.ll y.lc,.slice y.ka y.kl y.kc],.int .i64 ((Qa6 k:Int)+1)]) (by simp [results,Tryz.results55,go_sem, *]) rfl ?_;have hb2:Below w1.heap.size (Qhu w1 (w.heap.size+1) y) ((Qhu w1 (w.heap.size+1) y).alloc (trO y)):=(xC _ _).alloc (by rw [Qei];exact xA _) _
   refine ⟨y,by rw [HQ2.out];rfl,?_,?_⟩
   ·rw [HQ1.out];refine TrAt.move (w:=w1) (fun _ h=>h) (fun b hb hl=>?_) _ _ HY.out;exact (hb2.block b hl).trans (Qca y (by have:=HS.out b hb;omega))
   ·exact HB0.out.trans ((HB1.out.mono HB0.out.size).trans (((Qb6 w1 (w.heap.size+1) y).mono (Nat.le_succ _)).trans (hb2.mono (xQ HB0.out.size HB1.out.size))))
  ·have hv8:vk≠8:=fun e=>h8 (e1.symm.trans e)
   have b8:=Qcm hv8;obtain ⟨q1,q2⟩:=Qel h8;have HQ1:=hQ q1;have HQ2:=hQ q2;clear ih hN hS h hs hk hz q1 q2 h8 e1 hv8
   go_enter Tryz.func55,Tryz.ntmps55
   go_wp2
   refine bodyPost_ret (v:=.tuple #[.agg #[.int .i64 vk,.string vx,.slice vla vll vlc,.slice vka vkl vkc],.int .i64 0]) (by simp [results,Tryz.results55,go_sem, *]) rfl ?_;have hb2:Below w.heap.size w ((w.alloc (trO ⟨vk,vx,vla,vll,vlc,vka,vkl,vkc⟩)).alloc (trO ⟨vk,vx,vla,vll,vlc,vka,vkl,vkc⟩)):=((xC w.heap.size w).alloc (xA _) _).alloc (by rw [xI];omega) _;exact ⟨⟨vk,vx,vla,vll,vlc,vka,vkl,vkc⟩,by rw [HQ2.out];rfl,by rw [HQ1.out];exact HTW.out.keep hb2,hb2⟩
theorem Qsg (N:Nat):∀ (S:Nat→Prop) (t:Tr) (v:TV) (w:World),SizeOf.sizeOf t≤N→(∀ b,S b→b<w.heap.size)→TrAt S w t v→Qar t=true→5≤t.kind∧t.kind≤9→Qal t≤1000 →
  Calls Tryz.prog 55 #[.agg #[.int .i64 v.kind,.string v.text,.slice v.la v.ll v.lc,.slice v.ka v.kl v.kc]] w fun e w'=>∃ u:TV,e = .returned (.tuple #[.agg #[.int .i64 u.kind,.string u.text,.slice u.la u.ll u.lc,.slice u.ka u.kl u.kc],.int .i64 (Qa6 t:Nat)])∧TrAt S w' (Qav t) u∧Below w.heap.size w w':=fun S t v w h1 h2 h3 h4 h5 h6=>Qsf N S t v w h1 h2 h3 h4 h5 (by omega)
end Go.Proofs.YtfjpemdejoejbaaGreat
namespace Go.Proofs.YtfjpemdejoejbaaGreat
open Go.RowKit Go.Shelf
def Qgq (d:Tr):Tr:=.mk d.kind d.text [] (if d.kind=3 then [Qav ((d.kids[0]?).getD noTr)] else [Qcw 5,Qcw 15])
def Qn7 (t:Tr):Tr:=.mk t.kind t.text [] (t.kids.map Qgq)
def Qgr (ps:List Tr):List Tr:=ps.map Qn7
theorem Qnm {ps:List Tr} {m:Nat}:(Qgr ps)[m]? = (ps[m]?).map Qn7:=List.getElem?_map
theorem Qch (w:World) (a b:Obj):((w.alloc a).alloc b).heap[w.heap.size]? = some a∧((w.alloc a).alloc b).heap[w.heap.size+1]? = some b :=
 ⟨(((xC (w.alloc a).heap.size _).alloc (xA _) _).block w.heap.size (by simp)).trans (xH w _),by rw [←xI w a];exact xH _ _⟩
theorem Qc6 (w:World) (a b:Obj):Below w.heap.size w ((w.alloc a).alloc b):=((xC w.heap.size w).alloc (xA _) _).alloc (by rw [xI];omega) _
theorem Qfc {ps:List Tr} {j:Nat} {t:Tr} (h:Qb4 ps=true) (ht:ps[j]? = some t):t.kind=1∧Qaj t=true:=by
 unfold Qb4 at h;rw [List.all_eq_true] at h;have:=h t (yA ht)
 simp at this
 exact this
def OT (w:World) (B0 lo:Nat) (l:Value) (ts:List Tr):Prop:=∃ vs:List TV,vs.length=ts.length∧w.ownsRow lo 25 4 l ts.length (Qaf vs) ∧
 ∀ (i:Nat) (k:Tr) (u:TV),ts[i]? = some k→vs[i]? = some u→TrAt (fun b=>(b<B0∨lo≤b)∧b<w.heap.size∧l.ownBlock≠some b) w k u
theorem OT.nil (w:World) (B0 lo:Nat):OT w B0 lo (.slice none 0 0) []:=⟨[],rfl,World.ownsRow_nil _ _ _ _,fun i k u h=>by simp at h⟩
theorem OT.empty {w:World} {B0 lo:Nat} {l:Value} (h:w.ownsRow lo 25 4 l 0 []):OT w B0 lo l []:=⟨[],rfl,h,fun i k u h=>by simp at h⟩
theorem OT.keep {w w':World} {B0 lo:Nat} {l:Value} {ts:List Tr} (h:OT w B0 lo l ts) (hs:w.heap.size≤w'.heap.size) (hb:∀ b,b<w.heap.size→(b<B0∨lo≤b)→w'.heap[b]? = w.heap[b]?):OT w' B0 lo l ts:=by
 obtain ⟨vs,h1,h2,h3⟩:=h;refine ⟨vs,h1,⟨h2.1,h2.2.imp id fun ⟨g,cap,cur,hv,hB,hh,r⟩=>⟨g,cap,cur,hv,hB,(hb g (Qab hh) (.inr hB)).trans hh,r⟩⟩,fun i k u hk hu=>?_⟩;exact TrAt.move (fun b hb'=>⟨hb'.1,xE hb'.2.1 hs,hb'.2.2⟩) (fun b hb' hl=>hb b hl hb'.1) _ _ (h3 i k u hk hu)
theorem OT.below {w w':World} {B0 lo:Nat} {l:Value} {ts:List Tr} (h:OT w B0 lo l ts) (hb:Below w.heap.size w w'):OT w' B0 lo l ts:=h.keep hb.size fun b hl _=>hb.block b hl
theorem OT.slice {w:World} {B0 lo:Nat} {l:Value} {ts:List Tr} (h:OT w B0 lo l ts):∃ A c,l = .slice A ts.length c:=by
 obtain ⟨vs,_,h2,_⟩:=h;exact Qvv h2
theorem OT.lt {w:World} {B0 lo:Nat} {l:Value} {ts:List Tr} (h:OT w B0 lo l ts):∀ b,l.ownBlock=some b→lo≤b∧b<w.heap.size:=by
 obtain ⟨vs,_,h2,_⟩:=h;exact h2.lt
theorem OT.snoc {w w':World} {B0 lo g cap:Nat} {l:Value} {ts:List Tr} {vs:List TV} {k:Tr} {y:TV} (h1:vs.length=ts.length) (_hrow:w.ownsRow lo 25 4 l ts.length (Qaf vs))
  (h3:∀ (i:Nat) (k:Tr) (u:TV),ts[i]? = some k→vs[i]? = some u→TrAt (fun b=>(b<B0∨lo≤b)∧b<w.heap.size∧l.ownBlock≠some b) w k u)
  (hy:TrAt (fun b=>(b<B0∨lo≤b)∧b<w.heap.size∧l.ownBlock≠some b) w k y)
  (ho:w'.ownsRow lo 25 4 (.slice (some ⟨g,0,none⟩) (ts.length+1) cap) (ts.length+1) (Qaf vs ++ y.cells)) (hk:Keeps (pre l (ts.length*4)) w w') (hg:l.ownBlock=some g∨w.heap.size≤g) :
  OT w' B0 lo (.slice (some ⟨g,0,none⟩) (ts.length+1) cap) (ts ++ [k]):=by
 have hkeep:∀ (a:Tr) (u:TV),TrAt (fun b=>(b<B0∨lo≤b)∧b<w.heap.size∧l.ownBlock≠some b) w a u→TrAt (fun b=>(b<B0∨lo≤b)∧b<w'.heap.size∧(Value.slice (some ⟨g,0,none⟩) (ts.length+1) cap).ownBlock≠some b) w' a u:=fun a u ha =>
  TrAt.move (fun b hb=>⟨hb.1,xE hb.2.1 hk.size,fun e=>by
   have e':g=b:=by simpa [Value.ownBlock] using e
   subst e'
   rcases hg with h | h
   ·exact hb.2.2 h
   ·have:=hb.2.1;omega⟩) (fun b hb hl=>hk.block b hl (Qb8 hb.2.2)) _ _ ha
 refine ⟨vs ++ [y],by simp [h1],?_,fun i a u ha hu=>?_⟩
 ·have e:Qaf (vs ++ [y])=Qaf vs ++ y.cells:=by unfold Qaf;simp
  rw [e,xB,List.length_singleton];exact ho
 ·by_cases hi:i<ts.length
  ·rw [yB hi] at ha;rw [yB (by rw [h1];exact hi)] at hu;exact hkeep a u (h3 i a u ha hu)
  ·have hl:=(xP.1 ha).1;rw [xB,List.length_singleton] at hl;obtain rfl:i=ts.length:=by omega
   rw [xX (xA _),Nat.sub_self] at ha;rw [←h1,xX (xA _),Nat.sub_self] at hu;injection ha with ha;injection hu with hu;subst ha hu;exact hkeep _ _ hy
theorem Qla {S:Nat→Prop} {g:Nat} {w:World} {ks:List Tr} {us:List TV} (k:Int) (x:ByteArray) (hl:us.length=ks.length) (h:∀ (i:Nat) (a:Tr) (u:TV),ks[i]? = some a→us[i]? = some u→TrAt S w a u)
  (hg:w.heap[g]? = some (.cells (Qaf us).toArray 25 (0,0))) (hS:S g) (n:Nat) (hn:n=us.length):TrAt S w (.mk k x [] ks) ⟨k,x,none,0,0,some ⟨g,0,none⟩,n,n⟩:=by
 subst hn;unfold TrAt;refine ⟨rfl,rfl,rfl,hl,fun hne=>absurd rfl hne,fun _=>⟨g,0,rfl,hS,TrsAt.of ks 0 fun i t ht=>?_⟩,xA _,xA _⟩;have hi:=(xP.1 ht).1;obtain ⟨u,hu⟩:∃ u,us[i]? = some u:=⟨_,xF (by rw [hl];exact hi)⟩;obtain ⟨q0,q1,q2,q3⟩:=Qgm us i u hu;have hc:∀ (j:Nat) (x:Value),(Qaf us)[j]? = some x→w.cell? ⟨g,j,none⟩=some x:=fun j x hx=>Qaa hg j x (by simpa using hx)
 rw [Nat.zero_add];exact ⟨u,hc _ _ q0,hc _ _ q1,hc _ _ q2,hc _ _ q3,h i t u ht hu⟩
theorem OT.node {w:World} {B0 lo c:Nat} {A:Option Addr} {ts:List Tr} {S:Nat→Prop} (h:OT w B0 lo (.slice A ts.length c) ts) (k:Int) (x:ByteArray) (hS:∀ b,b<B0∨lo≤b→b<w.heap.size→S b):TrAt S w (.mk k x [] ts) ⟨k,x,none,0,0,A,ts.length,c⟩:=by
 obtain ⟨vs,h1,h2,h3⟩:=h;unfold TrAt;refine ⟨rfl,rfl,rfl,rfl,fun hne=>absurd rfl hne,fun hne=>?_,xA _,Qm9 h2⟩;obtain ⟨g,cap,hv,hg1,hg2⟩:=World.ownsRow.form h2 (List.length_pos_iff.2 hne);injection hv with hv1 hv2 hv3;subst hv1 hv3;have hcs:=h2.cells (g:=g) rfl
 have hc:∀ (j:Nat) (x:Value),(Qaf vs)[j]? = some x→w.cell? ⟨g,j,none⟩=some x:=fun j x hx=>by
  have h:=hcs j x hx;rw [Addr.add_lit] at h;simp only [Nat.zero_add] at h;exact h
 refine ⟨g,0,rfl,hS g (.inr hg1) hg2,TrsAt.of ts 0 fun i t ht=>?_⟩;obtain ⟨u,hu⟩:∃ u,vs[i]? = some u:=⟨_,xF (by rw [h1];exact (xP.1 ht).1)⟩;obtain ⟨q0,q1,q2,q3⟩:=Qgm vs i u hu;rw [Nat.zero_add];exact ⟨u,hc _ _ q0,hc _ _ q1,hc _ _ q2,hc _ _ q3,TrAt.move (fun b hb=>hS b hb.1 hb.2.1) (fun _ _ _=>rfl) _ _ (h3 i t u ht hu)⟩
theorem Qsi {α β:Type} (f:α→β) (l:List α) (j:Nat) (x:α) (h:l[j]? = some x):(l.take (j+1)).map f=(l.take j).map f ++ [f x]:=by
 rw [List.take_add_one,h,Option.toList_some,List.map_append];rfl
end Go.Proofs.YtfjpemdejoejbaaGreat

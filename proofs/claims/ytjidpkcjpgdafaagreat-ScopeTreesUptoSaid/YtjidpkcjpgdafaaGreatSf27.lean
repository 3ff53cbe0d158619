/- Part 27 -/
import Derived.Test.YtjidpkcjpgdafaaGreatSf22
import Derived.Test.YtjidpkcjpgdafaaGreatSf26
import Derived.Shelf.Strings.Builder1
import Derived.Lib.Builder
set_option maxRecDepth 100000
set_option maxHeartbeats 4000000
namespace Go.Proofs.YtjidpkcjpgdafaaGreat
open Go.RowKit
theorem TrAt.lows {B:Nat} {w w':World} {t:Tr} {v:TV} (h:TrAt (fun k=>k<B) w t v) (hb:Below B w w'):TrAt (fun k=>k<B) w' t v:=TrAt.move (fun _ h=>h) (fun k hk _=>hb.block k hk) t v h
theorem StrsAt.low {S:Nat→Prop} {w:World} {A:Option Addr} {l:List ByteArray} (h:StrsAt S w A l):StrsAt (fun k=>k<w.heap.size) w A l:=fun hne=>by
 obtain ⟨b,off,hA,_,hc⟩:=h hne
 refine ⟨b,off,hA,?_,hc⟩
 cases l with
 | nil=>exact absurd rfl hne
 | cons a r=>exact xK w _ (hc 0 a rfl)
mutual
theorem TrAt.low {S:Nat→Prop} {w:World}:(t:Tr)→(v:TV)→TrAt S w t v→TrAt (fun k=>k<w.heap.size) w t v
 | .mk k x ls ks,v,h=>by
  unfold TrAt at h ⊢
  obtain ⟨h1,h2,h3,h4,h5,h6,h7⟩:=h
  refine ⟨h1,h2,h3,h4,h5.low,fun hne=>?_,h7⟩
  obtain ⟨b,off,hA,hb,hc⟩:=h6 hne
  refine ⟨b,off,hA,?_,TrsAt.low b ks off hc⟩
  cases ks with
  | nil=>exact absurd rfl hne
  | cons a r =>
   unfold TrsAt at hc
   obtain ⟨u,c0,_⟩:=hc
   exact xK w _ c0
theorem TrsAt.low {S:Nat→Prop} {w:World} (b:Nat):(l:List Tr)→(off:Nat)→TrsAt S w b off l→TrsAt (fun k=>k<w.heap.size) w b off l
 | [],off,h=>trivial
 | t :: r,off,h=>by
  unfold TrsAt at h ⊢
  obtain ⟨v,c0,c1,c2,c3,ht,hr⟩:=h
  exact ⟨v,c0,c1,c2,c3,TrAt.low t v ht,TrsAt.low b r _ hr⟩
end
def Qvf (w:World) (b:Nat) (u:TV):World:=(((w.setCell ⟨b,0,none⟩ (.int .i64 u.kind)).setCell ⟨b,1,none⟩ (.string u.text)).setCell ⟨b,2,none⟩ (.slice u.la u.ll u.lc)).setCell ⟨b,3,none⟩ (.slice u.ka u.kl u.kc)
def trO (v:TV):Obj:=.cells #[.int .i64 v.kind,.string v.text,.slice v.la v.ll v.lc,.slice v.ka v.kl v.kc] 29
theorem Qh4 {w:World} {b:Nat} {v:TV} (u:TV) (h:w.heap[b]? = some (trO v)):(Qvf w b u).heap[b]? = some (trO u):=Qba (Qba (Qba (Qba h rfl) rfl) rfl) rfl
theorem Qck (w:World) (b:Nat) (u:TV):Below b w (Qvf w b u):=((((xC b w).setCell (p:=⟨b,0,none⟩) (xA _) _).setCell (p:=⟨b,1,none⟩) (xA _) _).setCell (p:=⟨b,2,none⟩) (xA _) _).setCell (p:=⟨b,3,none⟩) (xA _) _
mutual
def Qam:Tr→Nat
 | .mk _ _ _ ks=>1+Qbb ks
def Qbb:List Tr→Nat
 | []=>0
 | t :: r=>Qam t+Qbb r
end
mutual
def Qh5:Tr→Nat
 | .mk _ _ _ ks=>Qdo ks+1
def Qdo:List Tr→Nat
 | []=>0
 | t :: r=>max (Qh5 t) (Qdo r)
end
theorem Qa5 (t:Tr):Qam t=1+Qbb t.kids:=by cases t;rw [Qam];rfl
theorem Qgo:(a b:List Tr)→Qbb (a ++ b)=Qbb a+Qbb b
 | [],b=>by rw [xU,Qbb];omega
 | t :: r,b=>by rw [xV,Qbb,Qbb,Qgo r b];omega
theorem Qh6:(a b:List Tr)→Qdo (a ++ b)=max (Qdo a) (Qdo b)
 | [],b=>by rw [xU,Qdo];omega
 | t :: r,b=>by rw [xV,Qdo,Qdo,Qh6 r b];omega
theorem Qgp {α:Type} {l:List α} {j:Nat} {k:α} (h:l[j]? = some k):l.take (j+1)=l.take j ++ [k]:=by
 rw [List.take_add_one,h]
 rfl
theorem Qcl {l:List Tr} {j:Nat} {k:Tr} (h:l[j]? = some k):Qbb (l.take (j+1))=Qbb (l.take j)+Qam k:=by
 rw [Qgp h,Qgo,Qbb,Qbb]
 omega
theorem Qhi {l:List Tr} {j:Nat} {k:Tr} (h:l[j]? = some k):Qdo (l.take (j+1))=max (Qdo (l.take j)) (Qh5 k):=by
 rw [Qgp h,Qh6,Qdo,Qdo]
 omega
theorem Qcq (l:List Tr) (j:Nat):Qbb (l.take j)≤Qbb l:=by
 conv=>rhs;rw [←List.take_append_drop j l,Qgo]
 omega
theorem Qe9 {t k:Tr} {j:Nat} (h:t.kids[j]? = some k):Qam k≤Qam t:=by
 have h1:=Qcl h
 have h2:=Qcq t.kids (j+1)
 rw [Qa5 t]
 omega
mutual
theorem Qcr:(t:Tr)→Qh5 t≤Qam t
 | .mk _ _ _ ks=>by rw [Qh5,Qam];have:=Qdp ks;omega
theorem Qdp:(l:List Tr)→Qdo l≤Qbb l
 | []=>by rw [Qdo];omega
 | t :: r=>by rw [Qdo,Qbb];have:=Qcr t;have:=Qdp r;omega
end
theorem Qbn:(l:List Tr)→l.length≤Qbb l
 | []=>xZ _
 | t :: r=>by
  rw [Qbb,xD,Qa5]
  have:=Qbn r
  omega
theorem Qd1 {t k:Tr} {j:Nat} (h:t.kids[j]? = some k):SizeOf.sizeOf k<SizeOf.sizeOf t:=by
 cases t with
 | mk kd x ls ks =>
  have:=List.sizeOf_lt_of_mem (yA (show ks[j]? = some k from h))
  rw [Tr.mk.sizeOf_spec]
  omega
theorem Qh7 (t:Tr):0<SizeOf.sizeOf t:=by cases t;rw [Tr.mk.sizeOf_spec];omega
def Qo6 (f:List Tr→Nat) (t:Tr) (W:World) (n i:Value) (wr:World):Prop:=∃ j:Nat,i = .int .i64 j∧j≤t.kids.length∧n = .int .i64 (f (t.kids.take j):Nat)∧Below W.heap.size W wr
theorem Qkf (N:Nat):∀ (S:Nat→Prop) (t:Tr) (v:TV) (w:World),SizeOf.sizeOf t≤N→TrAt S w t v→Qam t≤140737488355328 →
  Calls Tryz.prog 14 #[.agg #[.int .i64 v.kind,.string v.text,.slice v.la v.ll v.lc,.slice v.ka v.kl v.kc]] w fun e w'=>e = .returned (.int .i64 (Qam t:Nat))∧Below w.heap.size w w':=by
 induction N with
 | zero=>intro S t v w h;have:=Qh7 t;omega
 | succ N ih =>
  intro S t v w hN h hz
  have HIH:=hQ ih
  have HB0:=hQ ((xC w.heap.size w).alloc (xA _) (trO v))
  have HT:=hQ (h.keep HB0.out)
  have HX:=hQ (xH w (trO v))
  have HZ:=hQ hz
  have HN:=hQ hN
  have hkl:=h.kl.1
  obtain ⟨vk,vx,vla,vll,vlc,vka,vkl,vkc⟩:=v
  simp only at hkl
  subst hkl
  have hmax:t.kids.length≤140737488355328:=by have:=Qbn t.kids;rw [Qa5] at hz;omega
  have HMX:=hQ hmax
  clear ih h hz hN
  have k3:(w.alloc (trO ⟨vk,vx,vla,vll,vlc,vka,t.kids.length,vkc⟩)).cell? ⟨w.heap.size,3,none⟩=some (.slice vka t.kids.length vkc):=Qaa HX.out 3 _ rfl
  go_enter Tryz.func14,Tryz.ntmps14
  go_wp2
  clear k3
  go_loopw [3,4] (fun n i wr=>Qo6 (fun l=>1+Qbb l) t (w.alloc (trO ⟨vk,vx,vla,vll,vlc,vka,t.kids.length,vkc⟩)) n i wr) (fun _ i _=>t.kids.length-(intOf i).toNat)
  case atStart=>exact ⟨0,rfl,xZ _,rfl,xC _ _⟩
  case round =>
   obtain ⟨j,rfl,hj,rfl,hb⟩:=hrel
   have HBR:=hQ hb
   have hx:=(hb.block w.heap.size (Qab HX.out)).trans HX.out
   have k3:wr.cell? ⟨w.heap.size,3,none⟩=some (.slice vka t.kids.length vkc):=Qaa hx 3 _ rfl
   clear hb hx
   by_cases hlt:j<t.kids.length
   ·obtain ⟨k,hk⟩:∃ k,t.kids[j]? = some k:=⟨_,xF hlt⟩
    obtain ⟨b,off,hka⟩:∃ b off,vka=some ⟨b,off,none⟩:=HT.out.addr.resolve_left (by omega)
    subst hka
    obtain ⟨u,c0,c1,c2,c3,hu⟩:=(HT.out.keep HBR.out).at rfl hk
    have HU:=hQ hu
    have HS1:=hQ (Qcl hk)
    have HD1:=hQ (Qhi hk)
    have hs:=Qcq t.kids (j+1)
    have hs0:=Qcl hk
    have hds:=Qdp (t.kids.take j)
    have hdk:=Qcr k
    have HSK:=hQ (xQ (Qe9 hk) HZ.out)
    have HNK:=hQ (show SizeOf.sizeOf k≤N from by have:=Qd1 hk;have:=HN.out;omega)
    have hz:=HZ.out
    rw [Qa5] at hz
    have q1:((Qbb (t.kids.take j):Nat):Int)+(Qam k:Nat)+1≤140737488355328:=by omega
    have q2:((Qdo (t.kids.take j):Nat):Int)≤140737488355328:=by omega
    have q3:((Qh5 k:Nat):Int)+1≤140737488355329:=by omega
    have hj0:(0:Int)≤(j:Int):=by omega
    have hj1:(j:Int)<(t.kids.length:Int):=by omega
    have hj2:(j:Int)+1≤140737488355328:=by omega
    clear hk hu hs hs0 hds hdk hz
    go_wp2_with (go_at_call 14;refine (HIH.out S k u _ HNK.out (HU.out.keep (xC _ _)) HSK.out).mono ?_;rintro e w2 ⟨rfl,hb2⟩;have HB2:=hQ (HBR.out.trans (hb2.mono HBR.out.size));clear hb2)
    go_roundw
    case rel=>exact ⟨j+1,by go_num,by omega,by show _=Value.int .i64 ((1+Qbb (t.kids.take (j+1)):Nat):Int);rw [HS1.out];go_num,HB2.out⟩
    case measure=>simp [intOf];omega
   ·have hjn:j=t.kids.length:=by omega
    subst hjn
    have HR:=hQ (show Qam t=1+Qbb (t.kids.take t.kids.length) from by rw [Qa5,List.take_length])
    have hz:=HZ.out
    have h1:=Qcr t
    have h2:=HR.out
    go_wp2
    go_ret
    exact ⟨Qbi (by rw [HR.out]),HB0.out.trans (HBR.out.mono (by simp))⟩
theorem Qv4 (N:Nat):∀ (S:Nat→Prop) (t:Tr) (v:TV) (w:World),SizeOf.sizeOf t≤N→TrAt S w t v→Qam t≤140737488355328 →
  Calls Tryz.prog 160 #[.agg #[.int .i64 v.kind,.string v.text,.slice v.la v.ll v.lc,.slice v.ka v.kl v.kc]] w fun e w'=>e = .returned (.int .i64 (Qam t:Nat))∧Below w.heap.size w w':=by
 induction N with
 | zero=>intro S t v w h;have:=Qh7 t;omega
 | succ N ih =>
  intro S t v w hN h hz
  have HIH:=hQ ih
  have HB0:=hQ ((xC w.heap.size w).alloc (xA _) (trO v))
  have HT:=hQ (h.keep HB0.out)
  have HX:=hQ (xH w (trO v))
  have HZ:=hQ hz
  have HN:=hQ hN
  have hkl:=h.kl.1
  obtain ⟨vk,vx,vla,vll,vlc,vka,vkl,vkc⟩:=v
  simp only at hkl
  subst hkl
  have hmax:t.kids.length≤140737488355328:=by have:=Qbn t.kids;rw [Qa5] at hz;omega
  have HMX:=hQ hmax
  clear ih h hz hN
  have k3:(w.alloc (trO ⟨vk,vx,vla,vll,vlc,vka,t.kids.length,vkc⟩)).cell? ⟨w.heap.size,3,none⟩=some (.slice vka t.kids.length vkc):=Qaa HX.out 3 _ rfl
  go_enter Tryz.func160,Tryz.ntmps160
  go_wp2
  clear k3
  go_loopw [3,9] (fun n i wr=>Qo6 (fun l=>1+Qbb l) t (w.alloc (trO ⟨vk,vx,vla,vll,vlc,vka,t.kids.length,vkc⟩)) n i wr) (fun _ i _=>t.kids.length-(intOf i).toNat)
  case atStart=>exact ⟨0,rfl,xZ _,rfl,xC _ _⟩
  case round =>
   obtain ⟨j,rfl,hj,rfl,hb⟩:=hrel
   have HBR:=hQ hb
   have hx:=(hb.block w.heap.size (Qab HX.out)).trans HX.out
   have k3:wr.cell? ⟨w.heap.size,3,none⟩=some (.slice vka t.kids.length vkc):=Qaa hx 3 _ rfl
   clear hb hx
   by_cases hlt:j<t.kids.length
   ·obtain ⟨k,hk⟩:∃ k,t.kids[j]? = some k:=⟨_,xF hlt⟩
    obtain ⟨b,off,hka⟩:∃ b off,vka=some ⟨b,off,none⟩:=HT.out.addr.resolve_left (by omega)
    subst hka
    obtain ⟨u,c0,c1,c2,c3,hu⟩:=(HT.out.keep HBR.out).at rfl hk
    have HU:=hQ hu
    have HS1:=hQ (Qcl hk)
    have HD1:=hQ (Qhi hk)
    have hs:=Qcq t.kids (j+1)
    have hs0:=Qcl hk
    have hds:=Qdp (t.kids.take j)
    have hdk:=Qcr k
    have HSK:=hQ (xQ (Qe9 hk) HZ.out)
    have HNK:=hQ (show SizeOf.sizeOf k≤N from by have:=Qd1 hk;have:=HN.out;omega)
    have hz:=HZ.out
    rw [Qa5] at hz
    have q1:((Qbb (t.kids.take j):Nat):Int)+(Qam k:Nat)+1≤140737488355328:=by omega
    have q2:((Qdo (t.kids.take j):Nat):Int)≤140737488355328:=by omega
    have q3:((Qh5 k:Nat):Int)+1≤140737488355329:=by omega
    have hj0:(0:Int)≤(j:Int):=by omega
    have hj1:(j:Int)<(t.kids.length:Int):=by omega
    have hj2:(j:Int)+1≤140737488355328:=by omega
    clear hk hu hs hs0 hds hdk hz
    have HA1:=hQ ((xC wr.heap.size wr).alloc (xA _) (trO u))
    go_wp2_with (go_at_call 160;refine (HIH.out S k u _ HNK.out (HU.out.keep HA1.out) HSK.out).mono ?_;rintro e w2 ⟨rfl,hb2⟩;have HB2:=hQ (HBR.out.trans ((HA1.out.trans (hb2.mono HA1.out.size)).mono HBR.out.size));clear hb2)
    go_roundw
    case rel=>exact ⟨j+1,by go_num,by omega,by show _=Value.int .i64 ((1+Qbb (t.kids.take (j+1)):Nat):Int);rw [HS1.out];go_num,HB2.out⟩
    case measure=>simp [intOf];omega
   ·have hjn:j=t.kids.length:=by omega
    subst hjn
    have HR:=hQ (show Qam t=1+Qbb (t.kids.take t.kids.length) from by rw [Qa5,List.take_length])
    have hz:=HZ.out
    have h1:=Qcr t
    have h2:=HR.out
    go_wp2
    go_ret
    exact ⟨Qbi (by rw [HR.out]),HB0.out.trans (HBR.out.mono (by simp))⟩
end Go.Proofs.YtjidpkcjpgdafaaGreat

/- Part 25 -/
import Derived.Test.YtfjpemdejoejbaaGreatTt23
import Derived.Test.YtfjpemdejoejbaaGreatTt24
import Derived.Shelf.RegionOpenPlain
import Derived.Lib.Strings
import Derived.Lib.Slices
import Derived.Lib.Walk
import Derived.Lib.Builder
import Derived.Lib.AppendStr
import Derived.Lib.UnsafeStr
import Derived.Laws.Externs
import Derived.Laws.IdiomCopy
import Derived.Laws.BitsLemmas
set_option maxRecDepth 100000
set_option maxHeartbeats 4000000
namespace Go.Proofs.YtfjpemdejoejbaaGreat
open Go.RowKit
theorem TrAt.lows {B:Nat} {w w':World} {t:Tr} {v:TV} (h:TrAt (fun k=>k<B) w t v) (hb:Below B w w'):TrAt (fun k=>k<B) w' t v:=TrAt.move (fun _ h=>h) (fun k hk _=>hb.block k hk) t v h
theorem StrsAt.low {S:Nat→Prop} {w:World} {A:Option Addr} {l:List ByteArray} (h:StrsAt S w A l):StrsAt (fun k=>k<w.heap.size) w A l:=fun hne=>by
 obtain ⟨b,off,hA,_,hc⟩:=h hne;refine ⟨b,off,hA,?_,hc⟩;cases l with
 | nil=>exact absurd rfl hne
 | cons a r=>exact xK w _ (hc 0 a rfl)
mutual
theorem TrAt.low {S:Nat→Prop} {w:World}:(t:Tr)→(v:TV)→TrAt S w t v→TrAt (fun k=>k<w.heap.size) w t v
 | .mk k x ls ks,v,h=>by
  unfold TrAt at h ⊢;obtain ⟨h1,h2,h3,h4,h5,h6,h7⟩:=h;refine ⟨h1,h2,h3,h4,h5.low,fun hne=>?_,h7⟩;obtain ⟨b,off,hA,hb,hc⟩:=h6 hne;refine ⟨b,off,hA,?_,TrsAt.low b ks off hc⟩;cases ks with
  | nil=>exact absurd rfl hne
  | cons a r =>
   unfold TrsAt at hc;obtain ⟨u,c0,_⟩:=hc;exact xK w _ c0
theorem TrsAt.low {S:Nat→Prop} {w:World} (b:Nat):(l:List Tr)→(off:Nat)→TrsAt S w b off l→TrsAt (fun k=>k<w.heap.size) w b off l
 | [],off,h=>trivial
 | t :: r,off,h=>by
  unfold TrsAt at h ⊢;obtain ⟨v,c0,c1,c2,c3,ht,hr⟩:=h;exact ⟨v,c0,c1,c2,c3,TrAt.low t v ht,TrsAt.low b r _ hr⟩
end
def Qhu (w:World) (b:Nat) (u:TV):World:=(((w.setCell ⟨b,0,none⟩ (.int .i64 u.kind)).setCell ⟨b,1,none⟩ (.string u.text)).setCell ⟨b,2,none⟩ (.slice u.la u.ll u.lc)).setCell ⟨b,3,none⟩ (.slice u.ka u.kl u.kc)
def trO (v:TV):Obj:=.cells #[.int .i64 v.kind,.string v.text,.slice v.la v.ll v.lc,.slice v.ka v.kl v.kc] 25
theorem Qg5 {w:World} {b:Nat} {v:TV} (u:TV) (h:w.heap[b]? = some (trO v)):(Qhu w b u).heap[b]? = some (trO u):=Qa5 (Qa5 (Qa5 (Qa5 h rfl) rfl) rfl) rfl
theorem Qb6 (w:World) (b:Nat) (u:TV):Below b w (Qhu w b u):=((((xC b w).setCell (p:=⟨b,0,none⟩) (xA _) _).setCell (p:=⟨b,1,none⟩) (xA _) _).setCell (p:=⟨b,2,none⟩) (xA _) _).setCell (p:=⟨b,3,none⟩) (xA _) _
mutual
def Qal:Tr→Nat
 | .mk _ _ _ ks=>1+Qak ks
def Qak:List Tr→Nat
 | []=>0
 | t :: r=>Qal t+Qak r
end
mutual
def Qju:Tr→Nat
 | .mk _ _ _ ks=>Qd8 ks+1
def Qd8:List Tr→Nat
 | []=>0
 | t :: r=>max (Qju t) (Qd8 r)
end
theorem Qa9 (t:Tr):Qal t=1+Qak t.kids:=by cases t;rw [Qal];rfl
theorem Qg6:(a b:List Tr)→Qak (a ++ b)=Qak a+Qak b
 | [],b=>by rw [xU,Qak];omega
 | t :: r,b=>by rw [xV,Qak,Qak,Qg6 r b];omega
theorem Qim:(a b:List Tr)→Qd8 (a ++ b)=max (Qd8 a) (Qd8 b)
 | [],b=>by rw [xU,Qd8];omega
 | t :: r,b=>by rw [xV,Qd8,Qd8,Qim r b];omega
theorem Qor {α:Type} {l:List α} {j:Nat} {k:α} (h:l[j]? = some k):l.take (j+1)=l.take j ++ [k]:=by
 rw [List.take_add_one,h];rfl
theorem Qd9 {l:List Tr} {j:Nat} {k:Tr} (h:l[j]? = some k):Qak (l.take (j+1))=Qak (l.take j)+Qal k:=by
 rw [Qor h,Qg6,Qak,Qak];omega
theorem Qks {l:List Tr} {j:Nat} {k:Tr} (h:l[j]? = some k):Qd8 (l.take (j+1))=max (Qd8 (l.take j)) (Qju k):=by
 rw [Qor h,Qim,Qd8,Qd8];omega
theorem Qdm (l:List Tr) (j:Nat):Qak (l.take j)≤Qak l:=by
 conv=>rhs;rw [←List.take_append_drop j l,Qg6]
 omega
theorem Qdn {t k:Tr} {j:Nat} (h:t.kids[j]? = some k):Qal k≤Qal t:=by
 have h1:=Qd9 h;have h2:=Qdm t.kids (j+1);rw [Qa9 t];omega
mutual
theorem Qeg:(t:Tr)→Qju t≤Qal t
 | .mk _ _ _ ks=>by rw [Qju,Qal];have:=Qey ks;omega
theorem Qey:(l:List Tr)→Qd8 l≤Qak l
 | []=>by rw [Qd8];omega
 | t :: r=>by rw [Qd8,Qak];have:=Qeg t;have:=Qey r;omega
end
theorem Qa4:(l:List Tr)→l.length≤Qak l
 | []=>xZ _
 | t :: r=>by
  rw [Qak,xD,Qa9];have:=Qa4 r
  omega
theorem Qbn {t k:Tr} {j:Nat} (h:t.kids[j]? = some k):SizeOf.sizeOf k<SizeOf.sizeOf t:=by
 cases t with
 | mk kd x ls ks =>
  have:=List.sizeOf_lt_of_mem (yA (show ks[j]? = some k from h))
  rw [Tr.mk.sizeOf_spec];omega
theorem Qf7 (t:Tr):0<SizeOf.sizeOf t:=by cases t;rw [Tr.mk.sizeOf_spec];omega
def Qv9 (f:List Tr→Nat) (t:Tr) (W:World) (n i:Value) (wr:World):Prop:=∃ j:Nat,i = .int .i64 j∧j≤t.kids.length∧n = .int .i64 (f (t.kids.take j):Nat)∧Below W.heap.size W wr
theorem Qwa (N:Nat):∀ (S:Nat→Prop) (t:Tr) (v:TV) (w:World),SizeOf.sizeOf t≤N→TrAt S w t v→Qal t≤140737488355328 →
  Calls Tryz.prog 25 #[.agg #[.int .i64 v.kind,.string v.text,.slice v.la v.ll v.lc,.slice v.ka v.kl v.kc]] w fun e w'=>e = .returned (.int .i64 (Qal t:Nat))∧Below w.heap.size w w':=by
 induction N with
 | zero=>intro S t v w h;have:=Qf7 t;omega
 | succ N ih =>
  intro S t v w hN h hz;have HIH:=hQ ih;have HB0:=hQ ((xC w.heap.size w).alloc (xA _) (trO v));have HT:=hQ (h.keep HB0.out);have HX:=hQ (xH w (trO v));have HZ:=hQ hz;have HN:=hQ hN;have hkl:=h.kl.1;obtain ⟨vk,vx,vla,vll,vlc,vka,vkl,vkc⟩:=v;simp only at hkl;subst hkl;have hmax:t.kids.length≤140737488355328:=by have:=Qa4 t.kids;rw [Qa9] at hz;omega
  have HMX:=hQ hmax;clear ih h hz hN;have k3:(w.alloc (trO ⟨vk,vx,vla,vll,vlc,vka,t.kids.length,vkc⟩)).cell? ⟨w.heap.size,3,none⟩=some (.slice vka t.kids.length vkc):=Qaa HX.out 3 _ rfl
  go_enter Tryz.func25,Tryz.ntmps25
  go_wp2
  clear k3
  go_loopw [3,4] (fun n i wr=>Qv9 (fun l=>1+Qak l) t (w.alloc (trO ⟨vk,vx,vla,vll,vlc,vka,t.kids.length,vkc⟩)) n i wr) (fun _ i _=>t.kids.length-(intOf i).toNat)
  case atStart=>exact ⟨0,rfl,xZ _,rfl,xC _ _⟩
  case round =>
   obtain ⟨j,rfl,hj,rfl,hb⟩:=hrel;have HBR:=hQ hb;have hx:=(hb.block w.heap.size (Qab HX.out)).trans HX.out;have k3:wr.cell? ⟨w.heap.size,3,none⟩=some (.slice vka t.kids.length vkc):=Qaa hx 3 _ rfl;clear hb hx
   by_cases hlt:j<t.kids.length
   ·obtain ⟨k,hk⟩:∃ k,t.kids[j]? = some k:=⟨_,xF hlt⟩;obtain ⟨b,off,hka⟩:∃ b off,vka=some ⟨b,off,none⟩:=HT.out.addr.resolve_left (by omega);subst hka;obtain ⟨u,c0,c1,c2,c3,hu⟩:=(HT.out.keep HBR.out).at rfl hk;have HU:=hQ hu;have HS1:=hQ (Qd9 hk);have HD1:=hQ (Qks hk);have hs:=Qdm t.kids (j+1);have hs0:=Qd9 hk;have hds:=Qey (t.kids.take j);have hdk:=Qeg k;have HSK:=hQ (xQ (Qdn hk) HZ.out);have HNK:=hQ (show SizeOf.sizeOf k≤N from by have:=Qbn hk;have:=HN.out;omega);have hz:=HZ.out;rw [Qa9] at hz;have q1:((Qak (t.kids.take j):Nat):Int)+(Qal k:Nat)+1≤140737488355328:=by omega
    have q2:((Qd8 (t.kids.take j):Nat):Int)≤140737488355328:=by omega
    have q3:((Qju k:Nat):Int)+1≤140737488355329:=by omega
    have hj0:(0:Int)≤(j:Int):=by omega
    have hj1:(j:Int)<(t.kids.length:Int):=by omega
    have hj2:(j:Int)+1≤140737488355328:=by omega
    clear hk hu hs hs0 hds hdk hz;go_wp2_with (go_at_call 25;refine (HIH.out S k u _ HNK.out (HU.out.keep (xC _ _)) HSK.out).mono ?_;rintro e w2 ⟨rfl,hb2⟩;have HB2:=hQ (HBR.out.trans (hb2.mono HBR.out.size));clear hb2)
    go_roundw
    case rel=>exact ⟨j+1,by go_num,by omega,by show _=Value.int .i64 ((1+Qak (t.kids.take (j+1)):Nat):Int);rw [HS1.out];go_num,HB2.out⟩
    case measure=>simp [intOf];omega
   ·have hjn:j=t.kids.length:=by omega
    subst hjn;have HR:=hQ (show Qal t=1+Qak (t.kids.take t.kids.length) from by rw [Qa9,List.take_length]);have hz:=HZ.out;have h1:=Qeg t;have h2:=HR.out
    go_wp2
    go_ret
    exact ⟨Qbx (by rw [HR.out]),HB0.out.trans (HBR.out.mono (by simp))⟩
end Go.Proofs.YtfjpemdejoejbaaGreat

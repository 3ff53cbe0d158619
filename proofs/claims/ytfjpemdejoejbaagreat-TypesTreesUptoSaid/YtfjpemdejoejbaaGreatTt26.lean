/- Part 26 -/
import Derived.Test.YtfjpemdejoejbaaGreatTt25
import Derived.ChangeSlices
import Derived.ProofKit
import Derived.Deep.Slices
set_option maxRecDepth 100000
set_option maxHeartbeats 4000000
namespace Go.Proofs.YtfjpemdejoejbaaGreat
open Go.RowKit Go.ChangeShapes Go.WideShapes
def Qwb (w:World) (A:Option Addr) (zs:List Int):Prop:=zs≠[]→∃ b off,A=some ⟨b,off,none⟩∧b<w.heap.size∧∀ (i:Nat) (x:Int),zs[i]? = some x→w.cell? ⟨b,off+i,none⟩=some (.int .i64 x)
section
variable {H:Type} {enc:TypeId × Value→H} {w:World} {base:Nat} {spare:Nat→Bool} {held:Bool}
theorem Qt7:Tryz.prog.cellsOf 3=1:=by kernel_rfl
end
end Go.Proofs.YtfjpemdejoejbaaGreat
namespace Go.Proofs.YtfjpemdejoejbaaGreat
open Go.RowKit
theorem Qin {α:Type} {l:List α} {j:Nat} {x:α} (h:l[j]? = some x):l.drop j=x :: l.drop (j+1):=by
 obtain ⟨hj,he⟩:=xP.1 h;rw [List.drop_eq_getElem_cons hj,he]
end Go.Proofs.YtfjpemdejoejbaaGreat
namespace Go.Proofs.YtfjpemdejoejbaaGreat
open Go.RowKit Go.Shelf
theorem mixed:Tryz.prog.follows Departure.mixedOrders=true:=by kernel_rfl
def Qcc:List ByteArray→List ByteArray→Bool
 | [],[]=>true
 | a :: r,b :: s=>(a.toList==b.toList) && Qcc r s
 | _,_=>false
mutual
def Qe1:Tr→Tr→Bool
 | .mk k x ls ks,.mk k' x' ls' ks'=>(k==k') && (x.toList==x'.toList) && Qcc ls ls' && Qeh ks ks'
def Qeh:List Tr→List Tr→Bool
 | [],[]=>true
 | a :: r,b :: s=>Qe1 a b && Qeh r s
 | _,_=>false
end
theorem Qgp (a b:Tr):Qe1 a b=((a.kind==b.kind) && (a.text.toList==b.text.toList) && Qcc a.leads b.leads && Qeh a.kids b.kids):=by
 cases a;cases b;rw [Qe1];rfl
theorem Qkt:(a b:List ByteArray)→a.length≠b.length→Qcc a b=false
 | [],[],h=>absurd rfl h
 | [],_ :: _,_=>rfl
 | _ :: _,[],_=>rfl
 | a :: r,b :: s,h=>by
  unfold Qcc;rw [Qkt r s (by simpa using h),Bool.and_false]
theorem Qos:(a b:List Tr)→a.length≠b.length→Qeh a b=false
 | [],[],h=>absurd rfl h
 | [],_ :: _,_=>by unfold Qeh;rfl
 | _ :: _,[],_=>by unfold Qeh;rfl
 | a :: r,b :: s,h=>by
  rw [Qeh,Qos r s (by simpa using h),Bool.and_false]
theorem Qwc:Qeh [] [] = true:=by rw [Qeh]
theorem Qot (a b:ByteArray) (r s:List ByteArray):Qcc (a :: r) (b :: s)=((a.toList==b.toList) && Qcc r s):=rfl
theorem Qt8 (a b:Tr) (r s:List Tr):Qeh (a :: r) (b :: s)=(Qe1 a b && Qeh r s):=by rw [Qeh]
theorem StrsAt.at {S:Nat→Prop} {w:World} {A:Option Addr} {l:List ByteArray} (h:StrsAt S w A l) {j:Nat} (hj:j<l.length):∃ b off,A=some ⟨b,off,none⟩∧∀ (i:Nat) (x:ByteArray),l[i]? = some x→w.cell? ⟨b,off+i,none⟩=some (.string x):=by
 obtain ⟨b,off,hA,_,hc⟩:=h (fun e=>by rw [e] at hj;simp at hj);exact ⟨b,off,hA,hc⟩
theorem StrsAt.keep {S:Nat→Prop} {w w':World} {A:Option Addr} {l:List ByteArray} (h:StrsAt S w A l) (hb:Below w.heap.size w w'):StrsAt S w' A l:=h.move (fun _ h=>h) (fun k _ hlt=>hb.block k hlt)
def Zcs (a b:List ByteArray) (w:World) (i:Value) (wr:World):Prop:=∃ j:Nat,i = .int .i64 j∧j≤a.length∧Qcc a b=Qcc (a.drop j) (b.drop j)∧Below w.heap.size w wr
theorem Qi9 (S S':Nat→Prop) (A B:Option Addr) (ca cb:Nat) (a b:List ByteArray) (w:World) (ha:StrsAt S w A a) (hb:StrsAt S' w B b) (hm:a.length≤140737488355328) :
  Calls Tryz.prog 33 #[.slice A a.length ca,.slice B b.length cb] w fun e w'=>e = .returned (.bool (Qcc a b))∧Below w.heap.size w w':=by
 have HA:=hQ ha;have HB:=hQ hb;clear ha hb
 by_cases hl:a.length=b.length
 ·have hne:((a.length:Int) != (b.length:Int))=false:=by rw [hl];simp
  go_enter Tryz.func33,Tryz.ntmps33
  go_wp2
  go_loopw [5] (fun i wr=>Zcs a b w i wr) (fun i _=>a.length-(intOf i).toNat)
  case atStart=>exact ⟨0,rfl,xZ _,rfl,xC _ _⟩
  case round =>
   obtain ⟨j,rfl,hj,hf,hbr⟩:=hrel;have HF:=hQ hf;have HBR:=hQ hbr;clear hf hbr
   by_cases hlt:j<a.length
   ·obtain ⟨x,hx⟩:∃ x,a[j]? = some x:=⟨_,xF hlt⟩;obtain ⟨y,hy⟩:∃ y,b[j]? = some y:=⟨_,xF (by omega)⟩;obtain ⟨xb,xo,rfl,hxc⟩:=(HA.out.keep HBR.out).at hlt;obtain ⟨yb,yo,rfl,hyc⟩:=(HB.out.keep HBR.out).at (j:=j) (by omega);have c0:=hxc j x hx;have d0:=hyc j y hy;have HD:=hQ (show Qcc a b=((x.toList==y.toList) && Qcc (a.drop (j+1)) (b.drop (j+1))) from by rw [HF.out,Qin hx,Qin hy,Qot]);have hjb:(j:Int)<(b.length:Int):=by omega
    have hja:(j:Int)<(a.length:Int):=by omega
    have hj0:(0:Int)≤(j:Int):=by omega
    clear hxc hyc hx hy
    cases hxy:(x.toList==y.toList)
    ·have HR:=hQ (show Qcc a b=false from by rw [HD.out,hxy,Bool.false_and]);go_wp2_with fail
     first | go_region_o | go_region
     all_goals
      go_simp
      go_wp2
      go_ret
      exact ⟨by rw [HR.out];rfl,HBR.out.drew⟩
    ·have HR:=hQ (show Qcc a b=Qcc (a.drop (j+1)) (b.drop (j+1)) from by rw [HD.out,hxy,Bool.true_and]);go_wp2_with fail
     first | go_region_o | go_region
     all_goals
      go_wp2
      go_roundw
      case measure=>simp [intOf];omega
      case rel=>exact ⟨j+1,by go_num,by omega,HR.out,HBR.out.drew⟩
   ·have HR:=hQ (show Qcc a b=true from by rw [HF.out,List.drop_eq_nil_of_le (by omega),List.drop_eq_nil_of_le (by omega)];rfl)
    go_wp2
    go_ret
    exact ⟨by rw [HR.out];rfl,HBR.out⟩
 ·have hne:((a.length:Int) != (b.length:Int))=true:=by simp;omega
  have HR:=hQ (Qkt a b hl)
  go_enter Tryz.func33,Tryz.ntmps33
  go_wp2
  go_ret
  exact ⟨by rw [HR.out];rfl,xC _ _⟩
def KidsIn (S:Nat→Prop) (w:World) (A:Option Addr) (l:List Tr):Prop:=l≠[]→∃ b off,A=some ⟨b,off,none⟩∧S b∧TrsAt S w b off l
theorem TrAt.kidsIn {S:Nat→Prop} {w:World} {t:Tr} {v:TV} (h:TrAt S w t v):KidsIn S w v.ka t.kids:=by
 cases t with
 | mk k x ls ks =>
  unfold TrAt at h;exact h.2.2.2.2.2.1
theorem TrAt.strsIn {S:Nat→Prop} {w:World} {t:Tr} {v:TV} (h:TrAt S w t v):StrsAt S w v.la t.leads:=by
 cases t with
 | mk k x ls ks =>
  unfold TrAt at h;exact h.2.2.2.2.1
theorem KidsIn.at {S:Nat→Prop} {w:World} {A:Option Addr} {l:List Tr} (h:KidsIn S w A l) {j:Nat} {k:Tr} (hk:l[j]? = some k):∃ b off,A=some ⟨b,off,none⟩∧∃ u:TV,w.cell? ⟨b,off+j*4,none⟩=some (.int .i64 u.kind)∧w.cell? ⟨b,off+j*4+1,none⟩=some (.string u.text)∧w.cell? ⟨b,off+j*4+2,none⟩=some (.slice u.la u.ll u.lc)∧w.cell? ⟨b,off+j*4+3,none⟩=some (.slice u.ka u.kl u.kc)∧TrAt S w k u:=by
 obtain ⟨b,off,hA,hS,ht⟩:=h (fun e=>by rw [e] at hk;simp at hk);exact ⟨b,off,hA,TrsAt.get l off ht j k hk⟩
def Qt9 (f:Nat) (N:Nat):Prop:=∀ (S S':Nat→Prop) (a b:Tr) (u v:TV) (w:World),SizeOf.sizeOf a≤N→TrAt S w a u→TrAt S' w b v→Qbb a=true →
  Calls Tryz.prog f #[.agg #[.int .i64 u.kind,.string u.text,.slice u.la u.ll u.lc,.slice u.ka u.kl u.kc],.agg #[.int .i64 v.kind,.string v.text,.slice v.la v.ll v.lc,.slice v.ka v.kl v.kc]] w fun e w'=>e = .returned (.bool (Qe1 a b))∧Below w.heap.size w w'
def EqAt (a b:List Tr) (w:World) (i:Value) (wr:World):Prop:=∃ j:Nat,i = .int .i64 j∧j≤a.length∧Qeh a b=Qeh (a.drop j) (b.drop j)∧Below w.heap.size w wr
theorem Zct {N:Nat} (ih:Qt9 10 N) (S S':Nat→Prop) (a b:Tr) (u v:TV) (w:World) (hN:SizeOf.sizeOf a≤N+1) (ha:TrAt S w a u) (hb:TrAt S' w b v) (hs:Qbb a=true) (hq:(u.kind==v.kind)=false) :
  Calls Tryz.prog 10 #[.agg #[.int .i64 u.kind,.string u.text,.slice u.la u.ll u.lc,.slice u.ka u.kl u.kc],.agg #[.int .i64 v.kind,.string v.text,.slice v.la v.ll v.lc,.slice v.ka v.kl v.kc]] w fun e w'=>e = .returned (.bool (Qe1 a b))∧Below w.heap.size w w':=by
  have HIH:=hQ ih;have HXQ:=hQ hq;obtain ⟨ua,ub,uk,ux⟩:=ha.kl;obtain ⟨va,vb,vk,vx⟩:=hb.kl;have hba:Below w.heap.size w ((w.alloc (trO u)).alloc (trO v)):=((xC _ _).alloc (xA _) _).alloc (by rw [xI];omega) _;have HBA:=hQ hba;have HTA:=hQ (ha.keep hba);have HTB:=hQ (hb.keep hba);have hX:((w.alloc (trO u)).alloc (trO v)).heap[w.heap.size]? = some (trO u):=(((xC (w.alloc (trO u)).heap.size (w.alloc (trO u))).alloc (xA _) (trO v)).block w.heap.size (by simp)).trans (xH w (trO u));have hY:((w.alloc (trO u)).alloc (trO v)).heap[w.heap.size+1]? = some (trO v):=by rw [←xI w (trO u)];exact xH _ _
  have HX:=hQ hX;have HY:=hQ hY;obtain ⟨hl1,hl2,hl3⟩:=Qby hs;have HL1:=hQ hl1;have HL2:=hQ hl2
  have HNK:=hQ (show ∀ k∈a.kids,SizeOf.sizeOf k≤N∧Qbb k=true from fun k hk=>by
   obtain ⟨j,hj⟩:=List.getElem?_of_mem hk;exact ⟨by have:=Qbn hj;omega,hl3 j k hj⟩)
  have HE:=hQ (Qgp a b);rw [←uk,←vk,←ux,←vx] at HE;clear HXQ;obtain ⟨uk',ux',ula,ull,ulc,uka,ukl,ukc⟩:=u;obtain ⟨vk',vx',vla,vll,vlc,vka,vkl,vkc⟩:=v;simp only at ua ub va vb HE;subst ua ub va vb;have a0:=Qaa hX 0 _ rfl;have a1:=Qaa hX 1 _ rfl;have a2:=Qaa hX 2 _ rfl;have a3:=Qaa hX 3 _ rfl;have b0:=Qaa hY 0 _ rfl;have b1:=Qaa hY 1 _ rfl;have b2:=Qaa hY 2 _ rfl;have b3:=Qaa hY 3 _ rfl;clear ha hb hs hba hX hY hl1 hl2 hl3 ih uk vk ux vx hN;simp only at hq;have hk:=hq;have hk':(uk' != vk')=true:=by simp [bne,hk]
  have HR:=hQ (show Qe1 a b=false from by rw [HE.out,hk];rfl)
  go_enter Tryz.func10,Tryz.ntmps10
  go_wp2
  go_ret
  exact ⟨by rw [HR.out];rfl,HBA.out⟩
theorem Zcu {N:Nat} (ih:Qt9 10 N) (S S':Nat→Prop) (a b:Tr) (u v:TV) (w:World) (hN:SizeOf.sizeOf a≤N+1) (ha:TrAt S w a u) (hb:TrAt S' w b v) (hs:Qbb a=true) (hq:(u.kind==v.kind)=true∧(u.text.toList==v.text.toList)=false) :
  Calls Tryz.prog 10 #[.agg #[.int .i64 u.kind,.string u.text,.slice u.la u.ll u.lc,.slice u.ka u.kl u.kc],.agg #[.int .i64 v.kind,.string v.text,.slice v.la v.ll v.lc,.slice v.ka v.kl v.kc]] w fun e w'=>e = .returned (.bool (Qe1 a b))∧Below w.heap.size w w':=by
  have HIH:=hQ ih;have HXQ:=hQ hq;obtain ⟨ua,ub,uk,ux⟩:=ha.kl;obtain ⟨va,vb,vk,vx⟩:=hb.kl;have hba:Below w.heap.size w ((w.alloc (trO u)).alloc (trO v)):=((xC _ _).alloc (xA _) _).alloc (by rw [xI];omega) _;have HBA:=hQ hba;have HTA:=hQ (ha.keep hba);have HTB:=hQ (hb.keep hba);have hX:((w.alloc (trO u)).alloc (trO v)).heap[w.heap.size]? = some (trO u):=(((xC (w.alloc (trO u)).heap.size (w.alloc (trO u))).alloc (xA _) (trO v)).block w.heap.size (by simp)).trans (xH w (trO u));have hY:((w.alloc (trO u)).alloc (trO v)).heap[w.heap.size+1]? = some (trO v):=by rw [←xI w (trO u)];exact xH _ _
  have HX:=hQ hX;have HY:=hQ hY;obtain ⟨hl1,hl2,hl3⟩:=Qby hs;have HL1:=hQ hl1;have HL2:=hQ hl2
  have HNK:=hQ (show ∀ k∈a.kids,SizeOf.sizeOf k≤N∧Qbb k=true from fun k hk=>by
   obtain ⟨j,hj⟩:=List.getElem?_of_mem hk;exact ⟨by have:=Qbn hj;omega,hl3 j k hj⟩)
  have HE:=hQ (Qgp a b);rw [←uk,←vk,←ux,←vx] at HE;clear HXQ;obtain ⟨uk',ux',ula,ull,ulc,uka,ukl,ukc⟩:=u;obtain ⟨vk',vx',vla,vll,vlc,vka,vkl,vkc⟩:=v;simp only at ua ub va vb HE;subst ua ub va vb;have a0:=Qaa hX 0 _ rfl;have a1:=Qaa hX 1 _ rfl;have a2:=Qaa hX 2 _ rfl;have a3:=Qaa hX 3 _ rfl;have b0:=Qaa hY 0 _ rfl;have b1:=Qaa hY 1 _ rfl;have b2:=Qaa hY 2 _ rfl;have b3:=Qaa hY 3 _ rfl;clear ha hb hs hba hX hY hl1 hl2 hl3 ih uk vk ux vx hN;simp only at hq;obtain ⟨hk,hx⟩:=hq;have hk':(uk' != vk')=false:=by simp [bne,hk]
  have HR:=hQ (show Qe1 a b=false from by rw [HE.out,hx,Bool.and_false];rfl)
  go_enter Tryz.func10,Tryz.ntmps10
  go_wp2
  go_ret
  exact ⟨by rw [HR.out];rfl,HBA.out⟩
theorem Zcv {N:Nat} (ih:Qt9 10 N) (S S':Nat→Prop) (a b:Tr) (u v:TV) (w:World) (hN:SizeOf.sizeOf a≤N+1) (ha:TrAt S w a u) (hb:TrAt S' w b v) (hs:Qbb a=true) (hq:(u.kind==v.kind)=true∧(u.text.toList==v.text.toList)=true∧Qcc a.leads b.leads=false) :
  Calls Tryz.prog 10 #[.agg #[.int .i64 u.kind,.string u.text,.slice u.la u.ll u.lc,.slice u.ka u.kl u.kc],.agg #[.int .i64 v.kind,.string v.text,.slice v.la v.ll v.lc,.slice v.ka v.kl v.kc]] w fun e w'=>e = .returned (.bool (Qe1 a b))∧Below w.heap.size w w':=by
  have HIH:=hQ ih;have HXQ:=hQ hq;obtain ⟨ua,ub,uk,ux⟩:=ha.kl;obtain ⟨va,vb,vk,vx⟩:=hb.kl;have hba:Below w.heap.size w ((w.alloc (trO u)).alloc (trO v)):=((xC _ _).alloc (xA _) _).alloc (by rw [xI];omega) _;have HBA:=hQ hba;have HTA:=hQ (ha.keep hba);have HTB:=hQ (hb.keep hba);have hX:((w.alloc (trO u)).alloc (trO v)).heap[w.heap.size]? = some (trO u):=(((xC (w.alloc (trO u)).heap.size (w.alloc (trO u))).alloc (xA _) (trO v)).block w.heap.size (by simp)).trans (xH w (trO u));have hY:((w.alloc (trO u)).alloc (trO v)).heap[w.heap.size+1]? = some (trO v):=by rw [←xI w (trO u)];exact xH _ _
  have HX:=hQ hX;have HY:=hQ hY;obtain ⟨hl1,hl2,hl3⟩:=Qby hs;have HL1:=hQ hl1;have HL2:=hQ hl2
  have HNK:=hQ (show ∀ k∈a.kids,SizeOf.sizeOf k≤N∧Qbb k=true from fun k hk=>by
   obtain ⟨j,hj⟩:=List.getElem?_of_mem hk;exact ⟨by have:=Qbn hj;omega,hl3 j k hj⟩)
  have HE:=hQ (Qgp a b);rw [←uk,←vk,←ux,←vx] at HE;clear HXQ;obtain ⟨uk',ux',ula,ull,ulc,uka,ukl,ukc⟩:=u;obtain ⟨vk',vx',vla,vll,vlc,vka,vkl,vkc⟩:=v;simp only at ua ub va vb HE;subst ua ub va vb;have a0:=Qaa hX 0 _ rfl;have a1:=Qaa hX 1 _ rfl;have a2:=Qaa hX 2 _ rfl;have a3:=Qaa hX 3 _ rfl;have b0:=Qaa hY 0 _ rfl;have b1:=Qaa hY 1 _ rfl;have b2:=Qaa hY 2 _ rfl;have b3:=Qaa hY 3 _ rfl;clear ha hb hs hba hX hY hl1 hl2 hl3 ih uk vk ux vx hN;simp only at hq;obtain ⟨hk,hx,ht⟩:=hq;have hk':(uk' != vk')=false:=by simp [bne,hk]
  have HR:=hQ (show Qe1 a b=false from by rw [HE.out,ht,Bool.and_false];rfl)
  go_enter Tryz.func10,Tryz.ntmps10
  go_wp2_with (go_at_call 33;refine (Qi9 _ _ _ _ _ _ _ _ _ HTA.out.strsIn HTB.out.strsIn HL1.out).mono ?_;rw [ht];rintro e w2 ⟨rfl,hb2⟩;have HB2:=hQ (HBA.out.trans (hb2.mono HBA.out.size));clear hb2)
  go_ret
  exact ⟨by rw [HR.out];rfl,HB2.out⟩
theorem Zcw {N:Nat} (ih:Qt9 10 N) (S S':Nat→Prop) (a b:Tr) (u v:TV) (w:World) (hN:SizeOf.sizeOf a≤N+1) (ha:TrAt S w a u) (hb:TrAt S' w b v) (hs:Qbb a=true) (hq:(u.kind==v.kind)=true∧(u.text.toList==v.text.toList)=true∧Qcc a.leads b.leads=true∧a.kids.length≠b.kids.length) :
  Calls Tryz.prog 10 #[.agg #[.int .i64 u.kind,.string u.text,.slice u.la u.ll u.lc,.slice u.ka u.kl u.kc],.agg #[.int .i64 v.kind,.string v.text,.slice v.la v.ll v.lc,.slice v.ka v.kl v.kc]] w fun e w'=>e = .returned (.bool (Qe1 a b))∧Below w.heap.size w w':=by
  have HIH:=hQ ih;have HXQ:=hQ hq;obtain ⟨ua,ub,uk,ux⟩:=ha.kl;obtain ⟨va,vb,vk,vx⟩:=hb.kl;have hba:Below w.heap.size w ((w.alloc (trO u)).alloc (trO v)):=((xC _ _).alloc (xA _) _).alloc (by rw [xI];omega) _;have HBA:=hQ hba;have HTA:=hQ (ha.keep hba);have HTB:=hQ (hb.keep hba);have hX:((w.alloc (trO u)).alloc (trO v)).heap[w.heap.size]? = some (trO u):=(((xC (w.alloc (trO u)).heap.size (w.alloc (trO u))).alloc (xA _) (trO v)).block w.heap.size (by simp)).trans (xH w (trO u));have hY:((w.alloc (trO u)).alloc (trO v)).heap[w.heap.size+1]? = some (trO v):=by rw [←xI w (trO u)];exact xH _ _
  have HX:=hQ hX;have HY:=hQ hY;obtain ⟨hl1,hl2,hl3⟩:=Qby hs;have HL1:=hQ hl1;have HL2:=hQ hl2
  have HNK:=hQ (show ∀ k∈a.kids,SizeOf.sizeOf k≤N∧Qbb k=true from fun k hk=>by
   obtain ⟨j,hj⟩:=List.getElem?_of_mem hk;exact ⟨by have:=Qbn hj;omega,hl3 j k hj⟩)
  have HE:=hQ (Qgp a b);rw [←uk,←vk,←ux,←vx] at HE;clear HXQ;obtain ⟨uk',ux',ula,ull,ulc,uka,ukl,ukc⟩:=u;obtain ⟨vk',vx',vla,vll,vlc,vka,vkl,vkc⟩:=v;simp only at ua ub va vb HE;subst ua ub va vb;have a0:=Qaa hX 0 _ rfl;have a1:=Qaa hX 1 _ rfl;have a2:=Qaa hX 2 _ rfl;have a3:=Qaa hX 3 _ rfl;have b0:=Qaa hY 0 _ rfl;have b1:=Qaa hY 1 _ rfl;have b2:=Qaa hY 2 _ rfl;have b3:=Qaa hY 3 _ rfl;clear ha hb hs hba hX hY hl1 hl2 hl3 ih uk vk ux vx hN;simp only at hq;obtain ⟨hk,hx,ht,hl⟩:=hq;have hk':(uk' != vk')=false:=by simp [bne,hk]
  have HRR:=hQ (show Qe1 a b=Qeh a.kids b.kids from by rw [HE.out,hk,hx,ht];rfl);have hne:((a.kids.length:Int) != (b.kids.length:Int))=true:=by simp;omega
  have HR:=hQ (Qos a.kids b.kids hl)
  go_enter Tryz.func10,Tryz.ntmps10
  go_wp2_with (go_at_call 33;refine (Qi9 _ _ _ _ _ _ _ _ _ HTA.out.strsIn HTB.out.strsIn HL1.out).mono ?_;rw [ht];rintro e w2 ⟨rfl,hb2⟩;have HB2:=hQ (HBA.out.trans (hb2.mono HBA.out.size));have HX2:=hQ ((hb2.block w.heap.size (Qab HX.out)).trans HX.out);have HY2:=hQ ((hb2.block (w.heap.size+1) (Qab HY.out)).trans HY.out);clear hb2 a0 a1 a2 a3 b0 b1 b2 b3;have a3:=Qaa HX2.out 3 _ rfl;have b3:=Qaa HY2.out 3 _ rfl;have alt:=Qab HX2.out;have blt:=Qab HY2.out)
  go_ret
  exact ⟨by rw [HRR.out,HR.out];rfl,HB2.out⟩
theorem Zcx {N:Nat} (ih:Qt9 10 N) (S S':Nat→Prop) (a b:Tr) (u v:TV) (w:World) (hN:SizeOf.sizeOf a≤N+1) (ha:TrAt S w a u) (hb:TrAt S' w b v) (hs:Qbb a=true) (hq:(u.kind==v.kind)=true∧(u.text.toList==v.text.toList)=true∧Qcc a.leads b.leads=true∧a.kids.length=b.kids.length) :
  Calls Tryz.prog 10 #[.agg #[.int .i64 u.kind,.string u.text,.slice u.la u.ll u.lc,.slice u.ka u.kl u.kc],.agg #[.int .i64 v.kind,.string v.text,.slice v.la v.ll v.lc,.slice v.ka v.kl v.kc]] w fun e w'=>e = .returned (.bool (Qe1 a b))∧Below w.heap.size w w':=by
  have HIH:=hQ ih;have HXQ:=hQ hq;obtain ⟨ua,ub,uk,ux⟩:=ha.kl;obtain ⟨va,vb,vk,vx⟩:=hb.kl;have hba:Below w.heap.size w ((w.alloc (trO u)).alloc (trO v)):=((xC _ _).alloc (xA _) _).alloc (by rw [xI];omega) _;have HBA:=hQ hba;have HTA:=hQ (ha.keep hba);have HTB:=hQ (hb.keep hba);have hX:((w.alloc (trO u)).alloc (trO v)).heap[w.heap.size]? = some (trO u):=(((xC (w.alloc (trO u)).heap.size (w.alloc (trO u))).alloc (xA _) (trO v)).block w.heap.size (by simp)).trans (xH w (trO u));have hY:((w.alloc (trO u)).alloc (trO v)).heap[w.heap.size+1]? = some (trO v):=by rw [←xI w (trO u)];exact xH _ _
  have HX:=hQ hX;have HY:=hQ hY;obtain ⟨hl1,hl2,hl3⟩:=Qby hs;have HL1:=hQ hl1;have HL2:=hQ hl2
  have HNK:=hQ (show ∀ k∈a.kids,SizeOf.sizeOf k≤N∧Qbb k=true from fun k hk=>by
   obtain ⟨j,hj⟩:=List.getElem?_of_mem hk;exact ⟨by have:=Qbn hj;omega,hl3 j k hj⟩)
  have HE:=hQ (Qgp a b);rw [←uk,←vk,←ux,←vx] at HE;clear HXQ;obtain ⟨uk',ux',ula,ull,ulc,uka,ukl,ukc⟩:=u;obtain ⟨vk',vx',vla,vll,vlc,vka,vkl,vkc⟩:=v;simp only at ua ub va vb HE;subst ua ub va vb;have a0:=Qaa hX 0 _ rfl;have a1:=Qaa hX 1 _ rfl;have a2:=Qaa hX 2 _ rfl;have a3:=Qaa hX 3 _ rfl;have b0:=Qaa hY 0 _ rfl;have b1:=Qaa hY 1 _ rfl;have b2:=Qaa hY 2 _ rfl;have b3:=Qaa hY 3 _ rfl;clear ha hb hs hba hX hY hl1 hl2 hl3 ih uk vk ux vx hN;simp only at hq;obtain ⟨hk,hx,ht,hl⟩:=hq;have hk':(uk' != vk')=false:=by simp [bne,hk]
  have HRR:=hQ (show Qe1 a b=Qeh a.kids b.kids from by rw [HE.out,hk,hx,ht];rfl);have hne:((a.kids.length:Int) != (b.kids.length:Int))=false:=by rw [hl];simp
  have HLN:=hQ hl;clear hl
  go_enter Tryz.func10,Tryz.ntmps10
  go_wp2_with fail
  go_at_call 33;refine (Qi9 _ _ _ _ _ _ _ _ _ HTA.out.strsIn HTB.out.strsIn HL1.out).mono ?_;rw [ht];rintro e w2 ⟨rfl,hb2⟩;have HB2:=hQ (HBA.out.trans (hb2.mono HBA.out.size));have HTA2:=hQ (HTA.out.keep hb2);have HTB2:=hQ (HTB.out.keep hb2);have HX2:=hQ ((hb2.block w.heap.size (Qab HX.out)).trans HX.out);have HY2:=hQ ((hb2.block (w.heap.size+1) (Qab HY.out)).trans HY.out);clear hb2 a0 a1 a2 a3 b0 b1 b2 b3;have a3:=Qaa HX2.out 3 _ rfl;have b3:=Qaa HY2.out 3 _ rfl;have alt:=Qab HX2.out;have blt:=Qab HY2.out
  go_wp2
  clear a3 b3 alt blt
  go_loopw [5] (fun i wr=>EqAt a.kids b.kids w2 i wr) (fun i _=>a.kids.length-(intOf i).toNat)
  case atStart=>exact ⟨0,rfl,xZ _,rfl,xC _ _⟩
  case round =>
   obtain ⟨j,rfl,hj,hf,hbr⟩:=hrel;have HF:=hQ hf;have HBR:=hQ hbr;have hX3:=(hbr.block w.heap.size (Qab HX2.out)).trans HX2.out;have hY3:=(hbr.block (w.heap.size+1) (Qab HY2.out)).trans HY2.out;have a3:=Qaa hX3 3 _ rfl;have b3:=Qaa hY3 3 _ rfl;have alt:=Qab hX3;have blt:=Qab hY3;clear hf hbr hX3 hY3
   by_cases hlt:j<a.kids.length
   ·obtain ⟨x,hxj⟩:∃ x,a.kids[j]? = some x:=⟨_,xF hlt⟩;obtain ⟨y,hy⟩:∃ y,b.kids[j]? = some y:=⟨_,xF (by have:=HLN.out;omega)⟩;obtain ⟨xb,xo,rfl,u,c0,c1,c2,c3,hu⟩:=(HTA2.out.keep HBR.out).kidsIn.at hxj;obtain ⟨yb,yo,rfl,v,d0,d1,d2,d3,hv⟩:=(HTB2.out.keep HBR.out).kidsIn.at hy;have cbl:xb<wr.heap.size:=xK wr _ c3;have dbl:yb<wr.heap.size:=xK wr _ d3;obtain ⟨hn1,hn2⟩:=HNK.out x (yA hxj);have HN1:=hQ hn1;have HN2:=hQ hn2;have HU:=hQ hu;have HV:=hQ hv;have HD:=hQ (show Qeh a.kids b.kids=(Qe1 x y && Qeh (a.kids.drop (j+1)) (b.kids.drop (j+1))) from by rw [HF.out,Qin hxj,Qin hy,Qt8]);have hjb:(j:Int)<(b.kids.length:Int):=by have:=HLN.out;omega
    have hja:(j:Int)<(a.kids.length:Int):=by omega
    have hj0:(0:Int)≤(j:Int):=by omega
    have HW:=hQ (show wrap64 ((j:Int)+1)=(j:Int)+1 from by have:=HL2.out;unfold wrap64;omega);clear hxj hy hu hv hn1 hn2 hk hx ht;have HJ1:=hQ (show j+1≤a.kids.length from by omega)
    cases hxy:Qe1 x y
    ·have HR:=hQ (show Qeh a.kids b.kids=false from by rw [HD.out,hxy,Bool.false_and]);go_wp2_with fail
     go_still_tail 10,(by kernel_rfl)
     change wpList _ _ _ _ _ wr.drew
     have HBD:=hQ (show Below wr.heap.size wr wr.drew from (xC _ _).drew);clear c0 c1 c2 c3 d0 d1 d2 d3 a3 b3 alt blt cbl dbl hja hjb hj0
     generalize wr.drew=wd at HBD ⊢
     repeat (first | go_values | go_skip | go_guarded | go_step | go_upon)
     go_at_call 10;refine (HIH.out S S' x y u v _ HN1.out (HU.out.keep HBD.out) (HV.out.keep HBD.out) HN2.out).mono ?_;rw [hxy];rintro e w4 ⟨rfl,hb4⟩;have HB4:=hQ (HBR.out.trans ((HBD.out.trans (hb4.mono HBD.out.size)).mono HBR.out.size));clear hb4
     dsimp only
     go_step
     go_step
     go_step
     go_step
     go_step
     go_step
     go_step
     go_wp2
     go_ret
     exact ⟨by rw [HRR.out,HR.out];rfl,HB2.out.trans (HB4.out.mono HB2.out.size)⟩
    ·have HR:=hQ (show Qeh a.kids b.kids=Qeh (a.kids.drop (j+1)) (b.kids.drop (j+1)) from by rw [HD.out,hxy,Bool.true_and]);go_wp2_with fail
     go_still_tail 10,(by kernel_rfl)
     change wpList _ _ _ _ _ wr.drew
     have HBD:=hQ (show Below wr.heap.size wr wr.drew from (xC _ _).drew);clear c0 c1 c2 c3 d0 d1 d2 d3 a3 b3 alt blt cbl dbl hja hjb hj0
     generalize wr.drew=wd at HBD ⊢
     repeat (first | go_values | go_skip | go_guarded | go_step | go_upon)
     go_at_call 10;refine (HIH.out S S' x y u v _ HN1.out (HU.out.keep HBD.out) (HV.out.keep HBD.out) HN2.out).mono ?_;rw [hxy];rintro e w4 ⟨rfl,hb4⟩;have HB4:=hQ (HBR.out.trans ((HBD.out.trans (hb4.mono HBD.out.size)).mono HBR.out.size));clear hb4
     dsimp only
     go_step
     go_step
     go_step
     go_step
     go_step
     go_step
     go_step
     have hj2:(j:Int)+1≤140737488355328:=by have:=HL2.out;have:=HJ1.out;omega
     go_wp2
     clear hj2
     go_roundw
     case measure=>simp [intOf];omega
     case rel=>exact ⟨j+1,by go_num,HJ1.out,HR.out,HB4.out⟩
   ·have HR:=hQ (show Qeh a.kids b.kids=true from by rw [HF.out,List.drop_eq_nil_of_le (by omega),List.drop_eq_nil_of_le (by have:=HLN.out;omega),Qwc])
    go_wp2
    go_ret
    exact ⟨by rw [HRR.out,HR.out];rfl,HB2.out.trans (HBR.out.mono HB2.out.size)⟩
theorem Qou (N:Nat):Qt9 10 N:=by
 induction N with
 | zero=>intro S S' a b u v w h;have:=Qf7 a;omega
 | succ N ih =>
  intro S S' a b u v w hN ha hb hs
  cases hk:(u.kind==v.kind)
  ·exact Zct ih S S' a b u v w hN ha hb hs hk
  ·cases hx:(u.text.toList==v.text.toList)
   ·exact Zcu ih S S' a b u v w hN ha hb hs ⟨hk,hx⟩
   ·cases ht:Qcc a.leads b.leads
    ·exact Zcv ih S S' a b u v w hN ha hb hs ⟨hk,hx,ht⟩
    ·by_cases hl:a.kids.length=b.kids.length
     ·exact Zcx ih S S' a b u v w hN ha hb hs ⟨hk,hx,ht,hl⟩
     ·exact Zcw ih S S' a b u v w hN ha hb hs ⟨hk,hx,ht,hl⟩
mutual
def Qe9:Tr→Bool
 | .mk _ _ ls ks=>decide (ls.length≤8796093022208) && decide (ks.length≤1900000000000) && Quz ks
def Quz:List Tr→Bool
 | []=>true
 | t :: r=>Qe9 t && Quz r
end
theorem Qr1:(l:List Tr)→(j:Nat)→(k:Tr)→Quz l=true→l[j]? = some k→Qe9 k=true
 | [],j,k,_,h=>by simp at h
 | a :: r,j,k,hs,h=>by
  unfold Quz at hs;rw [Bool.and_eq_true] at hs;cases j with
  | zero=>simp at h;subst h;exact hs.1
  | succ j=>exact Qr1 r j k hs.2 (by simpa using h)
theorem Qbo {t:Tr} (h:Qe9 t=true):t.leads.length≤8796093022208∧t.kids.length≤1900000000000∧∀ (j:Nat) (k:Tr),t.kids[j]? = some k→Qe9 k=true:=by
 cases t with
 | mk kd tx ls ks =>
  unfold Qe9 at h;simp only [Bool.and_eq_true,decide_eq_true_eq] at h;exact ⟨h.1.1,h.1.2,fun j k hk=>Qr1 ks j k h.2 hk⟩
theorem Qqr {w w':World} (h:w.grownBy w' none):Below w.heap.size w w':=⟨h.os,h.tape,h.output,h.size,fun k hk=>h.block k hk (by simp)⟩
def RowIs (cs:Array Value) (vs:List TV):Prop:=∀ i v,vs[i]? = some v→cs[i*4]? = some (.int .i64 v.kind)∧cs[i*4+1]? = some (.string v.text)∧cs[i*4+2]? = some (.slice v.la v.ll v.lc)∧cs[i*4+3]? = some (.slice v.ka v.kl v.kc)
theorem TrAt.make {S:Nat→Prop} {w:World} {t:Tr} {v:TV} (h1:v.kind=t.kind) (h2:v.text=t.text) (h3:v.ll=t.leads.length) (h4:v.kl=t.kids.length) (h5:StrsAt S w v.la t.leads) (h6:KidsIn S w v.ka t.kids) (h7:v.ll≤v.lc∧v.kl≤v.kc):TrAt S w t v:=by
 cases t
 unfold TrAt;exact ⟨h1,h2,h3,h4,h5,h6,h7⟩
theorem Qcy {w:World} {b o k:Nat} {u:Value} (h:k≠b):(w.setCell ⟨b,o,none⟩ u).heap[k]? = w.heap[k]?:=Below.heap_setCell _ _ _ _ (fun e:k=b=>h e)
theorem Qca {w:World} {b k:Nat} (u:TV) (h:k≠b):(Qhu w b u).heap[k]? = w.heap[k]?:=(((Qcy h).trans (Qcy h)).trans (Qcy h)).trans (Qcy h)
theorem Qei (w:World) (b:Nat) (u:TV):(Qhu w b u).heap.size=w.heap.size:=by simp [Qhu,World.setCell]
end Go.Proofs.YtfjpemdejoejbaaGreat
namespace Go.Proofs.YtfjpemdejoejbaaGreat
open Go.RowKit Go.ChangeShapes Go.WideShapes Go.Deep
def szB:List ByteArray→Nat
 | []=>0
 | y :: r=>y.size+szB r
mutual
def Ql8:Tr→Nat
 | .mk _ x ls ks=>1+x.size+szB ls+ls.length+ks.length+Qqs ks
def Qqs:List Tr→Nat
 | []=>0
 | t :: r=>Ql8 t+Qqs r
end
mutual
theorem Qj7:(t:Tr)→Qal t≤Ql8 t
 | .mk _ _ ls ks=>by rw [Qal,Ql8];have:=Qov ks;omega
theorem Qov:(l:List Tr)→Qak l≤Qqs l
 | []=>by rw [Qak];omega
 | t :: r=>by rw [Qak,Qqs];have:=Qj7 t;have:=Qov r;omega
end
mutual
theorem Qnd:(t:Tr)→Ql8 t≤1048576→Qe9 t=true
 | .mk _ _ ls ks,h=>by
  rw [Ql8] at h;rw [Qe9,Qr2 ks (by omega),xS (by omega),xS (by omega)];rfl
theorem Qr2:(l:List Tr)→Qqs l≤1048576→Quz l=true
 | [],_=>by rw [Quz]
 | t :: r,h=>by
  rw [Qqs] at h;rw [Quz,Qnd t (by omega),Qr2 r (by omega)];rfl
end
section
variable {H:Type} {enc:TypeId × Value→H} {w:World} {base:Nat} {spare:Nat→Bool} {held:Bool}
theorem Qj8 (d:DataW H):1≤Rows.uptoBulk d:=by
 cases d with
 | lit l=>cases l <;> simp [Rows.uptoBulk]
 | nil=>simp [Rows.uptoBulk]
 | ptr d=>simp [Rows.uptoBulk]
 | slice a b=>simp [Rows.uptoBulk]
 | agg l=>simp [Rows.uptoBulk]
 | iface t d=>simp [Rows.uptoBulk]
 | map l=>simp [Rows.uptoBulk]
 | held t=>simp [Rows.uptoBulk]
theorem Qku:(ks:List Tr)→(ds:List (DataW H))→ks.length=ds.length→(∀ (i:Nat) (k:Tr) (d:DataW H),ks[i]? = some k→ds[i]? = some d→Ql8 k+1≤Rows.uptoBulk d)→ks.length+Qqs ks≤Rows.uptoBulkAll ds
 | [],ds,_,_=>by rw [Qqs];exact xZ _
 | k :: r,[],h,_=>by cases h
 | k :: r,d :: ds,h,hh=>by
  have h1:=hh 0 k d rfl rfl;have h2:=Qku r ds (by simpa using h) (fun i k' d' hk hd=>hh (i+1) k' d' (by simpa using hk) (by simpa using hd));rw [Qqs,xD];simp only [Rows.uptoBulkAll];omega
theorem Qr3:(ls:List ByteArray)→(ds:List (DataW H))→ls.length=ds.length→(∀ (i:Nat) (k:ByteArray) (d:DataW H),ls[i]? = some k→ds[i]? = some d→k.size+1≤Rows.uptoBulk d)→ls.length+szB ls≤Rows.uptoBulkAll ds
 | [],ds,_,_=>by rw [szB];exact xZ _
 | k :: r,[],h,_=>by cases h
 | k :: r,d :: ds,h,hh=>by
  have h1:=hh 0 k d rfl rfl;have h2:=Qr3 r ds (by simpa using h) (fun i k' d' hk hd=>hh (i+1) k' d' (by simpa using hk) (by simpa using hd));rw [szB,xD];simp only [Rows.uptoBulkAll];omega
theorem Qja:Tryz.prog.cellsOf 25=4:=by kernel_rfl
theorem Qjv:Tryz.prog.cellsOf 9=1:=by kernel_rfl
theorem Qqt:Tryz.prog.cellsOf 23=1:=by kernel_rfl
theorem Qqu:Tryz.prog.cellsOf 22=1:=by kernel_rfl
theorem Qkv {α β:Type} {x:Option α} {f:α→Option β} {y:β} (h:x.bind f=some y):∃ a,x=some a∧f a=some y:=by
 cases x with
 | none=>cases h
 | some a=>exact ⟨a,rfl,h⟩
instance:Inhabited Tr:=⟨noTr⟩
instance:Inhabited TV:=⟨⟨0,⟨#[]⟩,none,0,0,none,0,0⟩⟩
theorem Qf8 (b off n:Nat):((⟨b,off,none⟩:Addr).add n)=⟨b,off+n,none⟩:=by unfold Addr.add;split <;> simp_all
theorem Qua {fuel:Nat} {cs:List Value} {x:DataW H × List MemPlace} (h:DataW.trod enc Tryz.prog w base spare held fuel 23 cs=some x) :
  ∃ (A:Option Addr) (c:Nat) (ls:List ByteArray),cs = [.slice A ls.length c]∧StrsAt (fun _=>True) w A ls∧ls.length≤c∧ls.length+szB ls+1≤Rows.uptoBulk x.1:=by
 rcases DataW.trod_slice Tryz.underlying23 h with ⟨hcs,hx⟩|⟨a,len,cap,elems,rest,n,_,hcs,hx,_,hl,hm,hlen,hel,_,_⟩
 ·exact ⟨none,0,[],hcs,fun h=>absurd rfl h,xA _,by rw [hx,szB];exact Qj8 _⟩
 ·rw [Qjv] at hel
  obtain ⟨f,hf⟩:=choose_lt (α:=ByteArray) (n:=len) (p:=fun i t=>w.cell? (a.add i)=some (.string t)∧∀ y,elems[i]? = some y→t.size+1≤Rows.uptoBulk y.1) (fun i hlt=>by
   have h1:=hel i hlt;rw [xF (by omega)] at h1;obtain ⟨cs',hc,ht⟩:=Qkv h1;obtain ⟨l,e1,e2,_⟩:=DataW.trod_string Tryz.underlying9 ht;subst e1;obtain ⟨_,_,hat⟩:=World.cells?_some hc
   refine ⟨l,?_,fun y hy=>?_⟩
   ·have:=hat 0 (by omega)
    simpa [Addr.add] using this
   ·rw [xF (by omega)] at hy;injection hy with hy;rw [←hy,e2];simp only [Rows.uptoBulk,Array.length_toList];exact xA _)
  refine ⟨some a,cap,(List.range len).map f,by rw [hcs];simp,fun hne=>?_,by rw [List.length_map,List.length_range];exact hl,?_⟩
  ·obtain ⟨b,off,spot⟩:=a
   have h0:0<len:=by
    rcases Nat.eq_zero_or_pos len with h | h
    ·subst h;exact absurd rfl hne
    ·exact h
   have hspot:spot=none:=by
    have:=World.cell?_spot (hf 0 h0).1
    simpa [Addr.add] using this
   subst hspot;refine ⟨b,off,rfl,trivial,fun i t ht=>?_⟩
   have hlt:i<len:=by
    obtain ⟨h1,_⟩:=xP.1 ht
    simpa using h1
   have et:t=f i:=by
    rw [List.getElem?_map,List.getElem?_range hlt] at ht
    simpa using ht.symm
   subst et;have:=(hf i hlt).1
   rw [Qf8] at this;exact this
  ·rw [hx];simp only [Rows.uptoBulk]
   have:=Qr3 ((List.range len).map f) (elems.map (·.1)) (by simp [hlen]) (fun i k d hk hd=>by
    have hlt:i<len:=by
     obtain ⟨h1,_⟩:=xP.1 hk
     simpa using h1
    have ek:k=f i:=by
     rw [List.getElem?_map,List.getElem?_range hlt] at hk
     simpa using hk.symm
    subst ek;rw [List.getElem?_map,xF (show i<elems.length by omega)] at hd;simp at hd
    subst hd;exact (hf i hlt).2 _ (xF (by omega)))
   omega
theorem Qkw:∀ (fuel:Nat) {cs:List Value} {x:DataW H × List MemPlace},DataW.trod enc Tryz.prog w base spare held fuel 25 cs=some x →
  ∃ (t:Tr) (v:TV),cs=v.cells∧TrAt (fun _=>True) w t v∧Ql8 t+1≤Rows.uptoBulk x.1:=by
 intro fuel
 induction fuel using Nat.strongRecOn with
 | ind fuel ih =>
  intro cs x h;obtain ⟨ys,n,hn,hd,hlen,hyl,hf⟩:=DataW.trod_struct Tryz.underlying25 h;rw [Qja] at hlen
  match cs,hlen,ys,hyl with
  | [c0,c1,c2,c3],_,[y0,y1,y2,y3],_ =>
   have f0:DataW.trod enc Tryz.prog w base spare held n 3 (([c0,c1,c2,c3].drop 0).take (Tryz.prog.cellsOf 3))=some y0:=hf 0 _ rfl;have f1:DataW.trod enc Tryz.prog w base spare held n 9 (([c0,c1,c2,c3].drop 1).take (Tryz.prog.cellsOf 9))=some y1:=hf 1 _ rfl;have f2:DataW.trod enc Tryz.prog w base spare held n 23 (([c0,c1,c2,c3].drop 2).take (Tryz.prog.cellsOf 23))=some y2:=hf 2 _ rfl;have f3:DataW.trod enc Tryz.prog w base spare held n 22 (([c0,c1,c2,c3].drop 3).take (Tryz.prog.cellsOf 22))=some y3:=hf 3 _ rfl;rw [Qt7] at f0;rw [Qjv] at f1;rw [Qqt] at f2;rw [Qqu] at f3;obtain ⟨k,e0,_,_⟩:=DataW.trod_int Tryz.underlying3 (show DataW.trod enc Tryz.prog w base spare held n 3 [c0] = some y0 from f0);obtain ⟨tx,e1,ebx,_⟩:=DataW.trod_string Tryz.underlying9 (show DataW.trod enc Tryz.prog w base spare held n 9 [c1] = some y1 from f1);obtain ⟨la,lc,ls,e2,hls,hlc,hlb⟩:=Qua (show DataW.trod enc Tryz.prog w base spare held n 23 [c2] = some y2 from f2)
   have kids:∃ (A:Option Addr) (c:Nat) (ks:List Tr),[c3] = [.slice A ks.length c]∧KidsIn (fun _=>True) w A ks∧ks.length≤c∧ks.length+Qqs ks+1≤Rows.uptoBulk y3.1:=by
    rcases DataW.trod_slice Tryz.underlying22 (show DataW.trod enc Tryz.prog w base spare held n 22 [c3] = some y3 from f3) with ⟨hcs,hx⟩|⟨a,len,cap,elems,rest,m,hm1,hcs,hx,_,hl,hm,hlen,hel,_,_⟩
    ·exact ⟨none,0,[],hcs,fun h=>absurd rfl h,xA _,by rw [hx,Qqs];exact Qj8 _⟩
    ·rw [Qja] at hel
     obtain ⟨f,hf⟩:=choose_lt (α:=Tr × TV) (n:=len) (p:=fun i t=>w.cell? (a.add (i*4))=some (.int .i64 t.2.kind)∧w.cell? ((a.add (i*4)).add 1)=some (.string t.2.text)∧w.cell? ((a.add (i*4)).add 2)=some (.slice t.2.la t.2.ll t.2.lc)∧w.cell? ((a.add (i*4)).add 3)=some (.slice t.2.ka t.2.kl t.2.kc)∧TrAt (fun _=>True) w t.1 t.2∧∀ y,elems[i]? = some y→Ql8 t.1+1≤Rows.uptoBulk y.1) (fun i hlt=>by
      have h1:=hel i hlt;rw [xF (by omega)] at h1;obtain ⟨cs',hc,ht⟩:=Qkv h1;obtain ⟨t,v,ecs,htr,hcn⟩:=ih m (by omega) ht;subst ecs;obtain ⟨_,_,hat⟩:=World.cells?_some hc
      refine ⟨(t,v),?_,hat 1 (by omega),hat 2 (by omega),hat 3 (by omega),htr,fun y hy=>?_⟩
      ·have:=hat 0 (by omega)
       rw [show (a.add (i*4)).add 0=a.add (i*4) from by unfold Addr.add;simp] at this;exact this
      ·rw [xF (by omega)] at hy;injection hy with hy;rw [←hy];exact hcn)
     refine ⟨some a,cap,(List.range len).map (fun i=>(f i).1),by rw [hcs];simp,fun hne=>?_,by rw [List.length_map,List.length_range];exact hl,?_⟩
     ·obtain ⟨b,off,spot⟩:=a
      have h0:0<len:=by
       rcases Nat.eq_zero_or_pos len with h | h
       ·subst h;exact absurd rfl hne
       ·exact h
      have hspot:spot=none:=by
       have:=World.cell?_spot (hf 0 h0).1
       simpa [Addr.add] using this
      subst hspot;refine ⟨b,off,rfl,trivial,TrsAt.of _ off fun i t ht=>?_⟩
      have hlt:i<len:=by
       obtain ⟨h1,_⟩:=xP.1 ht
       simpa using h1
      have et:t=(f i).1:=by
       rw [List.getElem?_map,List.getElem?_range hlt] at ht
       simpa using ht.symm
      subst et;obtain ⟨g0,g1,g2,g3,g4,_⟩:=hf i hlt;rw [Qf8] at g0 g1 g2 g3;rw [Qf8] at g1 g2 g3;exact ⟨(f i).2,g0,g1,g2,g3,g4⟩
     ·rw [hx];simp only [Rows.uptoBulk]
      have:=Qku ((List.range len).map (fun i=>(f i).1)) (elems.map (·.1)) (by simp [hlen]) (fun i k d hk hd=>by
       have hlt:i<len:=by
        obtain ⟨h1,_⟩:=xP.1 hk
        simpa using h1
       have ek:k=(f i).1:=by
        rw [List.getElem?_map,List.getElem?_range hlt] at hk
        simpa using hk.symm
       subst ek;rw [List.getElem?_map,xF (show i<elems.length by omega)] at hd;simp at hd
       subst hd;exact (hf i hlt).2.2.2.2.2 _ (xF (by omega)))
      omega
   obtain ⟨ka,kc,ks,e3,hks,hkc,hkb⟩:=kids;simp at e0 e1 e2 e3
   refine ⟨.mk k tx ls ks,⟨k,tx,la,ls.length,lc,ka,ks.length,kc⟩,by rw [e0,e1,e2,e3];rfl,TrAt.make rfl rfl rfl rfl hls hks ⟨hlc,hkc⟩,?_⟩;rw [hd,Ql8];simp only [List.map_cons,List.map_nil,Rows.uptoBulk,Rows.uptoBulkAll];have:=Qj8 y0.1
   have hbx:tx.size+1≤Rows.uptoBulk y1.1:=by
    rw [ebx];simp only [Rows.uptoBulk,Array.length_toList];exact xA _
   omega
end
end Go.Proofs.YtfjpemdejoejbaaGreat

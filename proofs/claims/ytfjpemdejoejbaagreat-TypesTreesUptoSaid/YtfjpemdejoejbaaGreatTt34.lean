/- Part 34 -/
import Derived.Test.YtfjpemdejoejbaaGreatTt32
import Derived.Test.YtfjpemdejoejbaaGreatTt33
import Derived.OwnWalk
import Derived.Deep.DeepCutAuto
import Derived.Lib.AppendZerosOnto
import Derived.Lib.SliceRun
set_option maxRecDepth 100000
set_option maxHeartbeats 4000000
namespace Go.Proofs.YtfjpemdejoejbaaGreat
open Go.RowKit
def Qb4 (ps:List Tr):Bool:=ps.all fun t=>decide (t.kind=1) && Qaj t
def Qmd (ps:List Tr) (k:Nat):Prop:=∀ (j:Nat) (t:Tr),j<k→ps[j]? = some t→t.kind=1∧Qaj t=true
theorem Qk2 {ps:List Tr} {k:Nat} {t:Tr} (h:Qmd ps k) (ht:ps[k]? = some t) (hk:t.kind=1) (hs:Qaj t=true):Qmd ps (k+1):=fun j u hj hu=>by
 by_cases e:j=k
 ·subst e;rw [ht] at hu;injection hu with hu;rw [←hu];exact ⟨hk,hs⟩
 ·exact h j u (by omega) hu
theorem Qnk {ps:List Tr} (h:Qmd ps ps.length):Qb4 ps=true:=by
 unfold Qb4;rw [List.all_eq_true];intro t ht;obtain ⟨j,hj,he⟩:=List.getElem_of_mem ht;have:=h j t hj (by rw [xF hj,he])
 simp [this.1,this.2]
theorem Qhh {ps:List Tr} {k:Nat} {t:Tr} (ht:ps[k]? = some t) (h:¬ (t.kind=1∧Qaj t=true)):Qb4 ps=false:=by
 cases e:Qb4 ps with
 | false=>rfl
 | true =>
  unfold Qb4 at e;rw [List.all_eq_true] at e;have:=e t (yA ht)
  simp at this
  exact absurd this h
theorem Qk3 (S:Nat→Prop) (A:Option Addr) (c:Nat) (ps:List Tr) (w:World) (hp:TrAt S w (Qap ps) ⟨0,⟨#[]⟩,none,0,0,A,ps.length,c⟩) (hf:Qbb (Qap ps)=true) (hw:Qaz (Qap ps)=true) :
  Calls Tryz.prog 87 #[.slice A ps.length c] w fun e w'=>e = .returned (.bool (Qb4 ps))∧Below w.heap.size w w':=by
 have HP:=hQ hp;have HF:=hQ (Qby hf).2.2;have HWD:=hQ (Qa1 hw).2.2;have hl:ps.length≤140737488355328:=(Qby hf).2.1;clear hp hf hw
 go_enter Tryz.func87,Tryz.ntmps87
 go_wp2
 go_loopw [7] (fun i wr=>∃ k:Nat,i = .int .i64 k∧k≤ps.length∧Hid (Qmd ps k)∧Below w.heap.size w wr) (fun i _=>ps.length-(intOf i).toNat)
 case atStart=>exact ⟨0,rfl,xZ _,hQ fun j t hj=>absurd hj (by omega),xC _ _⟩
 case round =>
  obtain ⟨k,rfl,hk,hn,hb⟩:=hrel;have HN:=hn;have HBR:=hQ hb;clear hn hb
  by_cases hlt:k<ps.length
  ·obtain ⟨t,ht⟩:∃ t,ps[k]? = some t:=⟨_,xF hlt⟩;obtain ⟨b,off,hka⟩:∃ b off,A=some ⟨b,off,none⟩:=HP.out.addr.resolve_left (by show ¬ ps.length=0;omega);subst hka;obtain ⟨u,c0,c1,c2,c3,hu⟩:=(HP.out.keep HBR.out).at rfl (show (Qap ps).kids[k]? = some t from ht);have HU:=hQ hu;have HTX:=hQ hu.kl.2.2.1;have HK:=hQ ht;have cl:=xK wr _ c0;have hk0:(0:Int)≤(k:Int):=by omega
   have hk1:(k:Int)<(ps.length:Int):=by omega
   have hk2:(k:Int)+1≤1900000000000001:=by omega
   have HA:=hQ ((xC wr.heap.size wr).alloc (xA _) (trO u));have HC:=hQ (Qi8 _ S t u (wr.alloc (trO u)) (xA _) (HU.out.keep HA.out) (HF.out k t HK.out) (HWD.out k t HK.out));clear hu ht;obtain ⟨vk,vx,vla,vll,vlc,vka,vkl,vkc⟩:=u
   by_cases hx:vk=1
   ·subst hx;have HX:=hQ (show t.kind=1 from HTX.out.symm)
    by_cases hs:Qaj t=true
    ·have HS:=hQ hs;rw [hs] at HC;clear hs;go_wp2_with (go_at_call 62;refine HC.out.mono ?_;rintro e w1 ⟨rfl,hb⟩;have HB1:=hQ (HA.out.trans (hb.mono HA.out.size));clear hb)
     go_roundw
     case measure=>first | (simp [intOf];done) | (simp [intOf];omega)
     case rel=>exact ⟨k+1,by go_num,by omega,hQ (Qk2 HN.out HK.out HX.out HS.out),HBR.out.trans (HB1.out.mono HBR.out.size)⟩
    ·have hs':Qaj t=false:=by simpa using hs
     have HV:=hQ (Qhh HK.out (fun h=>hs h.2));rw [hs'] at HC;clear hs hs';go_wp2_with (go_at_call 62;refine HC.out.mono ?_;rintro e w1 ⟨rfl,hb⟩;have HB1:=hQ (HA.out.trans (hb.mono HA.out.size));clear hb)
     refine bodyPost_ret (v:=.bool false) (by simp [results,Tryz.results87,go_sem, *]) rfl ?_;rw [HV.out];exact ⟨rfl,HBR.out.trans (HB1.out.mono HBR.out.size)⟩
   ·have q1:=Qcm hx;have HV:=hQ (Qhh HK.out (fun h=>hx (HTX.out.trans h.1)))
    go_wp2
    refine bodyPost_ret (v:=.bool false) (by simp [results,Tryz.results87,go_sem, *]) rfl ?_;rw [HV.out];exact ⟨rfl,HBR.out.trans (HA.out.mono HBR.out.size)⟩
  ·obtain rfl:k=ps.length:=by omega
   have HV:=hQ (Qnk HN.out)
   go_wp2
   try rw [Exit.noGoto_ret]
   first | go_ret3 | go_ret
   rw [HV.out];exact ⟨rfl,HBR.out⟩
theorem Qk4 (S:Nat→Prop) (A:Option Addr) (c:Nat) (ps:List Tr) (w:World) (hp:TrAt S w (Qap ps) ⟨0,⟨#[]⟩,none,0,0,A,ps.length,c⟩) (hf:Qbb (Qap ps)=true) (hz:∀ t∈ps,Qal t≤1000) (hw:Qaz (Qap ps)=true) :
  Calls Tryz.prog 29 #[.slice A ps.length c] w fun e w'=>e = .returned (.bool (Qb4 ps))∧Below w.heap.size w w':=by
 have HP:=hQ hp;have HF:=hQ (Qby hf).2.2;have HWD:=hQ (Qa1 hw).2.2;have hl:ps.length≤140737488355328:=(Qby hf).2.1;have HZ:=hQ hz;clear hp hf hw hz
 go_enter Tryz.func29,Tryz.ntmps29
 go_wp2
 go_loopw [3] (fun i wr=>∃ k:Nat,i = .int .i64 k∧k≤ps.length∧Hid (Qmd ps k)∧Below w.heap.size w wr) (fun i _=>ps.length-(intOf i).toNat)
 case atStart=>exact ⟨0,rfl,xZ _,hQ fun j t hj=>absurd hj (by omega),xC _ _⟩
 case round =>
  obtain ⟨k,rfl,hk,hn,hb⟩:=hrel;have HN:=hn;have HBR:=hQ hb;clear hn hb
  by_cases hlt:k<ps.length
  ·obtain ⟨t,ht⟩:∃ t,ps[k]? = some t:=⟨_,xF hlt⟩;obtain ⟨b,off,hka⟩:∃ b off,A=some ⟨b,off,none⟩:=HP.out.addr.resolve_left (by show ¬ ps.length=0;omega);subst hka;obtain ⟨u,c0,c1,c2,c3,hu⟩:=(HP.out.keep HBR.out).at rfl (show (Qap ps).kids[k]? = some t from ht);have HU:=hQ hu;have HTX:=hQ hu.kl.2.2.1;have HK:=hQ ht;have cl:=xK wr _ c0;have hk0:(0:Int)≤(k:Int):=by omega
   have hk1:(k:Int)<(ps.length:Int):=by omega
   have hk2:(k:Int)+1≤1900000000000001:=by omega
   have HE:=hQ (Qbl _ t (xA _) (HZ.out t (yA ht)));have HC:=hQ (fun w' (hb:Below wr.heap.size wr w')=>Qk1 _ S t u w' (xA _) (HU.out.keep hb) (HZ.out t (yA ht)) (HWD.out k t HK.out));clear hu ht;obtain ⟨vk,vx,vla,vll,vlc,vka,vkl,vkc⟩:=u
   by_cases hx:vk=1
   ·subst hx;have HX:=hQ (show t.kind=1 from HTX.out.symm)
    by_cases hs:Qaj t=true
    ·have HS:=hQ hs;rw [HE.out,hs] at HC;clear hs;go_wp2_with (go_at_call 31;refine (HC.out _ (xC _ _)).mono ?_;rintro e w1 ⟨rfl,hb⟩;have HB1:=hQ hb;clear hb)
     go_roundw
     case measure=>first | (simp [intOf];done) | (simp [intOf];omega)
     case rel=>exact ⟨k+1,by go_num,by omega,hQ (Qk2 HN.out HK.out HX.out HS.out),HBR.out.trans (HB1.out.mono HBR.out.size)⟩
    ·have hs':Qaj t=false:=by simpa using hs
     have HV:=hQ (Qhh HK.out (fun h=>hs h.2));rw [HE.out,hs'] at HC;clear hs hs';go_wp2_with (go_at_call 31;refine (HC.out _ (xC _ _)).mono ?_;rintro e w1 ⟨rfl,hb⟩;have HB1:=hQ hb;clear hb)
     refine bodyPost_ret (v:=.bool false) (by simp [results,Tryz.results29,go_sem, *]) rfl ?_;rw [HV.out];exact ⟨rfl,HBR.out.trans (HB1.out.mono HBR.out.size)⟩
   ·have q1:=Qcm hx;have HV:=hQ (Qhh HK.out (fun h=>hx (HTX.out.trans h.1)))
    go_wp2
    refine bodyPost_ret (v:=.bool false) (by simp [results,Tryz.results29,go_sem, *]) rfl ?_;rw [HV.out];exact ⟨rfl,HBR.out⟩
  ·obtain rfl:k=ps.length:=by omega
   have HV:=hQ (Qnk HN.out)
   go_wp2
   try rw [Exit.noGoto_ret]
   first | go_ret3 | go_ret
   rw [HV.out];exact ⟨rfl,HBR.out⟩
theorem Qjx (k:Int) (n:Nat):∀ (ks:List Tr) (i:Nat),Qbc k n i ks=true→∀ a∈ks,Qar a=true
 | [],_,_,a,h=>by simp at h
 | b :: r,i,h,a,ha=>by
  rw [Qbc,Bool.and_eq_true,Bool.and_eq_true] at h
  rcases List.mem_cons.1 ha with rfl | ha
  ·exact h.1.2
  ·exact Qjx k n r (i+1) h.2 a ha
theorem Qq9 {t:Tr} (hz:Qal t≤1000) (h:Qaj t=true):0≤Qat t.kind t.kids.length∧∀ a∈t.kids,Qaj a=true:=by
 rw [←Qbl _ t (xA _) hz,Qdo,Bool.and_eq_true,Bool.and_eq_true] at h;refine ⟨by have h1:=h.1.1;rw [Bool.not_eq_true'] at h1;have h2:=of_decide_eq_false h1;omega,fun a ha=>?_⟩;have h1:=Qjx _ _ _ _ h.2 a ha;rw [←Qbl _ a (xA _) (by have h2:=Qsb ha;have h3:=Qa9 t;omega)];exact h1
end Go.Proofs.YtfjpemdejoejbaaGreat
namespace Go.Proofs.YtfjpemdejoejbaaGreat
open Go.RowKit Go.Shelf
theorem Qk9 (S:Nat→Prop) (w:World) (k:Int) (x:ByteArray):TrAt S w (.mk k x [] []) ⟨k,x,none,0,0,none,0,0⟩:=by
 unfold TrAt;exact ⟨rfl,rfl,rfl,rfl,fun h=>absurd rfl h,fun h=>absurd rfl h,xA _,xA _⟩
theorem Qem {w:World} {b:Nat} {a:Int} {s:ByteArray} {p q:Value} (h:w.heap[b]? = some (.cells #[.int .i64 a,.string s,p,q] 25 (0,0))) :
  w.cell? ⟨b,0,none⟩=some (.int .i64 a)∧w.cell? ⟨b,1,none⟩=some (.string s)∧w.cell? ⟨b,2,none⟩=some p∧w.cell? ⟨b,3,none⟩=some q∧b<w.heap.size∧∀ o,w.frozen? ⟨b,o,none⟩=false :=
 ⟨Qaa h 0 _ rfl,Qaa h 1 _ rfl,Qaa h 2 _ rfl,Qaa h 3 _ rfl,Qab h,fun _=>xL h _⟩
end Go.Proofs.YtfjpemdejoejbaaGreat
namespace Go.Proofs.YtfjpemdejoejbaaGreat
open Go.RowKit
def Qew (ps:List Tr) (m:Int) (s:ByteArray):Int × Int × Bool:=if Qb4 ps=false∨m<0∨(ps.length:Int)≤m then (0,0,false) else Qaw ps m.toNat s
theorem Qmh (S:Nat→Prop) (A:Option Addr) (c:Nat) (ps:List Tr) (M:Nat) (s:ByteArray) (w:World) (hp:TrAt S w (Qap ps) ⟨0,⟨#[]⟩,none,0,0,A,ps.length,c⟩) (hf:Qe9 (Qap ps)=true) (hs:s.size≤maxLen) (_hM:M<ps.length) :
  Calls Tryz.prog 88 #[.slice A ps.length c,.int .i64 M,.string s] w fun e w'=>e = .returned (.tuple #[.int .i64 (Qaw ps M s).1,.int .i64 (Qaw ps M s).2.1,.bool (Qaw ps M s).2.2])∧Below w.heap.size w w':=by
 cases hd:(Qfp s).2.2 with
 | true=>exact Qud S A c ps M M s w hp hf hs hd
 | false=>exact Qqv S A c ps M s w hp hf hs hd
theorem Qsn (S:Nat→Prop) (A:Option Addr) (c:Nat) (ps:List Tr) (M:Nat) (s:ByteArray) (w:World) (hp:TrAt S w (Qap ps) ⟨0,⟨#[]⟩,none,0,0,A,ps.length,c⟩) (hf:Qe9 (Qap ps)=true) (hs:s.size≤maxLen) (hM:M<ps.length) :
  Calls Tryz.prog 39 #[.slice A ps.length c,.int .i64 M,.string s] w fun e w'=>e = .returned (.tuple #[.int .i64 (Qaw ps M s).1,.int .i64 (Qaw ps M s).2.1,.bool (Qaw ps M s).2.2])∧Below w.heap.size w w':=by
 cases hd:(Qfp s).2.2 with
 | true=>exact Zaw S A c ps M M s w hp hf hs hd
 | false=>exact Qxh S A c ps M s w hp hf hs hM hd
theorem Quj (S:Nat→Prop) (A:Option Addr) (c:Nat) (ps:List Tr) (m:Int) (s:ByteArray) (w:World) (hp:TrAt S w (Qap ps) ⟨0,⟨#[]⟩,none,0,0,A,ps.length,c⟩) (hf:Qe9 (Qap ps)=true) (hsm:Qbb (Qap ps)=true) (hw:Qaz (Qap ps)=true) (hs:s.size≤maxLen) :
  Calls Tryz.prog 56 #[.slice A ps.length c,.int .i64 m,.string s] w fun e w'=>e = .returned (.tuple #[.int .i64 (Qew ps m s).1,.int .i64 (Qew ps m s).2.1,.bool (Qew ps m s).2.2])∧Below w.heap.size w w':=by
 have HC:=hQ (fun w' (hb:Below w.heap.size w w')=>Qk3 S A c ps w' (hp.keep hb) hsm hw);have HM:=hQ (fun (M:Nat) (hM:M<ps.length) w' (hb:Below w.heap.size w w')=>Qmh S A c ps M s w' (hp.keep hb) hf hs hM);have hl:ps.length≤1900000000000:=(Qbo hf).2.1;clear hp hf hsm hw hs;cases hg:Qb4 ps with
 | false =>
  have HV:=hQ (show Qew ps m s=(0,0,false) from by unfold Qew;rw [hg];simp);rw [hg] at HC;clear hg HM
  go_enter Tryz.func56,Tryz.ntmps56
  go_wp2_with (go_at_call 87;refine (HC.out _ (by first | exact xC _ _ | exact below_drewN (xC _ _) _)).mono ?_;rintro e w1 ⟨rfl,hb⟩;have HB1:=hQ hb;clear hb)
  refine bodyPost_ret (v:=.tuple #[.int .i64 0,.int .i64 0,.bool false]) (by simp [results,Tryz.results56,go_sem, *]) rfl ?_;rw [HV.out];exact ⟨rfl,HB1.out⟩
 | true =>
  rw [hg] at HC
  by_cases h0:m<0
  ·have HV:=hQ (show Qew ps m s=(0,0,false) from by unfold Qew;rw [xO (.inr (.inl h0))]);clear hg HM
   go_enter Tryz.func56,Tryz.ntmps56
   go_wp2_with (go_at_call 87;refine (HC.out _ (by first | exact xC _ _ | exact below_drewN (xC _ _) _)).mono ?_;rintro e w1 ⟨rfl,hb⟩;have HB1:=hQ hb;clear hb)
   refine bodyPost_ret (v:=.tuple #[.int .i64 0,.int .i64 0,.bool false]) (by simp [results,Tryz.results56,go_sem, *]) rfl ?_;rw [HV.out];exact ⟨rfl,HB1.out⟩
  ·by_cases h1:(ps.length:Int)≤m
   ·have HV:=hQ (show Qew ps m s=(0,0,false) from by unfold Qew;rw [xO (.inr (.inr h1))]);clear hg HM
    go_enter Tryz.func56,Tryz.ntmps56
    go_wp2_with (go_at_call 87;refine (HC.out _ (by first | exact xC _ _ | exact below_drewN (xC _ _) _)).mono ?_;rintro e w1 ⟨rfl,hb⟩;have HB1:=hQ hb;clear hb)
    refine bodyPost_ret (v:=.tuple #[.int .i64 0,.int .i64 0,.bool false]) (by simp [results,Tryz.results56,go_sem, *]) rfl ?_;rw [HV.out];exact ⟨rfl,HB1.out⟩
   ·obtain ⟨M,rfl⟩:∃ M:Nat,m=(M:Int):=⟨m.toNat,by omega⟩;have HV:=hQ (show Qew ps M s=Qaw ps M s from by unfold Qew;rw [xN (by rw [hg];simp;omega)];rfl);have HI:=hQ (HM.out M (by omega));have hnn:(0:Int)≤(M:Int):=by omega
    have hlt:(M:Int)<(ps.length:Int):=by omega
    rw [HV.out];obtain ⟨r0,hr0⟩:∃ r,r=Qaw ps M s:=⟨_,rfl⟩;rw [←hr0] at HI ⊢;clear hg HM hr0 HV
    go_enter Tryz.func56,Tryz.ntmps56
    go_wp2_with (first | (go_at_call 87;refine (HC.out _ (by first | exact xC _ _ | exact below_drewN (xC _ _) _)).mono ?_;rintro e w1 ⟨rfl,hb⟩;have HB1:=hQ hb;clear hb) | (go_at_call 88;refine (HI.out _ HB1.out).mono ?_;rintro e w2 ⟨rfl,hb⟩;have HB2:=hQ hb;clear hb))
    refine bodyPost_ret (v:=.tuple #[.int .i64 r0.1,.int .i64 r0.2.1,.bool r0.2.2]) (by simp [results,Tryz.results56,go_sem, *]) rfl ?_;exact ⟨rfl,HB1.out.trans (HB2.out.mono HB1.out.size)⟩
theorem Zdx {l:List ByteArray} {y:ByteArray} (h:y∈l):y.size≤szB l:=by
 induction l with
 | nil=>simp at h
 | cons a r ih =>
  rw [szB]
  rcases List.mem_cons.1 h with rfl | h
  ·omega
  ·have:=ih h;omega
mutual
theorem Qi2:(t:Tr)→Ql8 t≤1048576→Qaz t=true
 | .mk _ x ls ks,h=>by
  rw [Ql8] at h;rw [Qaz,Qmt ks (by omega),xS (by unfold maxLen;omega),Bool.true_and,Bool.and_true,List.all_eq_true];intro y hy;have:=Zdx hy
  exact xS (by unfold maxLen;omega)
theorem Qmt:(l:List Tr)→Qqs l≤1048576→Qht l=true
 | [],_=>by rw [Qht]
 | t :: r,h=>by
  rw [Qqs] at h;rw [Qht,Qi2 t (by omega),Qmt r (by omega)];rfl
end
theorem Zdy {lo c:Nat} {A:Option Addr} {w:World} {ps:List Tr} {us:List TV} (hc:ps.length≤c) (hlen:us.length=ps.length)
  (hrow:ps≠[]→∃ g cs,A=some ⟨g,0,none⟩∧lo≤g∧w.heap[g]? = some (.cells cs 25 (0,0))∧RowIs cs us)
  (hat:∀ (i:Nat) (k:Tr) (u:TV),ps[i]? = some k→us[i]? = some u→TrAt (fun b=>lo≤b∧b<w.heap.size) w k u) :
  TrAt (fun b=>lo≤b∧b<w.heap.size) w (Qap ps) ⟨0,⟨#[]⟩,none,0,0,A,ps.length,c⟩:=by
 refine TrAt.make rfl rfl rfl rfl (fun h=>absurd rfl h) (fun h0=>?_) ⟨xA _,hc⟩;obtain ⟨g,cs,hA,hg,hh,hr⟩:=hrow h0;refine ⟨g,0,hA,⟨hg,Qab hh⟩,TrsAt.of _ 0 fun i t ht=>?_⟩;have hi:i<us.length:=by rw [hlen];exact (xP.1 ht).1
 obtain ⟨u,hu⟩:∃ u,us[i]? = some u:=⟨_,xF hi⟩;obtain ⟨r0,r1,r2,r3⟩:=hr i u hu
 refine ⟨u,?_,?_,?_,?_,hat i t u ht hu⟩
 ·rw [show 0+i*4=i*4 from by omega];exact Qaa hh _ _ r0
 ·rw [show 0+i*4+1=i*4+1 from by omega];exact Qaa hh _ _ r1
 ·rw [show 0+i*4+2=i*4+2 from by omega];exact Qaa hh _ _ r2
 ·rw [show 0+i*4+3=i*4+3 from by omega];exact Qaa hh _ _ r3
end Go.Proofs.YtfjpemdejoejbaaGreat

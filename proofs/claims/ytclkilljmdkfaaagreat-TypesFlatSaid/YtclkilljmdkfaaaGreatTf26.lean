/- Part 26 -/
import Derived.Test.YtclkilljmdkfaaaGreatTf19
import Derived.Test.YtclkilljmdkfaaaGreatTf25
set_option maxRecDepth 100000
set_option maxHeartbeats 4000000
namespace Go.Proofs.YtclkilljmdkfaaaGreat
open Go.RowKit
def Qbp (ps:List Tr):Tr:=.mk 0 ⟨#[]⟩ [] ps
def Qp2:List Tr→ByteArray→Nat
 | [],_=>0
 | t :: r,x=>if t.text=x then 0 else Qp2 r x+1
def Qm0 (l:List Tr) (x:ByteArray) (k:Nat):Prop:=∀ (j:Nat) (t:Tr),j<k→l[j]? = some t→t.text≠x
theorem Qk6 {l:List Tr} {x:ByteArray} {k:Nat} {t:Tr} (h:Qm0 l x k) (ht:l[k]? = some t) (hx:t.text≠x):Qm0 l x (k+1):=fun j u hj hu=>by
 by_cases e:j=k
 ·subst e
  rw [ht] at hu
  injection hu with hu
  rw [←hu]
  exact hx
 ·exact h j u (by omega) hu
theorem Qp3:(l:List Tr)→(x:ByteArray)→(k:Nat)→(t:Tr)→Qm0 l x k→l[k]? = some t→t.text=x→Qp2 l x=k
 | [],_,k,t,_,h,_=>by simp at h
 | a :: r,x,0,t,_,h,hx=>by simp at h;subst h;rw [Qp2,xO hx]
 | a :: r,x,k+1,t,hn,h,hx=>by
  rw [Qp2,xN (hn 0 a (by omega) rfl),Qp3 r x k t (fun j u hj hu=>hn (j+1) u (by omega) (by simpa using hu)) (by simpa using h) hx]
theorem Qp4:(l:List Tr)→(x:ByteArray)→Qm0 l x l.length→Qp2 l x=l.length
 | [],_,_=>rfl
 | a :: r,x,hn=>by
  rw [Qp2,xN (hn 0 a (by simp) rfl),Qp4 r x (fun j u hj hu=>hn (j+1) u (by simp;omega) (by simpa using hu)),xD]
def Qfh (ps:List Tr) (i:Nat) (x:ByteArray):Int × Int × Bool:=if Qp2 ((ps[i]?).getD Qiw).kids x<((ps[i]?).getD Qiw).kids.length then ((i:Int),(Qp2 ((ps[i]?).getD Qiw).kids x:Nat),true) else (0,0,false)
def Qby (ps:List Tr) (m:Nat) (s:ByteArray):Int × Int × Bool :=
 if (Qj1 s).2.2 then (if Qp2 ps (Qj1 s).1<ps.length then Qfh ps (Qp2 ps (Qj1 s).1) (Qj1 s).2.1 else (0,0,false)) else Qfh ps m (Qj1 s).2.1
theorem Zez {ps:List Tr} {s:ByteArray} {m k:Nat} {t:Tr} (hd:(Qj1 s).2.2=true) (hn:Qm0 ps (Qj1 s).1 k) (ht:ps[k]? = some t) (hx:t.text=(Qj1 s).1):Qby ps m s=Qfh ps k (Qj1 s).2.1:=by
 unfold Qby
 rw [xO hd,Qp3 _ _ _ t hn ht hx,xO (xP.1 ht).1]
theorem Ze0 {ps:List Tr} {s:ByteArray} {m:Nat} (hd:(Qj1 s).2.2=true) (hn:Qm0 ps (Qj1 s).1 ps.length):Qby ps m s=(0,0,false):=by
 unfold Qby
 rw [xO hd,Qp4 _ _ hn,xN (Nat.lt_irrefl _)]
theorem Qri {ps:List Tr} {i d:Nat} {x:ByteArray} {t k:Tr} (ht:ps[i]? = some t) (hn:Qm0 t.kids x d) (hk:t.kids[d]? = some k) (hx:k.text=x):Qfh ps i x=((i:Int),(d:Int),true):=by
 unfold Qfh
 rw [ht,Option.getD_some,Qp3 _ _ _ k hn hk hx,xO (xP.1 hk).1]
theorem Qrj {ps:List Tr} {i:Nat} {x:ByteArray} {t:Tr} (ht:ps[i]? = some t) (hn:Qm0 t.kids x t.kids.length):Qfh ps i x=(0,0,false):=by
 unfold Qfh
 rw [ht,Option.getD_some,Qp4 _ _ hn,xN (Nat.lt_irrefl _)]
theorem Qto {x y:ByteArray} (h:x=y):(x.toList==y.toList)=true:=by subst h;simp
theorem Qtp {x y:ByteArray} (h:x≠y):(x.toList==y.toList)=false:=by
 cases e:(x.toList==y.toList) with
 | false=>rfl
 | true=>exact absurd (Zai e) h
theorem Zaj {ps:List Tr} {i:Nat} {x:ByteArray} (h:ps.length≤i):Qfh ps i x=(0,0,false):=by
 unfold Qfh
 rw [List.getElem?_eq_none h,Option.getD_none,xN (by simp [Qiw,Tr.kids,Qp2])]
theorem Qxi (S:Nat→Prop) (A:Option Addr) (c:Nat) (ps:List Tr) (m:Int) (M:Nat) (s:ByteArray) (w:World) (hp:TrAt S w (Qbp ps) ⟨0,⟨#[]⟩,none,0,0,A,ps.length,c⟩) (hf:Qhs (Qbp ps)=true) (hs:s.size≤maxLen) (hd:(Qj1 s).2.2=true) :
  Calls Tryz.prog 127 #[.slice A ps.length c,.int .i64 m,.string s] w fun e w'=>e = .returned (.tuple #[.int .i64 (Qby ps M s).1,.int .i64 (Qby ps M s).2.1,.bool (Qby ps M s).2.2])∧Below w.heap.size w w':=by
 have HP:=hQ hp
 have HF:=hQ hf
 have HD:=hQ hd
 have hl:=(Qds hf).2.1
 have hl':ps.length≤1900000000000:=hl
 clear hp hf hl
 obtain ⟨x,y,z,hdv⟩:∃ x y z,Qj1 s=(x,y,z):=⟨_,_,_,rfl⟩
 obtain rfl:z=true:=by rw [hdv] at hd;exact hd
 have HDV:=hQ hdv
 have HC:=hQ (show ∀ w,Calls Tryz.prog 174 #[.string s] w fun e w'=>e = .returned (.tuple #[.string x,.string y,.bool true])∧∃ n,w'=w.drewN n from fun w=>by have:=Qok s w hs;rw [hdv] at this;exact this)
 clear hd hdv hs
 go_enter Tryz.func127,Tryz.ntmps127
 go_wp2
 go_step3
 go_wp2_with (go_at_call 174;refine (HC.out _).mono ?_;rintro e w1 ⟨rfl,nq,rfl⟩)
 go_step3
 go_wp2
 go_loopw [24] (fun i wr=>∃ k:Nat,i = .int .i64 k∧k≤ps.length∧Hid (Qm0 ps x k)∧Below w.heap.size w wr) (fun i _=>ps.length-(intOf i).toNat)
 case atStart=>exact ⟨0,rfl,xZ _,hQ fun j t hj=>absurd hj (by omega),below_drewN (xC _ _) _⟩
 case round =>
  obtain ⟨k,rfl,hk,hn,hb⟩:=hrel
  obtain ⟨wo,hwo⟩:∃ w',w'=wr:=⟨_,rfl⟩
  subst hwo
  have HN:=hn
  have HBR:=hQ hb
  clear hn hb
  by_cases hlt:k<ps.length
  ·obtain ⟨t,ht⟩:∃ t,ps[k]? = some t:=⟨_,xF hlt⟩
   obtain ⟨b,off,hka⟩:∃ b off,A=some ⟨b,off,none⟩:=HP.out.addr.resolve_left (by show ¬ ps.length=0;omega)
   subst hka
   obtain ⟨u,c0,c1,c2,c3,hu⟩:=(HP.out.keep HBR.out).at rfl (show (Qbp ps).kids[k]? = some t from ht)
   have HU:=hQ hu
   have HTX:=hQ hu.kl.2.2.2
   have HK:=hQ ht
   have cl:=xK wo _ c0
   have hk0:(0:Int)≤(k:Int):=by omega
   have hk1:(k:Int)<(ps.length:Int):=by omega
   have hk2:(k:Int)+1≤1900000000001:=by omega
   have HW:=hQ (HBR.out.trans (((xC wo.heap.size wo).alloc (xA _) (trO u)).mono HBR.out.size))
   clear hu ht
   by_cases hx:u.text=x
   ·have d1:=Qto hx
    have HX:=hQ (show t.text=x from HTX.out ▸ hx)
    clear hx
    have hl2:t.kids.length≤1900000000000:=(Qds ((Qds HF.out).2.2 k t HK.out)).2.1
    have hkl:u.kl=t.kids.length:=HU.out.kl.1
    have HLK:=hQ (show Qby ps M s=Qfh ps k y from by have:=Zez (m:=M) HD.out (by rw [HDV.out];exact HN.out) HK.out (by rw [HDV.out];exact HX.out);rw [this,HDV.out])
    go_wp2
    go_loopw [48] (fun i wq=>∃ d:Nat,i = .int .i64 d∧d≤t.kids.length∧Hid (Qm0 t.kids y d)∧Below wo.heap.size wo wq) (fun i _=>t.kids.length-(intOf i).toNat)
    case atStart=>exact ⟨0,rfl,xZ _,hQ fun j t hj=>absurd hj (by omega),(xC wo.heap.size wo).alloc (xA _) _⟩
    case round =>
     obtain ⟨d,rfl,hd,hm,hb⟩:=hrel
     have HM:=hm
     have HBQ:=hQ hb
     clear hm hb
     by_cases hdl:d<t.kids.length
     ·obtain ⟨q,hq⟩:∃ q,t.kids[d]? = some q:=⟨_,xF hdl⟩
      obtain ⟨b2,off2,hua⟩:∃ b off,u.ka=some ⟨b,off,none⟩:=HU.out.addr.resolve_left (by omega)
      obtain ⟨v,e0,e1,e2,e3,hv⟩:=(HU.out.keep HBQ.out).at hua hq
      have HVX:=hQ hv.kl.2.2.2
      have HQ:=hQ hq
      have el:=xK wr _ e0
      have hd0:(0:Int)≤(d:Int):=by omega
      have hd1:(d:Int)<(t.kids.length:Int):=by omega
      have hd2:(d:Int)+1≤1900000000001:=by omega
      have HW2:=hQ (show ∀ o,Below wo.heap.size wo (wr.alloc o) from fun o=>HBQ.out.trans (((xC wr.heap.size wr).alloc (xA _) o).mono HBQ.out.size))
      clear hv hq
      by_cases hy:v.text=y
      ·have d2:=Qto hy
       have HLR:=hQ (show Qby ps M s=((k:Int),(d:Int),true) from HLK.out.trans (Qri HK.out HM.out HQ.out (HVX.out ▸ hy)))
       clear hy
       go_wp2
       refine bodyPost_ret (v:=.tuple #[.int .i64 k,.int .i64 d,.bool true]) (by simp [results,Tryz.results127,go_sem, *]) rfl ?_
       rw [HLR.out]
       exact ⟨rfl,HBR.out.trans ((HW2.out _).mono HBR.out.size)⟩
      ·have d2:=Qtp hy
       have HY:=hQ (Qk6 HM.out HQ.out (show q.text≠y from HVX.out ▸ hy))
       clear hy
       go_wp2
       go_roundw
       case measure=>first | (simp [intOf];done) | (simp [intOf];omega)
       case rel=>exact ⟨d+1,by go_num,by omega,HY,HW2.out _⟩
     ·obtain rfl:d=t.kids.length:=by omega
      have HLR:=hQ (show Qby ps M s=(0,0,false) from HLK.out.trans (Qrj HK.out HM.out))
      go_wp2
      try rw [Exit.noGoto_ret]
      go_ret3
      rw [HLR.out]
      exact ⟨rfl,HBR.out.trans (HBQ.out.mono HBR.out.size)⟩
   ·have d1:=Qtp hx
    have HX:=hQ (Qk6 HN.out HK.out (show t.text≠x from HTX.out ▸ hx))
    clear hx
    go_wp2
    go_roundw
    case measure=>first | (simp [intOf];done) | (simp [intOf];omega)
    case rel=>exact ⟨k+1,by go_num,by omega,HX,HW.out⟩
  ·obtain rfl:k=ps.length:=by omega
   have HV:=hQ (show Qby ps M s=(0,0,false) from Ze0 HD.out (by rw [HDV.out];exact HN.out))
   go_wp2
   try rw [Exit.noGoto_ret]
   go_ret3
   rw [HV.out]
   exact ⟨rfl,HBR.out⟩
theorem Qtq (S:Nat→Prop) (A:Option Addr) (c:Nat) (ps:List Tr) (M:Nat) (s:ByteArray) (w:World) (hp:TrAt S w (Qbp ps) ⟨0,⟨#[]⟩,none,0,0,A,ps.length,c⟩) (hf:Qhs (Qbp ps)=true) (hs:s.size≤maxLen) (hd:(Qj1 s).2.2=false) :
  Calls Tryz.prog 127 #[.slice A ps.length c,.int .i64 M,.string s] w fun e w'=>e = .returned (.tuple #[.int .i64 (Qby ps M s).1,.int .i64 (Qby ps M s).2.1,.bool (Qby ps M s).2.2])∧Below w.heap.size w w':=by
 have HP:=hQ hp
 have HF:=hQ hf
 have HD:=hQ hd
 have hl:=(Qds hf).2.1
 have hl':ps.length≤1900000000000:=hl
 clear hp hf hl
 obtain ⟨x,y,z,hdv⟩:∃ x y z,Qj1 s=(x,y,z):=⟨_,_,_,rfl⟩
 obtain rfl:z=false:=by rw [hdv] at hd;exact hd
 have HDV:=hQ hdv
 have HC:=hQ (show ∀ w,Calls Tryz.prog 174 #[.string s] w fun e w'=>e = .returned (.tuple #[.string x,.string y,.bool false])∧∃ n,w'=w.drewN n from fun w=>by have:=Qok s w hs;rw [hdv] at this;exact this)
 clear hd hdv hs
 go_enter Tryz.func127,Tryz.ntmps127
 go_wp2
 go_step3
 go_wp2_with (go_at_call 174;refine (HC.out _).mono ?_;rintro e w1 ⟨rfl,nq,rfl⟩)
 go_step3
 go_wp2
 go_loopw [24] (fun i wr=>∃ k:Nat,i = .int .i64 k∧k≤ps.length∧k≤M∧Below w.heap.size w wr) (fun i _=>ps.length-(intOf i).toNat)
 case atStart=>exact ⟨0,rfl,xZ _,xZ _,below_drewN (xC _ _) _⟩
 case round =>
  obtain ⟨k,rfl,hk,hn,hb⟩:=hrel
  obtain ⟨wo,hwo⟩:∃ w',w'=wr:=⟨_,rfl⟩
  subst hwo
  have HN:=hQ hn
  have HBR:=hQ hb
  clear hb
  by_cases hlt:k<ps.length
  ·obtain ⟨t,ht⟩:∃ t,ps[k]? = some t:=⟨_,xF hlt⟩
   obtain ⟨b,off,hka⟩:∃ b off,A=some ⟨b,off,none⟩:=HP.out.addr.resolve_left (by show ¬ ps.length=0;omega)
   subst hka
   obtain ⟨u,c0,c1,c2,c3,hu⟩:=(HP.out.keep HBR.out).at rfl (show (Qbp ps).kids[k]? = some t from ht)
   have HU:=hQ hu
   have HTX:=hQ hu.kl.2.2.2
   have HK:=hQ ht
   have cl:=xK wo _ c0
   have hk0:(0:Int)≤(k:Int):=by omega
   have hk1:(k:Int)<(ps.length:Int):=by omega
   have hk2:(k:Int)+1≤1900000000001:=by omega
   have HW:=hQ (HBR.out.trans (((xC wo.heap.size wo).alloc (xA _) (trO u)).mono HBR.out.size))
   clear hu ht
   by_cases hx:k=M
   ·have HX:=hQ hx
    subst hx
    have hl2:t.kids.length≤1900000000000:=(Qds ((Qds HF.out).2.2 k t HK.out)).2.1
    have hkl:u.kl=t.kids.length:=HU.out.kl.1
    have HLK:=hQ (show Qby ps k s=Qfh ps k y from by unfold Qby;rw [HDV.out];rfl)
    go_wp2
    go_loopw [48] (fun i wq=>∃ d:Nat,i = .int .i64 d∧d≤t.kids.length∧Hid (Qm0 t.kids y d)∧Below wo.heap.size wo wq) (fun i _=>t.kids.length-(intOf i).toNat)
    case atStart=>exact ⟨0,rfl,xZ _,hQ fun j t hj=>absurd hj (by omega),(xC wo.heap.size wo).alloc (xA _) _⟩
    case round =>
     obtain ⟨d,rfl,hd,hm,hb⟩:=hrel
     have HM:=hm
     have HBQ:=hQ hb
     clear hm hb
     by_cases hdl:d<t.kids.length
     ·obtain ⟨q,hq⟩:∃ q,t.kids[d]? = some q:=⟨_,xF hdl⟩
      obtain ⟨b2,off2,hua⟩:∃ b off,u.ka=some ⟨b,off,none⟩:=HU.out.addr.resolve_left (by omega)
      obtain ⟨v,e0,e1,e2,e3,hv⟩:=(HU.out.keep HBQ.out).at hua hq
      have HVX:=hQ hv.kl.2.2.2
      have HQ:=hQ hq
      have el:=xK wr _ e0
      have hd0:(0:Int)≤(d:Int):=by omega
      have hd1:(d:Int)<(t.kids.length:Int):=by omega
      have hd2:(d:Int)+1≤1900000000001:=by omega
      have HW2:=hQ (show ∀ o,Below wo.heap.size wo (wr.alloc o) from fun o=>HBQ.out.trans (((xC wr.heap.size wr).alloc (xA _) o).mono HBQ.out.size))
      clear hv hq
      by_cases hy:v.text=y
      ·have d2:=Qto hy
       have HLR:=hQ (show Qby ps k s=((k:Int),(d:Int),true) from HLK.out.trans (Qri HK.out HM.out HQ.out (HVX.out ▸ hy)))
       clear hy
       go_wp2
       refine bodyPost_ret (v:=.tuple #[.int .i64 k,.int .i64 d,.bool true]) (by simp [results,Tryz.results127,go_sem, *]) rfl ?_
       rw [HLR.out]
       exact ⟨rfl,HBR.out.trans ((HW2.out _).mono HBR.out.size)⟩
      ·have d2:=Qtp hy
       have HY:=hQ (Qk6 HM.out HQ.out (show q.text≠y from HVX.out ▸ hy))
       clear hy
       go_wp2
       go_roundw
       case measure=>first | (simp [intOf];done) | (simp [intOf];omega)
       case rel=>exact ⟨d+1,by go_num,by omega,HY,HW2.out _⟩
     ·obtain rfl:d=t.kids.length:=by omega
      have HLR:=hQ (show Qby ps k s=(0,0,false) from HLK.out.trans (Qrj HK.out HM.out))
      go_wp2
      try rw [Exit.noGoto_ret]
      go_ret3
      rw [HLR.out]
      exact ⟨rfl,HBR.out.trans (HBQ.out.mono HBR.out.size)⟩
   ·have HX:=hQ (show k+1≤M from by omega)
    have hxi:¬ (k:Int)=(M:Int):=by omega
    have q1:=Qck hxi
    have q2:((k:Int) != (M:Int))=true:=by rw [bne,q1];rfl
    have q3:(decide ((k:Int)=(M:Int)))=false:=xR hxi
    clear hn
    go_wp2
    go_roundw
    case measure=>first | (simp [intOf];done) | (simp [intOf];omega)
    case rel=>exact ⟨k+1,by go_num,by omega,HX.out,HW.out⟩
  ·obtain rfl:k=ps.length:=by omega
   have HV:=hQ (show Qby ps M s=(0,0,false) from by unfold Qby;rw [HDV.out];exact Zaj HN.out)
   go_wp2
   try rw [Exit.noGoto_ret]
   go_ret3
   rw [HV.out]
   exact ⟨rfl,HBR.out⟩
def Qc1 (ps:List Tr):Bool:=ps.all fun t=>decide (t.kind=1) && Qal t
def Qoo (ps:List Tr) (k:Nat):Prop:=∀ (j:Nat) (t:Tr),j<k→ps[j]? = some t→t.kind=1∧Qal t=true
theorem Qm5 {ps:List Tr} {k:Nat} {t:Tr} (h:Qoo ps k) (ht:ps[k]? = some t) (hk:t.kind=1) (hs:Qal t=true):Qoo ps (k+1):=fun j u hj hu=>by
 by_cases e:j=k
 ·subst e
  rw [ht] at hu
  injection hu with hu
  rw [←hu]
  exact ⟨hk,hs⟩
 ·exact h j u (by omega) hu
theorem Qp7 {ps:List Tr} (h:Qoo ps ps.length):Qc1 ps=true:=by
 unfold Qc1
 rw [List.all_eq_true]
 intro t ht
 obtain ⟨j,hj,he⟩:=List.getElem_of_mem ht
 have:=h j t hj (by rw [xF hj,he])
 simp [this.1,this.2]
theorem Qiz {ps:List Tr} {k:Nat} {t:Tr} (ht:ps[k]? = some t) (h:¬ (t.kind=1∧Qal t=true)):Qc1 ps=false:=by
 cases e:Qc1 ps with
 | false=>rfl
 | true =>
  unfold Qc1 at e
  rw [List.all_eq_true] at e
  have:=e t (yA ht)
  simp at this
  exact absurd this h
theorem Qm6 (S:Nat→Prop) (A:Option Addr) (c:Nat) (ps:List Tr) (w:World) (hp:TrAt S w (Qbp ps) ⟨0,⟨#[]⟩,none,0,0,A,ps.length,c⟩) (hf:Qbg (Qbp ps)=true) (hw:Qbh (Qbp ps)=true) :
  Calls Tryz.prog 126 #[.slice A ps.length c] w fun e w'=>e = .returned (.bool (Qc1 ps))∧Below w.heap.size w w':=by
 have HP:=hQ hp
 have HF:=hQ (Qb8 hf).2.2
 have HWD:=hQ (Qb3 hw).2.2
 have hl:ps.length≤140737488355328:=(Qb8 hf).2.1
 clear hp hf hw
 go_enter Tryz.func126,Tryz.ntmps126
 go_wp2
 go_loopw [7] (fun i wr=>∃ k:Nat,i = .int .i64 k∧k≤ps.length∧Hid (Qoo ps k)∧Below w.heap.size w wr) (fun i _=>ps.length-(intOf i).toNat)
 case atStart=>exact ⟨0,rfl,xZ _,hQ fun j t hj=>absurd hj (by omega),xC _ _⟩
 case round =>
  obtain ⟨k,rfl,hk,hn,hb⟩:=hrel
  have HN:=hn
  have HBR:=hQ hb
  clear hn hb
  by_cases hlt:k<ps.length
  ·obtain ⟨t,ht⟩:∃ t,ps[k]? = some t:=⟨_,xF hlt⟩
   obtain ⟨b,off,hka⟩:∃ b off,A=some ⟨b,off,none⟩:=HP.out.addr.resolve_left (by show ¬ ps.length=0;omega)
   subst hka
   obtain ⟨u,c0,c1,c2,c3,hu⟩:=(HP.out.keep HBR.out).at rfl (show (Qbp ps).kids[k]? = some t from ht)
   have HU:=hQ hu
   have HTX:=hQ hu.kl.2.2.1
   have HK:=hQ ht
   have cl:=xK wr _ c0
   have hk0:(0:Int)≤(k:Int):=by omega
   have hk1:(k:Int)<(ps.length:Int):=by omega
   have hk2:(k:Int)+1≤1900000000000001:=by omega
   have HA:=hQ ((xC wr.heap.size wr).alloc (xA _) (trO u))
   have HC:=hQ (Qk4 _ S t u (wr.alloc (trO u)) (xA _) (HU.out.keep HA.out) (HF.out k t HK.out) (HWD.out k t HK.out))
   clear hu ht
   obtain ⟨vk,vx,vla,vll,vlc,vka,vkl,vkc⟩:=u
   by_cases hx:vk=1
   ·subst hx
    have HX:=hQ (show t.kind=1 from HTX.out.symm)
    by_cases hs:Qal t=true
    ·have HS:=hQ hs
     rw [hs] at HC
     clear hs
     go_wp2_with (go_at_call 91;refine HC.out.mono ?_;rintro e w1 ⟨rfl,hb⟩;have HB1:=hQ (HA.out.trans (hb.mono HA.out.size));clear hb)
     go_roundw
     case measure=>first | (simp [intOf];done) | (simp [intOf];omega)
     case rel=>exact ⟨k+1,by go_num,by omega,hQ (Qm5 HN.out HK.out HX.out HS.out),HBR.out.trans (HB1.out.mono HBR.out.size)⟩
    ·have hs':Qal t=false:=by simpa using hs
     have HV:=hQ (Qiz HK.out (fun h=>hs h.2))
     rw [hs'] at HC
     clear hs hs'
     go_wp2_with (go_at_call 91;refine HC.out.mono ?_;rintro e w1 ⟨rfl,hb⟩;have HB1:=hQ (HA.out.trans (hb.mono HA.out.size));clear hb)
     refine bodyPost_ret (v:=.bool false) (by simp [results,Tryz.results126,go_sem, *]) rfl ?_
     rw [HV.out]
     exact ⟨rfl,HBR.out.trans (HB1.out.mono HBR.out.size)⟩
   ·have q1:=Qck hx
    have HV:=hQ (Qiz HK.out (fun h=>hx (HTX.out.trans h.1)))
    go_wp2
    refine bodyPost_ret (v:=.bool false) (by simp [results,Tryz.results126,go_sem, *]) rfl ?_
    rw [HV.out]
    exact ⟨rfl,HBR.out.trans (HA.out.mono HBR.out.size)⟩
  ·obtain rfl:k=ps.length:=by omega
   have HV:=hQ (Qp7 HN.out)
   go_wp2
   try rw [Exit.noGoto_ret]
   first | go_ret3 | go_ret
   rw [HV.out]
   exact ⟨rfl,HBR.out⟩
theorem Qt5 (S:Nat→Prop) (A:Option Addr) (c:Nat) (ps:List Tr) (w:World) (hp:TrAt S w (Qbp ps) ⟨0,⟨#[]⟩,none,0,0,A,ps.length,c⟩) (hf:Qbg (Qbp ps)=true) (hz:∀ t∈ps,Qah t≤1000) (hw:Qbh (Qbp ps)=true) :
  Calls Tryz.prog 24 #[.slice A ps.length c] w fun e w'=>e = .returned (.bool (Qc1 ps))∧Below w.heap.size w w':=by
 have HP:=hQ hp
 have HF:=hQ (Qb8 hf).2.2
 have HWD:=hQ (Qb3 hw).2.2
 have hl:ps.length≤140737488355328:=(Qb8 hf).2.1
 have HZ:=hQ hz
 clear hp hf hw hz
 go_enter Tryz.func24,Tryz.ntmps24
 go_wp2
 go_loopw [3] (fun i wr=>∃ k:Nat,i = .int .i64 k∧k≤ps.length∧Hid (Qoo ps k)∧Below w.heap.size w wr) (fun i _=>ps.length-(intOf i).toNat)
 case atStart=>exact ⟨0,rfl,xZ _,hQ fun j t hj=>absurd hj (by omega),xC _ _⟩
 case round =>
  obtain ⟨k,rfl,hk,hn,hb⟩:=hrel
  have HN:=hn
  have HBR:=hQ hb
  clear hn hb
  by_cases hlt:k<ps.length
  ·obtain ⟨t,ht⟩:∃ t,ps[k]? = some t:=⟨_,xF hlt⟩
   obtain ⟨b,off,hka⟩:∃ b off,A=some ⟨b,off,none⟩:=HP.out.addr.resolve_left (by show ¬ ps.length=0;omega)
   subst hka
   obtain ⟨u,c0,c1,c2,c3,hu⟩:=(HP.out.keep HBR.out).at rfl (show (Qbp ps).kids[k]? = some t from ht)
   have HU:=hQ hu
   have HTX:=hQ hu.kl.2.2.1
   have HK:=hQ ht
   have cl:=xK wr _ c0
   have hk0:(0:Int)≤(k:Int):=by omega
   have hk1:(k:Int)<(ps.length:Int):=by omega
   have hk2:(k:Int)+1≤1900000000000001:=by omega
   have HE:=hQ (Qcw _ t (xA _) (HZ.out t (yA ht)))
   have HC:=hQ (fun w' (hb:Below wr.heap.size wr w')=>Qgo _ S t u w' (xA _) (HU.out.keep hb) (HZ.out t (yA ht)) (HWD.out k t HK.out))
   clear hu ht
   obtain ⟨vk,vx,vla,vll,vlc,vka,vkl,vkc⟩:=u
   by_cases hx:vk=1
   ·subst hx
    have HX:=hQ (show t.kind=1 from HTX.out.symm)
    by_cases hs:Qal t=true
    ·have HS:=hQ hs
     rw [HE.out,hs] at HC
     clear hs
     go_wp2_with (go_at_call 50;refine (HC.out _ (xC _ _)).mono ?_;rintro e w1 ⟨rfl,hb⟩;have HB1:=hQ hb;clear hb)
     go_roundw
     case measure=>first | (simp [intOf];done) | (simp [intOf];omega)
     case rel=>exact ⟨k+1,by go_num,by omega,hQ (Qm5 HN.out HK.out HX.out HS.out),HBR.out.trans (HB1.out.mono HBR.out.size)⟩
    ·have hs':Qal t=false:=by simpa using hs
     have HV:=hQ (Qiz HK.out (fun h=>hs h.2))
     rw [HE.out,hs'] at HC
     clear hs hs'
     go_wp2_with (go_at_call 50;refine (HC.out _ (xC _ _)).mono ?_;rintro e w1 ⟨rfl,hb⟩;have HB1:=hQ hb;clear hb)
     refine bodyPost_ret (v:=.bool false) (by simp [results,Tryz.results24,go_sem, *]) rfl ?_
     rw [HV.out]
     exact ⟨rfl,HBR.out.trans (HB1.out.mono HBR.out.size)⟩
   ·have q1:=Qck hx
    have HV:=hQ (Qiz HK.out (fun h=>hx (HTX.out.trans h.1)))
    go_wp2
    refine bodyPost_ret (v:=.bool false) (by simp [results,Tryz.results24,go_sem, *]) rfl ?_
    rw [HV.out]
    exact ⟨rfl,HBR.out⟩
  ·obtain rfl:k=ps.length:=by omega
   have HV:=hQ (Qp7 HN.out)
   go_wp2
   try rw [Exit.noGoto_ret]
   first | go_ret3 | go_ret
   rw [HV.out]
   exact ⟨rfl,HBR.out⟩
def Qfp (ps:List Tr) (m:Int) (s:ByteArray):Int × Int × Bool:=if Qc1 ps=false∨m<0∨(ps.length:Int)≤m then (0,0,false) else Qby ps m.toNat s
theorem Qor (S:Nat→Prop) (A:Option Addr) (c:Nat) (ps:List Tr) (M:Nat) (s:ByteArray) (w:World) (hp:TrAt S w (Qbp ps) ⟨0,⟨#[]⟩,none,0,0,A,ps.length,c⟩) (hf:Qhs (Qbp ps)=true) (hs:s.size≤maxLen) (_hM:M<ps.length) :
  Calls Tryz.prog 127 #[.slice A ps.length c,.int .i64 M,.string s] w fun e w'=>e = .returned (.tuple #[.int .i64 (Qby ps M s).1,.int .i64 (Qby ps M s).2.1,.bool (Qby ps M s).2.2])∧Below w.heap.size w w':=by
 cases hd:(Qj1 s).2.2 with
 | true=>exact Qxi S A c ps M M s w hp hf hs hd
 | false=>exact Qtq S A c ps M s w hp hf hs hd
theorem Qx4 (S:Nat→Prop) (A:Option Addr) (c:Nat) (ps:List Tr) (m:Int) (s:ByteArray) (w:World) (hp:TrAt S w (Qbp ps) ⟨0,⟨#[]⟩,none,0,0,A,ps.length,c⟩) (hf:Qhs (Qbp ps)=true) (hsm:Qbg (Qbp ps)=true) (hw:Qbh (Qbp ps)=true) (hs:s.size≤maxLen) :
  Calls Tryz.prog 85 #[.slice A ps.length c,.int .i64 m,.string s] w fun e w'=>e = .returned (.tuple #[.int .i64 (Qfp ps m s).1,.int .i64 (Qfp ps m s).2.1,.bool (Qfp ps m s).2.2])∧Below w.heap.size w w':=by
 have HC:=hQ (fun w' (hb:Below w.heap.size w w')=>Qm6 S A c ps w' (hp.keep hb) hsm hw)
 have HM:=hQ (fun (M:Nat) (hM:M<ps.length) w' (hb:Below w.heap.size w w')=>Qor S A c ps M s w' (hp.keep hb) hf hs hM)
 have hl:ps.length≤1900000000000:=(Qds hf).2.1
 clear hp hf hsm hw hs
 cases hg:Qc1 ps with
 | false =>
  have HV:=hQ (show Qfp ps m s=(0,0,false) from by unfold Qfp;rw [hg];simp)
  rw [hg] at HC
  clear hg HM
  go_enter Tryz.func85,Tryz.ntmps85
  go_wp2_with (go_at_call 126;refine (HC.out _ (by first | exact xC _ _ | exact below_drewN (xC _ _) _)).mono ?_;rintro e w1 ⟨rfl,hb⟩;have HB1:=hQ hb;clear hb)
  refine bodyPost_ret (v:=.tuple #[.int .i64 0,.int .i64 0,.bool false]) (by simp [results,Tryz.results85,go_sem, *]) rfl ?_
  rw [HV.out]
  exact ⟨rfl,HB1.out⟩
 | true =>
  rw [hg] at HC
  by_cases h0:m<0
  ·have HV:=hQ (show Qfp ps m s=(0,0,false) from by unfold Qfp;rw [xO (.inr (.inl h0))])
   clear hg HM
   go_enter Tryz.func85,Tryz.ntmps85
   go_wp2_with (go_at_call 126;refine (HC.out _ (by first | exact xC _ _ | exact below_drewN (xC _ _) _)).mono ?_;rintro e w1 ⟨rfl,hb⟩;have HB1:=hQ hb;clear hb)
   refine bodyPost_ret (v:=.tuple #[.int .i64 0,.int .i64 0,.bool false]) (by simp [results,Tryz.results85,go_sem, *]) rfl ?_
   rw [HV.out]
   exact ⟨rfl,HB1.out⟩
  ·by_cases h1:(ps.length:Int)≤m
   ·have HV:=hQ (show Qfp ps m s=(0,0,false) from by unfold Qfp;rw [xO (.inr (.inr h1))])
    clear hg HM
    go_enter Tryz.func85,Tryz.ntmps85
    go_wp2_with (go_at_call 126;refine (HC.out _ (by first | exact xC _ _ | exact below_drewN (xC _ _) _)).mono ?_;rintro e w1 ⟨rfl,hb⟩;have HB1:=hQ hb;clear hb)
    refine bodyPost_ret (v:=.tuple #[.int .i64 0,.int .i64 0,.bool false]) (by simp [results,Tryz.results85,go_sem, *]) rfl ?_
    rw [HV.out]
    exact ⟨rfl,HB1.out⟩
   ·obtain ⟨M,rfl⟩:∃ M:Nat,m=(M:Int):=⟨m.toNat,by omega⟩
    have HV:=hQ (show Qfp ps M s=Qby ps M s from by unfold Qfp;rw [xN (by rw [hg];simp;omega)];rfl)
    have HI:=hQ (HM.out M (by omega))
    have hnn:(0:Int)≤(M:Int):=by omega
    have hlt:(M:Int)<(ps.length:Int):=by omega
    rw [HV.out]
    obtain ⟨r0,hr0⟩:∃ r,r=Qby ps M s:=⟨_,rfl⟩
    rw [←hr0] at HI ⊢
    clear hg HM hr0 HV
    go_enter Tryz.func85,Tryz.ntmps85
    go_wp2_with (first | (go_at_call 126;refine (HC.out _ (by first | exact xC _ _ | exact below_drewN (xC _ _) _)).mono ?_;rintro e w1 ⟨rfl,hb⟩;have HB1:=hQ hb;clear hb) | (go_at_call 127;refine (HI.out _ HB1.out).mono ?_;rintro e w2 ⟨rfl,hb⟩;have HB2:=hQ hb;clear hb))
    refine bodyPost_ret (v:=.tuple #[.int .i64 r0.1,.int .i64 r0.2.1,.bool r0.2.2]) (by simp [results,Tryz.results85,go_sem, *]) rfl ?_
    exact ⟨rfl,HB1.out.trans (HB2.out.mono HB1.out.size)⟩
end Go.Proofs.YtclkilljmdkfaaaGreat

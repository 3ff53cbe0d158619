/- Part 27: Plain: what a word means in a program; the contract of lookup of package link. -/
import Derived.Test.YtclkilljmdkfaaaTy1
import Derived.Test.YtclkilljmdkfaaaTy25
import Derived.Test.YtclkilljmdkfaaaTy26
import Derived.Deep.LoopGhost
set_option maxRecDepth 100000
set_option maxHeartbeats 4000000
namespace Go.Proofs.Ytclkilljmdkfaaa
open Go.RowKit
def Qa3 (ps:List Tr):Tr:=.mk 0 ⟨#[]⟩ [] ps
def kidG:List Tr → ByteArray → Nat
 | [],_=>0
 | t :: r,x=>if t.text = x then 0 else kidG r x + 1
def NoKid (l:List Tr) (x:ByteArray) (k:Nat):Prop:=∀ (j:Nat) (t:Tr),j < k → l[j]? = some t → t.text ≠ x
theorem nokid_more {l:List Tr} {x:ByteArray} {k:Nat} {t:Tr} (h:NoKid l x k) (ht:l[k]? = some t) (hx:t.text ≠ x):NoKid l x (k + 1):=fun j u hj hu=>by
 by_cases e:j = k
 ·subst e
  rw [ht] at hu
  injection hu with hu
  rw [← hu]
  exact hx
 ·exact h j u (by omega) hu
theorem kid_here:(l:List Tr) → (x:ByteArray) → (k:Nat) → (t:Tr) → NoKid l x k → l[k]? = some t → t.text = x → kidG l x = k
 | [],_,k,t,_,h,_=>by simp at h
 | a :: r,x,0,t,_,h,hx=>by simp at h;subst h;rw [kidG,if_pos hx]
 | a :: r,x,k + 1,t,hn,h,hx=>by
  rw [kidG,if_neg (hn 0 a (by omega) rfl),kid_here r x k t (fun j u hj hu=>hn (j + 1) u (by omega) (by simpa using hu)) (by simpa using h) hx]
theorem kid_none:(l:List Tr) → (x:ByteArray) → NoKid l x l.length → kidG l x = l.length
 | [],_,_=>rfl
 | a :: r,x,hn=>by
  rw [kidG,if_neg (hn 0 a (by simp) rfl),kid_none r x (fun j u hj hu=>hn (j + 1) u (by simp;omega) (by simpa using hu)),xD]
def Qc9 (ps:List Tr) (i:Nat) (x:ByteArray):Int × Int × Bool:=if kidG ((ps[i]?).getD noTr).kids x < ((ps[i]?).getD noTr).kids.length then ((i:Int),(kidG ((ps[i]?).getD noTr).kids x:Nat),true) else (0,0,false)
def Qaw (ps:List Tr) (m:Nat) (s:ByteArray):Int × Int × Bool :=
 if (divP s).2.2 then (if kidG ps (divP s).1 < ps.length then Qc9 ps (kidG ps (divP s).1) (divP s).2.1 else (0,0,false)) else Qc9 ps m (divP s).2.1
theorem look_yes {ps:List Tr} {s:ByteArray} {m k:Nat} {t:Tr} (hd:(divP s).2.2 = true) (hn:NoKid ps (divP s).1 k) (ht:ps[k]? = some t) (hx:t.text = (divP s).1):Qaw ps m s = Qc9 ps k (divP s).2.1:=by
 unfold Qaw
 rw [if_pos hd,kid_here _ _ _ t hn ht hx,if_pos (List.getElem?_eq_some_iff.1 ht).1]
theorem look_not {ps:List Tr} {s:ByteArray} {m:Nat} (hd:(divP s).2.2 = true) (hn:NoKid ps (divP s).1 ps.length):Qaw ps m s = (0,0,false):=by
 unfold Qaw
 rw [if_pos hd,kid_none _ _ hn,if_neg (Nat.lt_irrefl _)]
theorem inMod_yes {ps:List Tr} {i d:Nat} {x:ByteArray} {t k:Tr} (ht:ps[i]? = some t) (hn:NoKid t.kids x d) (hk:t.kids[d]? = some k) (hx:k.text = x):Qc9 ps i x = ((i:Int),(d:Int),true):=by
 unfold Qc9
 rw [ht,Option.getD_some,kid_here _ _ _ k hn hk hx,if_pos (List.getElem?_eq_some_iff.1 hk).1]
theorem inMod_not {ps:List Tr} {i:Nat} {x:ByteArray} {t:Tr} (ht:ps[i]? = some t) (hn:NoKid t.kids x t.kids.length):Qc9 ps i x = (0,0,false):=by
 unfold Qc9
 rw [ht,Option.getD_some,kid_none _ _ hn,if_neg (Nat.lt_irrefl _)]
theorem text_eq {x y:ByteArray} (h:x = y):(x.toList == y.toList) = true:=by subst h;simp
theorem text_ne {x y:ByteArray} (h:x ≠ y):(x.toList == y.toList) = false:=by
 cases e:(x.toList == y.toList) with
 | false=>rfl
 | true=>exact absurd (same_text e) h
theorem inMod_out {ps:List Tr} {i:Nat} {x:ByteArray} (h:ps.length ≤ i):Qc9 ps i x = (0,0,false):=by
 unfold Qc9
 rw [List.getElem?_eq_none h,Option.getD_none,if_neg (by simp [noTr,Tr.kids,kidG])]
theorem lookup_dot (S:Nat → Prop) (A:Option Addr) (c:Nat) (ps:List Tr) (m:Int) (M:Nat) (s:ByteArray) (w:World) (hp:TrAt S w (Qa3 ps) ⟨0,⟨#[]⟩,none,0,0,A,ps.length,c⟩) (hf:fitT (Qa3 ps) = true) (hs:s.size ≤ maxLen) (hd:(divP s).2.2 = true) :
  Calls Try.prog 41 #[.slice A ps.length c,.int .i64 m,.string s] w fun e w'=>e = .returned (.tuple #[.int .i64 (Qaw ps M s).1,.int .i64 (Qaw ps M s).2.1,.bool (Qaw ps M s).2.2]) ∧ Below w.heap.size w w':=by
 have HP:=hQ hp
 have HF:=hQ hf
 have HD:=hQ hd
 have hl:=(Qcj hf).2.1
 have hl':ps.length ≤ 1900000000000:=hl
 clear hp hf hl
 obtain ⟨x,y,z,hdv⟩:∃ x y z,divP s = (x,y,z):=⟨_,_,_,rfl⟩
 obtain rfl:z = true:=by rw [hdv] at hd;exact hd
 have HDV:=hQ hdv
 have HC:=hQ (show ∀ w,Calls Try.prog 60 #[.string s] w fun e w'=>e = .returned (.tuple #[.string x,.string y,.bool true]) ∧ ∃ n,w' = w.drewN n from fun w=>by have:=divide_any s w hs;rw [hdv] at this;exact this)
 clear hd hdv hs
 go_enter Try.func41,Try.ntmps41
 go_wp2
 go_step3
 go_wp2_with (go_at_call 60;refine (HC.out _).mono ?_;rintro e w1 ⟨rfl,nq,rfl⟩)
 go_step3
 go_wp2
 go_loopw [24] (fun i wr=>∃ k:Nat,i = .int .i64 k ∧ k ≤ ps.length ∧ Hid (NoKid ps x k) ∧ Below w.heap.size w wr) (fun i _=>ps.length - (intOf i).toNat)
 case atStart=>exact ⟨0,rfl,Nat.zero_le _,hQ fun j t hj=>absurd hj (by omega),below_drewN (xC _ _) _⟩
 case round =>
  obtain ⟨k,rfl,hk,hn,hb⟩:=hrel
  obtain ⟨wo,hwo⟩:∃ w',w' = wr:=⟨_,rfl⟩
  subst hwo
  have HN:=hn
  have HBR:=hQ hb
  clear hn hb
  by_cases hlt:k < ps.length
  ·obtain ⟨t,ht⟩:∃ t,ps[k]? = some t:=⟨_,xF hlt⟩
   obtain ⟨b,off,hka⟩:∃ b off,A = some ⟨b,off,none⟩:=HP.out.addr.resolve_left (by show ¬ ps.length = 0;omega)
   subst hka
   obtain ⟨u,c0,c1,c2,c3,hu⟩:=(HP.out.keep HBR.out).at rfl (show (Qa3 ps).kids[k]? = some t from ht)
   have HU:=hQ hu
   have HTX:=hQ hu.kl.2.2.2
   have HK:=hQ ht
   have cl:=xK wo _ c0
   have hk0:(0:Int) ≤ (k:Int):=by omega
   have hk1:(k:Int) < (ps.length:Int):=by omega
   have hk2:(k:Int) + 1 ≤ 1900000000001:=by omega
   have HW:=hQ (HBR.out.trans (((xC wo.heap.size wo).alloc (xA _) (trO u)).mono HBR.out.size))
   clear hu ht
   by_cases hx:u.text = x
   ·have d1:=text_eq hx
    have HX:=hQ (show t.text = x from HTX.out ▸ hx)
    clear hx
    have hl2:t.kids.length ≤ 1900000000000:=(Qcj ((Qcj HF.out).2.2 k t HK.out)).2.1
    have hkl:u.kl = t.kids.length:=HU.out.kl.1
    have HLK:=hQ (show Qaw ps M s = Qc9 ps k y from by have:=look_yes (m:=M) HD.out (by rw [HDV.out];exact HN.out) HK.out (by rw [HDV.out];exact HX.out);rw [this,HDV.out])
    go_wp2
    go_loopw [48] (fun i wq=>∃ d:Nat,i = .int .i64 d ∧ d ≤ t.kids.length ∧ Hid (NoKid t.kids y d) ∧ Below wo.heap.size wo wq) (fun i _=>t.kids.length - (intOf i).toNat)
    case atStart=>exact ⟨0,rfl,Nat.zero_le _,hQ fun j t hj=>absurd hj (by omega),(xC wo.heap.size wo).alloc (xA _) _⟩
    case round =>
     obtain ⟨d,rfl,hd,hm,hb⟩:=hrel
     have HM:=hm
     have HBQ:=hQ hb
     clear hm hb
     by_cases hdl:d < t.kids.length
     ·obtain ⟨q,hq⟩:∃ q,t.kids[d]? = some q:=⟨_,xF hdl⟩
      obtain ⟨b2,off2,hua⟩:∃ b off,u.ka = some ⟨b,off,none⟩:=HU.out.addr.resolve_left (by omega)
      obtain ⟨v,e0,e1,e2,e3,hv⟩:=(HU.out.keep HBQ.out).at hua hq
      have HVX:=hQ hv.kl.2.2.2
      have HQ:=hQ hq
      have el:=xK wr _ e0
      have hd0:(0:Int) ≤ (d:Int):=by omega
      have hd1:(d:Int) < (t.kids.length:Int):=by omega
      have hd2:(d:Int) + 1 ≤ 1900000000001:=by omega
      have HW2:=hQ (show ∀ o,Below wo.heap.size wo (wr.alloc o) from fun o=>HBQ.out.trans (((xC wr.heap.size wr).alloc (xA _) o).mono HBQ.out.size))
      clear hv hq
      by_cases hy:v.text = y
      ·have d2:=text_eq hy
       have HLR:=hQ (show Qaw ps M s = ((k:Int),(d:Int),true) from HLK.out.trans (inMod_yes HK.out HM.out HQ.out (HVX.out ▸ hy)))
       clear hy
       go_wp2
       refine bodyPost_ret (v:=.tuple #[.int .i64 k,.int .i64 d,.bool true]) (by simp [results,Try.results41,go_sem, *]) rfl ?_
       rw [HLR.out]
       exact ⟨rfl,HBR.out.trans ((HW2.out _).mono HBR.out.size)⟩
      ·have d2:=text_ne hy
       have HY:=hQ (nokid_more HM.out HQ.out (show q.text ≠ y from HVX.out ▸ hy))
       clear hy
       go_wp2
       go_roundw
       case measure=>first | (simp [intOf];done) | (simp [intOf];omega)
       case rel=>exact ⟨d + 1,by go_num,by omega,HY,HW2.out _⟩
     ·obtain rfl:d = t.kids.length:=by omega
      have HLR:=hQ (show Qaw ps M s = (0,0,false) from HLK.out.trans (inMod_not HK.out HM.out))
      go_wp2
      try rw [Exit.noGoto_ret]
      go_ret3
      rw [HLR.out]
      exact ⟨rfl,HBR.out.trans (HBQ.out.mono HBR.out.size)⟩
   ·have d1:=text_ne hx
    have HX:=hQ (nokid_more HN.out HK.out (show t.text ≠ x from HTX.out ▸ hx))
    clear hx
    go_wp2
    go_roundw
    case measure=>first | (simp [intOf];done) | (simp [intOf];omega)
    case rel=>exact ⟨k + 1,by go_num,by omega,HX,HW.out⟩
  ·obtain rfl:k = ps.length:=by omega
   have HV:=hQ (show Qaw ps M s = (0,0,false) from look_not HD.out (by rw [HDV.out];exact HN.out))
   go_wp2
   try rw [Exit.noGoto_ret]
   go_ret3
   rw [HV.out]
   exact ⟨rfl,HBR.out⟩
theorem lookup_bare (S:Nat → Prop) (A:Option Addr) (c:Nat) (ps:List Tr) (M:Nat) (s:ByteArray) (w:World) (hp:TrAt S w (Qa3 ps) ⟨0,⟨#[]⟩,none,0,0,A,ps.length,c⟩) (hf:fitT (Qa3 ps) = true) (hs:s.size ≤ maxLen) (hd:(divP s).2.2 = false) :
  Calls Try.prog 41 #[.slice A ps.length c,.int .i64 M,.string s] w fun e w'=>e = .returned (.tuple #[.int .i64 (Qaw ps M s).1,.int .i64 (Qaw ps M s).2.1,.bool (Qaw ps M s).2.2]) ∧ Below w.heap.size w w':=by
 have HP:=hQ hp
 have HF:=hQ hf
 have HD:=hQ hd
 have hl:=(Qcj hf).2.1
 have hl':ps.length ≤ 1900000000000:=hl
 clear hp hf hl
 obtain ⟨x,y,z,hdv⟩:∃ x y z,divP s = (x,y,z):=⟨_,_,_,rfl⟩
 obtain rfl:z = false:=by rw [hdv] at hd;exact hd
 have HDV:=hQ hdv
 have HC:=hQ (show ∀ w,Calls Try.prog 60 #[.string s] w fun e w'=>e = .returned (.tuple #[.string x,.string y,.bool false]) ∧ ∃ n,w' = w.drewN n from fun w=>by have:=divide_any s w hs;rw [hdv] at this;exact this)
 clear hd hdv hs
 go_enter Try.func41,Try.ntmps41
 go_wp2
 go_step3
 go_wp2_with (go_at_call 60;refine (HC.out _).mono ?_;rintro e w1 ⟨rfl,nq,rfl⟩)
 go_step3
 go_wp2
 go_loopw [24] (fun i wr=>∃ k:Nat,i = .int .i64 k ∧ k ≤ ps.length ∧ k ≤ M ∧ Below w.heap.size w wr) (fun i _=>ps.length - (intOf i).toNat)
 case atStart=>exact ⟨0,rfl,Nat.zero_le _,Nat.zero_le _,below_drewN (xC _ _) _⟩
 case round =>
  obtain ⟨k,rfl,hk,hn,hb⟩:=hrel
  obtain ⟨wo,hwo⟩:∃ w',w' = wr:=⟨_,rfl⟩
  subst hwo
  have HN:=hQ hn
  have HBR:=hQ hb
  clear hb
  by_cases hlt:k < ps.length
  ·obtain ⟨t,ht⟩:∃ t,ps[k]? = some t:=⟨_,xF hlt⟩
   obtain ⟨b,off,hka⟩:∃ b off,A = some ⟨b,off,none⟩:=HP.out.addr.resolve_left (by show ¬ ps.length = 0;omega)
   subst hka
   obtain ⟨u,c0,c1,c2,c3,hu⟩:=(HP.out.keep HBR.out).at rfl (show (Qa3 ps).kids[k]? = some t from ht)
   have HU:=hQ hu
   have HTX:=hQ hu.kl.2.2.2
   have HK:=hQ ht
   have cl:=xK wo _ c0
   have hk0:(0:Int) ≤ (k:Int):=by omega
   have hk1:(k:Int) < (ps.length:Int):=by omega
   have hk2:(k:Int) + 1 ≤ 1900000000001:=by omega
   have HW:=hQ (HBR.out.trans (((xC wo.heap.size wo).alloc (xA _) (trO u)).mono HBR.out.size))
   clear hu ht
   by_cases hx:k = M
   ·have HX:=hQ hx
    subst hx
    have hl2:t.kids.length ≤ 1900000000000:=(Qcj ((Qcj HF.out).2.2 k t HK.out)).2.1
    have hkl:u.kl = t.kids.length:=HU.out.kl.1
    have HLK:=hQ (show Qaw ps k s = Qc9 ps k y from by unfold Qaw;rw [HDV.out];rfl)
    go_wp2
    go_loopw [48] (fun i wq=>∃ d:Nat,i = .int .i64 d ∧ d ≤ t.kids.length ∧ Hid (NoKid t.kids y d) ∧ Below wo.heap.size wo wq) (fun i _=>t.kids.length - (intOf i).toNat)
    case atStart=>exact ⟨0,rfl,Nat.zero_le _,hQ fun j t hj=>absurd hj (by omega),(xC wo.heap.size wo).alloc (xA _) _⟩
    case round =>
     obtain ⟨d,rfl,hd,hm,hb⟩:=hrel
     have HM:=hm
     have HBQ:=hQ hb
     clear hm hb
     by_cases hdl:d < t.kids.length
     ·obtain ⟨q,hq⟩:∃ q,t.kids[d]? = some q:=⟨_,xF hdl⟩
      obtain ⟨b2,off2,hua⟩:∃ b off,u.ka = some ⟨b,off,none⟩:=HU.out.addr.resolve_left (by omega)
      obtain ⟨v,e0,e1,e2,e3,hv⟩:=(HU.out.keep HBQ.out).at hua hq
      have HVX:=hQ hv.kl.2.2.2
      have HQ:=hQ hq
      have el:=xK wr _ e0
      have hd0:(0:Int) ≤ (d:Int):=by omega
      have hd1:(d:Int) < (t.kids.length:Int):=by omega
      have hd2:(d:Int) + 1 ≤ 1900000000001:=by omega
      have HW2:=hQ (show ∀ o,Below wo.heap.size wo (wr.alloc o) from fun o=>HBQ.out.trans (((xC wr.heap.size wr).alloc (xA _) o).mono HBQ.out.size))
      clear hv hq
      by_cases hy:v.text = y
      ·have d2:=text_eq hy
       have HLR:=hQ (show Qaw ps k s = ((k:Int),(d:Int),true) from HLK.out.trans (inMod_yes HK.out HM.out HQ.out (HVX.out ▸ hy)))
       clear hy
       go_wp2
       refine bodyPost_ret (v:=.tuple #[.int .i64 k,.int .i64 d,.bool true]) (by simp [results,Try.results41,go_sem, *]) rfl ?_
       rw [HLR.out]
       exact ⟨rfl,HBR.out.trans ((HW2.out _).mono HBR.out.size)⟩
      ·have d2:=text_ne hy
       have HY:=hQ (nokid_more HM.out HQ.out (show q.text ≠ y from HVX.out ▸ hy))
       clear hy
       go_wp2
       go_roundw
       case measure=>first | (simp [intOf];done) | (simp [intOf];omega)
       case rel=>exact ⟨d + 1,by go_num,by omega,HY,HW2.out _⟩
     ·obtain rfl:d = t.kids.length:=by omega
      have HLR:=hQ (show Qaw ps k s = (0,0,false) from HLK.out.trans (inMod_not HK.out HM.out))
      go_wp2
      try rw [Exit.noGoto_ret]
      go_ret3
      rw [HLR.out]
      exact ⟨rfl,HBR.out.trans (HBQ.out.mono HBR.out.size)⟩
   ·have HX:=hQ (show k + 1 ≤ M from by omega)
    have hxi:¬ (k:Int) = (M:Int):=by omega
    have q1:=beqF hxi
    have q2:((k:Int) != (M:Int)) = true:=by rw [bne,q1];rfl
    have q3:(decide ((k:Int) = (M:Int))) = false:=decide_eq_false hxi
    clear hn
    go_wp2
    go_roundw
    case measure=>first | (simp [intOf];done) | (simp [intOf];omega)
    case rel=>exact ⟨k + 1,by go_num,by omega,HX.out,HW.out⟩
  ·obtain rfl:k = ps.length:=by omega
   have HV:=hQ (show Qaw ps M s = (0,0,false) from by unfold Qaw;rw [HDV.out];exact inMod_out HN.out)
   go_wp2
   try rw [Exit.noGoto_ret]
   go_ret3
   rw [HV.out]
   exact ⟨rfl,HBR.out⟩
end Go.Proofs.Ytclkilljmdkfaaa

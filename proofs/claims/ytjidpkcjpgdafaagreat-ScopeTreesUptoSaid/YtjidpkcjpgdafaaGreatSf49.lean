/- Part 49 -/
import Derived.Test.YtjidpkcjpgdafaaGreatSf46
set_option maxRecDepth 100000
set_option maxHeartbeats 4000000
namespace Go.Proofs.YtjidpkcjpgdafaaGreat
open Go.RowKit Go.Shelf
section
variable {P:Program} {w:World}
theorem Qjq {ops:Array Oper} {o:Oper} {a:Act} {K:Act→World→Prop} {Q:Exit→Act→World→Prop} {E:Prop} (hgd:o.guard=none) (s x:Operand) (t:TypeId)
  (ho:o.op = .call { callee:=.builtin .append,args:=#[s,x],argTypes:=#[t,t] }) (e:TypeId) (i:TypeInfo) (ht:P.underlying t=some (.slice e)) (hi:P.info? e=some i)
  {ad:Addr} {n cap:Nat} (hs:a.eval s = .slice (some ad) n cap) (hn:n≤cap) {A:Option Addr} {m c:Nat} (hm:m=0) (hx:a.eval x = .slice A m c) (h:K (a.put o.dst (.slice (some ad) n cap)) w) :
  if Region.wanted o (yielded ops a.tmps)=true then Oper.wp P o a w K Q else E:=by
 subst hm
 have hw:Region.wanted o (yielded ops a.tmps)=true:=by simp [Region.wanted,hgd]
 rw [xO hw]
 have hr:(Builtin.append_ #[t,t] o.type #[.slice (some ad) n cap,.slice A 0 c]).run P w = .ok (.slice (some ad) n cap) w:=by
  cases A <;> simp [Builtin.append_,run_underlying ht,sizeOf,typeInfo,hi,Builtin.lenOf,Builtin.firstCells,loadCells,loadCellsFrom,hn,storeCells]
 unfold Oper.wp execOp
 simp only [ho,resolve,invoke,builtin,Sem.run_bind,Sem.run_pure,Result.andThen_ok,List.map_toArray,List.map_cons,List.map_nil,hs,hx,hr]
 exact h
end
def QStep (B:Nat) (w w':World):Prop:=∀ lb,PStep B lb w w'
theorem IntRow.qstep {B:Nat} {w w':World} {v:Value} {p:List Int} (h:IntRow w B v p) (hs:QStep B w w'):IntRow w' B v p:=by
 refine ⟨h.1,?_⟩
 rcases h.2 with h0|⟨g,cap,cur,hv,hb,hh,hr⟩
 ·exact .inl h0
 ·exact .inr ⟨g,cap,cur,hv,hb,(hs (g+1)).other hh (by omega) (by decide),hr⟩
theorem QStep.other {B k:Nat} {w w':World} {cs:Array Value} {T:TypeId} (h:QStep B w w') (hk:w.heap[k]? = some (.cells cs T (0,0))) (hT:T≠23):w'.heap[k]? = some (.cells cs T (0,0)):=(h (k+1)).other hk (by omega) hT
theorem QStep.low {B k:Nat} {w w':World} (h:QStep B w w') (hk:k<B) (hl:k<w.heap.size):w'.heap[k]? = w.heap[k]?:=(h (k+1)).block k hl (by omega) (.inl hk)
theorem QStep.trans {B:Nat} {u v w:World} (h:QStep B u v) (k:QStep B v w):QStep B u w:=fun lb=>(h lb).trans (k lb)
theorem QStep.below {B:Nat} {w w':World} (h:Below w.heap.size w w'):QStep B w w':=fun _=>PStep.below h
theorem Qga (w:World):(w.alloc (.cells #[] 3)).ownsRow w.heap.size 3 1 (.slice (some ⟨w.heap.size,0,none⟩) 0 0) 0 [] :=
 ⟨rfl,.inr ⟨w.heap.size,0,#[],rfl,xA _,xH w _,xA _,xZ _,rfl,rfl⟩⟩
theorem PsAt.push {w w':World} {B:Nat} {ps:List (List Int)} {L L':Value} {vs:List Value} (h2:w.ownsRow B 23 1 L ps.length vs) (h3:∀ (i:Nat) (v:Value) (p:List Int),vs[i]? = some v→ps[i]? = some p→IntRow w B v p)
  {x:Value} {p:List Int} (hx:IntRow w B x p) (ho:w'.ownsRow B 23 1 L' (ps.length+1) (vs ++ [x])) (hg:w.grownBy w' L.ownBlock):PsAt w' B L' (ps ++ [p]):=by
 have hs:QStep B w w':=fun lb=>PStep.grown h2 hg
 have hlen:vs.length=ps.length:=by have:=h2.1;omega
 refine ⟨vs ++ [x],by rw [xB];exact ho,fun i v q hv hq=>?_⟩
 by_cases hi:i<ps.length
 ·rw [yB (by omega)] at hv
  rw [yB (by omega)] at hq
  exact (h3 i v q hv hq).qstep hs
 ·have hi2:i=ps.length:=by
   have:=(xP.1 hq).1
   rw [xB] at this
   simp at this
   omega
  subst hi2
  rw [xX (by omega),hlen,Nat.sub_self] at hv
  rw [xX (by omega),Nat.sub_self] at hq
  simp at hv hq
  subst hv hq
  exact hx.qstep hs
theorem Qpw {W:World} {b:Nat} {j:Int} (h:W.heap[b]? = some (.cells #[.int .i64 j] 3 (0,0))):∀ (q:Nat) (x:Value),[Value.int .i64 j][q]? = some x→W.cell? ((⟨b,0,none⟩:Addr).add q)=some x:=fun q x hx=>by
 cases q with
 | zero =>
  injection hx with hx
  subst hx
  exact Qaa h 0 _ rfl
 | succ q=>simp at hx
theorem Qpx {w W:World} {g:Nat} {xs:List Value} (h:∀ (q:Nat) (u:Value),xs[q]? = some u→w.cell? ⟨g,0+q,none⟩=some u) (hb:Below w.heap.size w W):∀ (q:Nat) (u:Value),xs[q]? = some u→W.cell? ((⟨g,0,none⟩:Addr).add q)=some u:=fun q u hu=>by
 have h2:=h q u hu
 rw [show ((⟨g,0,none⟩:Addr).add q)=⟨g,0+q,none⟩ from by unfold Addr.add;split <;> simp_all]
 exact (xJ (w:=w) (a:=⟨g,0+q,none⟩) (hb.block g (xK w _ h2))).trans h2
def BelAt (B:Nat) (t:Tr) (p:List Int) (ps:List (List Int)) (W:World) (l i:Value) (wr:World):Prop :=
 ∃ j:Nat,i = .int .i64 j∧j≤t.kids.length∧PsAt wr B l (ps ++ p :: Qcn (t.kids.take j) 0 p)∧QStep B W wr
theorem Qsh (B:Nat) (N:Nat):∀ (S:Nat→Prop) (t:Tr) (v:TV) (A LA:Option Addr) (c LC:Nat) (p:List Int) (ps:List (List Int)) (w:World),SizeOf.sizeOf t≤N→TrAt S w t v→(∀ k,S k→k<B)→Qvg t=true→IntRow w B (.slice A p.length c) p→PsAt w B (.slice LA ps.length LC) ps→B≤w.heap.size→p.length+Qam t≤1000000→ps.length+Qam t≤1000000 →
  Calls Tryz.prog 64 #[.slice LA ps.length LC,.agg #[.int .i64 v.kind,.string v.text,.slice v.la v.ll v.lc,.slice v.ka v.kl v.kc],.slice A p.length c] w fun e w'=>∃ L,e = .returned L∧PsAt w' B L (ps ++ Qes t p)∧QStep B w w':=by
 induction N with
 | zero=>intro S t v A LA c LC p ps w h;have:=Qh7 t;omega
 | succ N ih =>
  intro S t v A LA c LC p ps w hN h hS hz hp hL hB hb1 hb2
  obtain ⟨vs,hown,hrows⟩:=hL
  have hkl:=h.kl.1
  obtain ⟨vk,vx,vla,vll,vlc,vka,vkl,vkc⟩:=v
  simp only at hkl
  subst hkl
  have HIH:=hQ ih
  have HN:=hQ hN
  have HT:=hQ h
  have HS:=hQ hS
  have HZ:=hQ hz
  have HP:=hQ hp
  have HB:=hQ hB
  have HB1:=hQ hb1
  have HB2:=hQ hb2
  have HOW:=hQ hown
  have HRW:=hQ hrows
  obtain ⟨il,hil,lz0,lz1,lz2⟩:=info_parts Qsf
  obtain ⟨ii,hii,iz0,iz1,iz2⟩:=info_parts Qw8
  have HB0:=hQ (((xC w.heap.size w).alloc (xA _) (trO ⟨vk,vx,vla,vll,vlc,vka,t.kids.length,vkc⟩)).alloc (by rw [xI];omega) (.cells #[.slice A p.length c] 23))
  obtain ⟨hxa,hxb⟩:=Qi3 w (trO ⟨vk,vx,vla,vll,vlc,vka,t.kids.length,vkc⟩) (.cells #[.slice A p.length c] 23)
  have HXA:=hQ hxa
  have HOA:=hQ (Qf8 HOW.out HB0.out)
  have HBL:=hQ (xQ HB.out HB0.out.size)
  have HNW:=hQ (show ∀ (j:Nat) (u:Value),[Value.slice A p.length c][j]? = some u→((w.alloc (trO ⟨vk,vx,vla,vll,vlc,vka,t.kids.length,vkc⟩)).alloc (.cells #[.slice A p.length c] 23)).cell? ((⟨w.heap.size+1,0,none⟩:Addr).add j)=some u from fun j u hu=>by
   cases j with
   | zero =>
    injection hu with hu
    subst hu
    exact Qaa hxb 0 _ rfl
   | succ j=>simp at hu)
  have hps:ps.length≤1000000:=by have:=HB2.out;omega
  clear ih hN h hS hz hp hB hb1 hb2 hown hrows hxa hxb
  go_enter Tryz.func64,Tryz.ntmps64
  go_wp2_with (at_builtin;refine wpList_append_lies _ rfl _ _ 41 rfl B 23 il _ 1 24 Tryz.underlying41 hil lz0 lz1 lz2 rfl (by decide) (.slice LA ps.length LC) ps.length vs rfl HOA.out ⟨w.heap.size+1,0,none⟩ 1 1 [.slice A p.length c] rfl rfl HNW.out (by simp [Value.oneCell']) (by decide) (by unfold maxLen;omega) (by omega) HBL.out _ rfl ?_;intro g2 c2 w2 hown2 hgr _ _;have HO2:=hQ hown2;have HGR:=hQ hgr;clear hown2 hgr)
  have HQ2:=hQ (show QStep B w w2 from (QStep.below HB0.out).trans (fun lb=>PStep.grown HOA.out HGR.out))
  have HX2:=hQ (Qpu HOA.out HGR.out HXA.out (by decide))
  have HLL:=hQ (PsAt.push HOA.out (fun i v p hv hp=>Qf8 (HRW.out i v p hv hp) HB0.out) (Qf8 HP.out HB0.out) HO2.out HGR.out)
  clear hps
  go_loopw [0,7] (fun l i wr=>BelAt B t p ps w l i wr∧wr.heap[w.heap.size]? = some (trO ⟨vk,vx,vla,vll,vlc,vka,t.kids.length,vkc⟩)) (fun _ i _=>t.kids.length-(intOf i).toNat)
  case atStart=>exact ⟨⟨0,rfl,xZ _,by rw [List.take_zero,Qcn];exact HLL.out,HQ2.out⟩,HX2.out⟩
  case round =>
   obtain ⟨⟨j,rfl,hj,hll,hst⟩,hxr⟩:=hrel
   obtain ⟨MA,MC,rfl⟩:=hll.shape
   have HLW:=hQ hll
   have HSW:=hQ hst
   have HXR:=hQ hxr
   have HTR:=hQ (TrAt.move (w':=wr) (fun _ h=>h) (fun k hk hlt=>hst.low (HS.out k hk) hlt) _ _ HT.out)
   have k3:wr.cell? ⟨w.heap.size,3,none⟩=some (.slice vka t.kids.length vkc):=Qaa hxr 3 _ rfl
   have k3l:=Qab hxr
   clear hll hst hxr
   by_cases hlt:j<t.kids.length
   ·obtain ⟨k,hk⟩:∃ k,t.kids[j]? = some k:=⟨_,xF hlt⟩
    obtain ⟨kb,ko,hka⟩:∃ b off,vka=some ⟨b,off,none⟩:=HTR.out.addr.resolve_left (by omega)
    subst hka
    obtain ⟨u,c0,c1,c2,c3,hu⟩:=HTR.out.at rfl hk
    have HU:=hQ hu
    have HK0:=hQ hk
    have kbl:kb<wr.heap.size:=xK wr _ c3
    have hsz:=Qkw hk
    have HNK:=hQ (show SizeOf.sizeOf k≤N from by have:=Qd1 hk;have:=HN.out;omega)
    have HFK:=hQ ((Qnj HZ.out).2.2 j k hk)
    obtain ⟨p',hpp⟩:∃ p',p ++ [(j:Int)] = p':=⟨_,rfl⟩
    have HPP:=hQ hpp
    have HTK:=hQ (show Qcn (t.kids.take (j+1)) 0 p=Qcn (t.kids.take j) 0 p ++ Qes k p' from by rw [Qgp hk,Qkv,List.length_take,Nat.min_eq_left (Nat.le_of_lt hlt),Nat.zero_add,hpp])
    have HPL:=hQ (show (ps ++ p :: Qcn (t.kids.take j) 0 p).length+Qam k≤1000000 from by rw [xB,xD,Qi2];have h1:=HB2.out;have h2:=Qa5 t;have h3:Qbb (t.kids.take j)+Qam k≤Qbb t.kids:=Qqs hk;omega)
    have HPK:=hQ (show p'.length+Qam k≤1000000 from by rw [←hpp,xB];have h1:=HB1.out;simp;omega)
    have hple:p.length≤1000000:=by have:=HB1.out;omega
    have hja:(j:Int)<(t.kids.length:Int):=by omega
    have hj0:(0:Int)≤(j:Int):=by omega
    have hjm:(j:Int)+1≤1900000000001:=by have:=(Qnj HZ.out).2.1;omega
    have mixedL:Tryz.prog.follows Departure.mixedOrders=true:=mixed
    have HBW:=hQ (show B≤wr.heap.size from xQ HB.out (HSW.out 0).size)
    have HPR:=hQ (HP.out.qstep HSW.out)
    obtain ⟨qs,hqs⟩:∃ qs,ps ++ p :: Qcn (t.kids.take j) 0 p=qs:=⟨_,rfl⟩
    have HQS:=hQ hqs
    have HLQ:=hQ (show PsAt wr B (.slice MA qs.length MC) qs from by rw [←hqs];exact HLW.out)
    have HPQ:=hQ (show qs.length+Qam k≤1000000 from by rw [←hqs];exact HPL.out)
    rw [hqs]
    clear hk hu hsz hpp hqs
    obtain ⟨_,b',off',hA',hSb,_⟩:=HTR.out.kid (HK0.out)
    have hbb:kb=b':=by injection hA' with e;injection e with e1 e2 _
    have HSKB:=hQ (show kb<B from by rw [hbb];exact HS.out b' hSb)
    clear hA' hSb hbb
    have GK3:=hQ k3
    have GK3L:=hQ k3l
    have GKBL:=hQ kbl
    have GC0:=hQ c0
    have GC1:=hQ c1
    have GC2:=hQ c2
    have GC3:=hQ c3
    have HPN:=hQ (show p.length+1=p'.length from by rw [←HPP.out,xB];rfl)
    have BE:=hQ (show Below wr.heap.size wr (wr.alloc (.cells #[] 3)).drew from ((xC _ _).alloc (xA _) _).drew)
    have BEI:=hQ (show Below wr.heap.size wr ((wr.alloc (.cells #[] 3)).alloc (.cells #[.int .i64 j] 3)).drew from (((xC _ _).alloc (xA _) _).alloc (by rw [xI];exact Nat.le_succ _) _).drew)
    have BIE:=hQ (show Below wr.heap.size wr ((wr.alloc (.cells #[.int .i64 j] 3)).alloc (.cells #[] 3)).drew from (((xC _ _).alloc (xA _) _).alloc (by rw [xI];exact Nat.le_succ _) _).drew)
    have OE:=hQ (show (wr.alloc (.cells #[] 3)).drew.ownsRow wr.heap.size 3 1 (.slice (some ⟨wr.heap.size,0,none⟩) 0 0) 0 [] from Qga wr)
    have OEI:=hQ (show ((wr.alloc (.cells #[] 3)).alloc (.cells #[.int .i64 j] 3)).drew.ownsRow wr.heap.size 3 1 (.slice (some ⟨wr.heap.size,0,none⟩) 0 0) 0 [] from Qf8 (Qga wr) ((xC _ _).alloc (xA _) _).drew)
    have OIE:=hQ (show ((wr.alloc (.cells #[.int .i64 j] 3)).alloc (.cells #[] 3)).drew.ownsRow wr.heap.size 3 1 (.slice (some ⟨wr.heap.size+1,0,none⟩) 0 0) 0 [] from Qej (by have:=Qga (wr.alloc (.cells #[.int .i64 j] 3));rw [xI] at this;exact this) (Nat.le_succ _))
    have IEI:=hQ (show ((wr.alloc (.cells #[] 3)).alloc (.cells #[.int .i64 j] 3)).drew.heap[wr.heap.size+1]? = some (.cells #[.int .i64 j] 3 (0,0)) from (Qi3 wr _ _).2)
    have IIE:=hQ (show ((wr.alloc (.cells #[.int .i64 j] 3)).alloc (.cells #[] 3)).drew.heap[wr.heap.size]? = some (.cells #[.int .i64 j] 3 (0,0)) from (Qi3 wr _ _).1)
    have SZ2:=hQ (show wr.heap.size≤((wr.alloc (.cells #[] 3)).alloc (.cells #[.int .i64 j] 3)).drew.heap.size from BEI.out.size)
    have SZ3:=hQ (show wr.heap.size≤((wr.alloc (.cells #[.int .i64 j] 3)).alloc (.cells #[] 3)).drew.heap.size from BIE.out.size)
    go_wp2_with fail
    by_cases hp0:p.length=0
    ·have HP0:=hQ hp0
     have HPE:=hQ (List.eq_nil_of_length_eq_zero hp0)
     have NEI:=hQ (show ∀ (q:Nat) (x:Value),[Value.int .i64 j][q]? = some x→((wr.alloc (.cells #[] 3)).alloc (.cells #[.int .i64 j] 3)).drew.cell? ((⟨wr.heap.size+1,0,none⟩:Addr).add q)=some x from fun q x hx=>by
      cases q with
      | zero=>injection hx with hx;subst hx;exact Qaa IEI.out 0 _ rfl
      | succ q=>simp at hx)
     have NIE:=hQ (show ∀ (q:Nat) (x:Value),[Value.int .i64 j][q]? = some x→((wr.alloc (.cells #[.int .i64 j] 3)).alloc (.cells #[] 3)).drew.cell? ((⟨wr.heap.size,0,none⟩:Addr).add q)=some x from fun q x hx=>by
      cases q with
      | zero=>injection hx with hx;subst hx;exact Qaa IIE.out 0 _ rfl
      | succ q=>simp at hx)
     clear hp0
     go_region_held3 (fun w'=>w'.cell? ⟨w.heap.size,3,none⟩=some (.slice (some ⟨kb,ko,none⟩) t.kids.length vkc)∧w'.cell? ⟨kb,ko+j*4,none⟩=some (.int .i64 u.kind)∧w'.cell? ⟨kb,ko+j*4+1,none⟩=some (.string u.text)∧w'.cell? ⟨kb,ko+j*4+2,none⟩=some (.slice u.la u.ll u.lc)∧w'.cell? ⟨kb,ko+j*4+3,none⟩=some (.slice u.ka u.kl u.kc)) (first | with_reducible exact ⟨k3,c0,c1,c2,c3⟩ | go_keep) (first | (go_at_call 64;refine (HIH.out S k u (some ⟨g6,0,none⟩) MA c6 MC p' qs _ HNK.out (HU.out.keep HW6.out) HS.out HFK.out HI6.out (HLQ.out.keep HW6.out) (xQ HBW.out HW6.out.size) HPK.out HPQ.out).mono ?_;rintro e w7 ⟨L7,rfl,hl7,hq7⟩;have HL7:=hQ hl7;have HQ7:=hQ hq7;have HX6:=hQ ((HW6.out.block w.heap.size GK3L.out).trans HXR.out);have HX7:=hQ (hq7.other HX6.out (by decide));have hk7:=hq7.low HSKB.out (xE GKBL.out HW6.out.size);have h0:=(xJ (w:=w6) (a:=⟨kb,ko+j*4,none⟩) hk7).trans c0;have h1:=(xJ (w:=w6) (a:=⟨kb,ko+j*4+1,none⟩) hk7).trans c1;have h2:=(xJ (w:=w6) (a:=⟨kb,ko+j*4+2,none⟩) hk7).trans c2;have h3:=(xJ (w:=w6) (a:=⟨kb,ko+j*4+3,none⟩) hk7).trans c3;clear hl7 hq7 hk7 k3 c0 c1 c2 c3 k3l kbl;have c0:=h0;have c1:=h1;have c2:=h2;have c3:=h3;clear h0 h1 h2 h3;have k3:w7.cell? ⟨w.heap.size,3,none⟩=some (.slice (some ⟨kb,ko,none⟩) t.kids.length vkc):=Qaa HX7.out 3 _ rfl;have k3l:=Qab HX7.out;have kbl:=xK w7 _ c0) | (refine step_append_lies _ (by rfl) _ _ _ (by rfl) wr.heap.size 3 ii _ 1 8 Tryz.underlying23 hii iz0 iz1 iz2 rfl (by decide) (.slice (some ⟨wr.heap.size,0,none⟩) 0 0) 0 [] (by rfl) OEI.out ⟨wr.heap.size+1,0,none⟩ 1 1 [.int .i64 j] (by rfl) (by rfl) NEI.out (Qfg [(j:Int)]) (by decide) (by unfold maxLen;omega) (by omega) SZ2.out _ (by rfl) ?_;intro g6 c6 w6 hown6 hgr6 _ hlt6;have HW6:=hQ (Below.grown BEI.out hgr6 SZ2.out (Qff OEI.out));have HI6:=hQ (show IntRow w6 B (.slice (some ⟨g6,0,none⟩) p'.length c6) p' from (by have h6:=Qej hown6 HBW.out;unfold IntRow;rw [←HPP.out,HPE.out];exact h6));clear hown6 hgr6 hlt6;clear k3 c0 c1 c2 c3 k3l kbl;have k3:w6.cell? ⟨w.heap.size,3,none⟩=some (.slice (some ⟨kb,ko,none⟩) t.kids.length vkc):=(xJ (w:=wr) (a:=⟨w.heap.size,3,none⟩) (HW6.out.block w.heap.size GK3L.out)).trans GK3.out;have k3l:=xE GK3L.out HW6.out.size;have kbl:=xE GKBL.out HW6.out.size;have c0:w6.cell? ⟨kb,ko+j*4,none⟩=some (.int .i64 u.kind):=(xJ (w:=wr) (a:=⟨kb,ko+j*4,none⟩) (HW6.out.block kb GKBL.out)).trans GC0.out;have c1:w6.cell? ⟨kb,ko+j*4+1,none⟩=some (.string u.text):=(xJ (w:=wr) (a:=⟨kb,ko+j*4+1,none⟩) (HW6.out.block kb GKBL.out)).trans GC1.out;have c2:w6.cell? ⟨kb,ko+j*4+2,none⟩=some (.slice u.la u.ll u.lc):=(xJ (w:=wr) (a:=⟨kb,ko+j*4+2,none⟩) (HW6.out.block kb GKBL.out)).trans GC2.out;have c3:w6.cell? ⟨kb,ko+j*4+3,none⟩=some (.slice u.ka u.kl u.kc):=(xJ (w:=wr) (a:=⟨kb,ko+j*4+3,none⟩) (HW6.out.block kb GKBL.out)).trans GC3.out;rw [show 0+1=p'.length from by rw [←HPN.out,HPE.out];rfl]) | (refine step_append_lies _ (by rfl) _ _ _ (by rfl) wr.heap.size 3 ii _ 1 8 Tryz.underlying23 hii iz0 iz1 iz2 rfl (by decide) (.slice (some ⟨wr.heap.size+1,0,none⟩) 0 0) 0 [] (by rfl) OIE.out ⟨wr.heap.size,0,none⟩ 1 1 [.int .i64 j] (by rfl) (by rfl) NIE.out (Qfg [(j:Int)]) (by decide) (by unfold maxLen;omega) (by omega) SZ3.out _ (by rfl) ?_;intro g6 c6 w6 hown6 hgr6 _ hlt6;have HW6:=hQ (Below.grown BIE.out hgr6 SZ3.out (Qff OIE.out));have HI6:=hQ (show IntRow w6 B (.slice (some ⟨g6,0,none⟩) p'.length c6) p' from (by have h6:=Qej hown6 HBW.out;unfold IntRow;rw [←HPP.out,HPE.out];exact h6));clear hown6 hgr6 hlt6;clear k3 c0 c1 c2 c3 k3l kbl;have k3:w6.cell? ⟨w.heap.size,3,none⟩=some (.slice (some ⟨kb,ko,none⟩) t.kids.length vkc):=(xJ (w:=wr) (a:=⟨w.heap.size,3,none⟩) (HW6.out.block w.heap.size GK3L.out)).trans GK3.out;have k3l:=xE GK3L.out HW6.out.size;have kbl:=xE GKBL.out HW6.out.size;have c0:w6.cell? ⟨kb,ko+j*4,none⟩=some (.int .i64 u.kind):=(xJ (w:=wr) (a:=⟨kb,ko+j*4,none⟩) (HW6.out.block kb GKBL.out)).trans GC0.out;have c1:w6.cell? ⟨kb,ko+j*4+1,none⟩=some (.string u.text):=(xJ (w:=wr) (a:=⟨kb,ko+j*4+1,none⟩) (HW6.out.block kb GKBL.out)).trans GC1.out;have c2:w6.cell? ⟨kb,ko+j*4+2,none⟩=some (.slice u.la u.ll u.lc):=(xJ (w:=wr) (a:=⟨kb,ko+j*4+2,none⟩) (HW6.out.block kb GKBL.out)).trans GC2.out;have c3:w6.cell? ⟨kb,ko+j*4+3,none⟩=some (.slice u.ka u.kl u.kc):=(xJ (w:=wr) (a:=⟨kb,ko+j*4+3,none⟩) (HW6.out.block kb GKBL.out)).trans GC3.out;rw [show 0+1=p'.length from by rw [←HPN.out,HPE.out];rfl]) | (refine Qjq (by rfl) _ _ _ (by rfl) 3 ii Tryz.underlying23 hii (by rfl) (xA _) HP0.out (by rfl) ?_))
     all_goals
      clear k3 c0 c1 c2 c3 k3l kbl
      go_wp2
      go_roundw
      case measure=>simp [intOf];omega
      case rel =>
       refine ⟨⟨j+1,by go_num,by omega,?_,(HSW.out.trans (QStep.below HW6.out)).trans HQ7.out⟩,HX7.out⟩
       rw [HTK.out]
       have:=HL7.out
       rw [←HQS.out,xT,xV] at this
       exact this
    ·obtain ⟨pg,hpA,hcs⟩:=IntRow.cells HPR.out (Nat.pos_of_ne_zero hp0)
     subst hpA
     have HP0:=hQ (Nat.pos_of_ne_zero hp0)
     have HML:=hQ (show (p.map (Value.int .i64)).length=p.length*1 from by simp)
     have HCE:=hQ (Qpx hcs BE.out)
     have HCEI:=hQ (Qpx hcs BEI.out)
     have HCIE:=hQ (Qpx hcs BIE.out)
     clear hp0 hcs
     go_region_held3 (fun w'=>w'.cell? ⟨w.heap.size,3,none⟩=some (.slice (some ⟨kb,ko,none⟩) t.kids.length vkc)∧w'.cell? ⟨kb,ko+j*4,none⟩=some (.int .i64 u.kind)∧w'.cell? ⟨kb,ko+j*4+1,none⟩=some (.string u.text)∧w'.cell? ⟨kb,ko+j*4+2,none⟩=some (.slice u.la u.ll u.lc)∧w'.cell? ⟨kb,ko+j*4+3,none⟩=some (.slice u.ka u.kl u.kc)) (first | with_reducible exact ⟨k3,c0,c1,c2,c3⟩ | go_keep) (first | (go_at_call 64;refine (HIH.out S k u (some ⟨g6,0,none⟩) MA c6 MC p' qs _ HNK.out (HU.out.keep HW6.out) HS.out HFK.out HI6.out (HLQ.out.keep HW6.out) (xQ HBW.out HW6.out.size) HPK.out HPQ.out).mono ?_;rintro e w7 ⟨L7,rfl,hl7,hq7⟩;have HL7:=hQ hl7;have HQ7:=hQ hq7;have HX6:=hQ ((HW6.out.block w.heap.size GK3L.out).trans HXR.out);have HX7:=hQ (hq7.other HX6.out (by decide));have hk7:=hq7.low HSKB.out (xE GKBL.out HW6.out.size);have h0:=(xJ (w:=w6) (a:=⟨kb,ko+j*4,none⟩) hk7).trans c0;have h1:=(xJ (w:=w6) (a:=⟨kb,ko+j*4+1,none⟩) hk7).trans c1;have h2:=(xJ (w:=w6) (a:=⟨kb,ko+j*4+2,none⟩) hk7).trans c2;have h3:=(xJ (w:=w6) (a:=⟨kb,ko+j*4+3,none⟩) hk7).trans c3;clear hl7 hq7 hk7 k3 c0 c1 c2 c3 k3l kbl;have c0:=h0;have c1:=h1;have c2:=h2;have c3:=h3;clear h0 h1 h2 h3;have k3:w7.cell? ⟨w.heap.size,3,none⟩=some (.slice (some ⟨kb,ko,none⟩) t.kids.length vkc):=Qaa HX7.out 3 _ rfl;have k3l:=Qab HX7.out;have kbl:=xK w7 _ c0) | (refine step_append_lies _ (by rfl) _ _ _ (by rfl) wr.heap.size 3 ii _ 1 8 Tryz.underlying23 hii iz0 iz1 iz2 rfl (by decide) (.slice (some ⟨g5,0,none⟩) p.length c5) p.length (p.map (Value.int .i64)) (by rfl) HO5.out ⟨wr.heap.size+1,0,none⟩ 1 1 [.int .i64 j] (by rfl) (by rfl) NI5.out (Qfg [(j:Int)]) (by decide) (by unfold maxLen;omega) (by omega) HW5.out.size _ (by rfl) ?_;intro g6 c6 w6 hown6 hgr6 _ hlt6;have HW6:=hQ (Below.grown HW5.out hgr6 HW5.out.size (Qff HO5.out));have HI6:=hQ (show IntRow w6 B (.slice (some ⟨g6,0,none⟩) p'.length c6) p' from (by have h6:=Qej hown6 HBW.out;unfold IntRow;rw [←HPP.out,xB,List.map_append];exact h6));clear hown6 hgr6 hlt6;clear k3 c0 c1 c2 c3 k3l kbl;have k3:w6.cell? ⟨w.heap.size,3,none⟩=some (.slice (some ⟨kb,ko,none⟩) t.kids.length vkc):=(xJ (w:=wr) (a:=⟨w.heap.size,3,none⟩) (HW6.out.block w.heap.size GK3L.out)).trans GK3.out;have k3l:=xE GK3L.out HW6.out.size;have kbl:=xE GKBL.out HW6.out.size;have c0:w6.cell? ⟨kb,ko+j*4,none⟩=some (.int .i64 u.kind):=(xJ (w:=wr) (a:=⟨kb,ko+j*4,none⟩) (HW6.out.block kb GKBL.out)).trans GC0.out;have c1:w6.cell? ⟨kb,ko+j*4+1,none⟩=some (.string u.text):=(xJ (w:=wr) (a:=⟨kb,ko+j*4+1,none⟩) (HW6.out.block kb GKBL.out)).trans GC1.out;have c2:w6.cell? ⟨kb,ko+j*4+2,none⟩=some (.slice u.la u.ll u.lc):=(xJ (w:=wr) (a:=⟨kb,ko+j*4+2,none⟩) (HW6.out.block kb GKBL.out)).trans GC2.out;have c3:w6.cell? ⟨kb,ko+j*4+3,none⟩=some (.slice u.ka u.kl u.kc):=(xJ (w:=wr) (a:=⟨kb,ko+j*4+3,none⟩) (HW6.out.block kb GKBL.out)).trans GC3.out;rw [HPN.out]) | (refine step_append_lies _ (by rfl) _ _ _ (by rfl) wr.heap.size 3 ii _ 1 8 Tryz.underlying23 hii iz0 iz1 iz2 rfl (by decide) (.slice (some ⟨g5,0,none⟩) p.length c5) p.length (p.map (Value.int .i64)) (by rfl) HO5.out ⟨wr.heap.size,0,none⟩ 1 1 [.int .i64 j] (by rfl) (by rfl) NI5.out (Qfg [(j:Int)]) (by decide) (by unfold maxLen;omega) (by omega) HW5.out.size _ (by rfl) ?_;intro g6 c6 w6 hown6 hgr6 _ hlt6;have HW6:=hQ (Below.grown HW5.out hgr6 HW5.out.size (Qff HO5.out));have HI6:=hQ (show IntRow w6 B (.slice (some ⟨g6,0,none⟩) p'.length c6) p' from (by have h6:=Qej hown6 HBW.out;unfold IntRow;rw [←HPP.out,xB,List.map_append];exact h6));clear hown6 hgr6 hlt6;clear k3 c0 c1 c2 c3 k3l kbl;have k3:w6.cell? ⟨w.heap.size,3,none⟩=some (.slice (some ⟨kb,ko,none⟩) t.kids.length vkc):=(xJ (w:=wr) (a:=⟨w.heap.size,3,none⟩) (HW6.out.block w.heap.size GK3L.out)).trans GK3.out;have k3l:=xE GK3L.out HW6.out.size;have kbl:=xE GKBL.out HW6.out.size;have c0:w6.cell? ⟨kb,ko+j*4,none⟩=some (.int .i64 u.kind):=(xJ (w:=wr) (a:=⟨kb,ko+j*4,none⟩) (HW6.out.block kb GKBL.out)).trans GC0.out;have c1:w6.cell? ⟨kb,ko+j*4+1,none⟩=some (.string u.text):=(xJ (w:=wr) (a:=⟨kb,ko+j*4+1,none⟩) (HW6.out.block kb GKBL.out)).trans GC1.out;have c2:w6.cell? ⟨kb,ko+j*4+2,none⟩=some (.slice u.la u.ll u.lc):=(xJ (w:=wr) (a:=⟨kb,ko+j*4+2,none⟩) (HW6.out.block kb GKBL.out)).trans GC2.out;have c3:w6.cell? ⟨kb,ko+j*4+3,none⟩=some (.slice u.ka u.kl u.kc):=(xJ (w:=wr) (a:=⟨kb,ko+j*4+3,none⟩) (HW6.out.block kb GKBL.out)).trans GC3.out;rw [HPN.out]) | (refine step_append_lies _ (by rfl) _ _ _ (by rfl) wr.heap.size 3 ii _ 1 8 Tryz.underlying23 hii iz0 iz1 iz2 rfl (by decide) (.slice (some ⟨g5,0,none⟩) p.length c5) p.length (p.map (Value.int .i64)) (by rfl) OA5.out ⟨w5.heap.size,0,none⟩ 1 1 [.int .i64 j] (by rfl) (by rfl) NI5.out (Qfg [(j:Int)]) (by decide) (by unfold maxLen;omega) (by omega) BA5.out.size _ (by rfl) ?_;intro g6 c6 w6 hown6 hgr6 _ hlt6;have HW6:=hQ (Below.grown BA5.out hgr6 BA5.out.size (Qff OA5.out));have HI6:=hQ (show IntRow w6 B (.slice (some ⟨g6,0,none⟩) p'.length c6) p' from (by have h6:=Qej hown6 HBW.out;unfold IntRow;rw [←HPP.out,xB,List.map_append];exact h6));clear hown6 hgr6 hlt6;clear k3 c0 c1 c2 c3 k3l kbl;have k3:w6.cell? ⟨w.heap.size,3,none⟩=some (.slice (some ⟨kb,ko,none⟩) t.kids.length vkc):=(xJ (w:=wr) (a:=⟨w.heap.size,3,none⟩) (HW6.out.block w.heap.size GK3L.out)).trans GK3.out;have k3l:=xE GK3L.out HW6.out.size;have kbl:=xE GKBL.out HW6.out.size;have c0:w6.cell? ⟨kb,ko+j*4,none⟩=some (.int .i64 u.kind):=(xJ (w:=wr) (a:=⟨kb,ko+j*4,none⟩) (HW6.out.block kb GKBL.out)).trans GC0.out;have c1:w6.cell? ⟨kb,ko+j*4+1,none⟩=some (.string u.text):=(xJ (w:=wr) (a:=⟨kb,ko+j*4+1,none⟩) (HW6.out.block kb GKBL.out)).trans GC1.out;have c2:w6.cell? ⟨kb,ko+j*4+2,none⟩=some (.slice u.la u.ll u.lc):=(xJ (w:=wr) (a:=⟨kb,ko+j*4+2,none⟩) (HW6.out.block kb GKBL.out)).trans GC2.out;have c3:w6.cell? ⟨kb,ko+j*4+3,none⟩=some (.slice u.ka u.kl u.kc):=(xJ (w:=wr) (a:=⟨kb,ko+j*4+3,none⟩) (HW6.out.block kb GKBL.out)).trans GC3.out;rw [HPN.out]) | (refine step_append_lies _ (by rfl) _ _ _ (by rfl) wr.heap.size 3 ii _ 1 8 Tryz.underlying23 hii iz0 iz1 iz2 rfl (by decide) (.slice (some ⟨wr.heap.size,0,none⟩) 0 0) 0 [] (by rfl) OEI.out ⟨pg,0,none⟩ p.length c (p.map (Value.int .i64)) (by rfl) HML.out HCEI.out (Qfg p) HP0.out (by unfold maxLen;omega) (by omega) SZ2.out _ (by rfl) ?_;intro g5 c5 w5 hown5 hgr5 _ hlt5;simp only [Nat.zero_add,xU] at hown5;have HO5:=hQ hown5;have HW5:=hQ (Below.grown BEI.out hgr5 SZ2.out (Qff OEI.out));have NI5:=hQ (Qpw ((hgr5.block (wr.heap.size+1) (Qab IEI.out) (fun e=>absurd (Option.some.inj (show some (wr.heap.size+1)=some wr.heap.size from e)) (by omega))).trans IEI.out));clear hown5 hgr5 hlt5;clear k3 c0 c1 c2 c3 k3l kbl;have k3:w5.cell? ⟨w.heap.size,3,none⟩=some (.slice (some ⟨kb,ko,none⟩) t.kids.length vkc):=(xJ (w:=wr) (a:=⟨w.heap.size,3,none⟩) (HW5.out.block w.heap.size GK3L.out)).trans GK3.out;have k3l:=xE GK3L.out HW5.out.size;have kbl:=xE GKBL.out HW5.out.size;have c0:w5.cell? ⟨kb,ko+j*4,none⟩=some (.int .i64 u.kind):=(xJ (w:=wr) (a:=⟨kb,ko+j*4,none⟩) (HW5.out.block kb GKBL.out)).trans GC0.out;have c1:w5.cell? ⟨kb,ko+j*4+1,none⟩=some (.string u.text):=(xJ (w:=wr) (a:=⟨kb,ko+j*4+1,none⟩) (HW5.out.block kb GKBL.out)).trans GC1.out;have c2:w5.cell? ⟨kb,ko+j*4+2,none⟩=some (.slice u.la u.ll u.lc):=(xJ (w:=wr) (a:=⟨kb,ko+j*4+2,none⟩) (HW5.out.block kb GKBL.out)).trans GC2.out;have c3:w5.cell? ⟨kb,ko+j*4+3,none⟩=some (.slice u.ka u.kl u.kc):=(xJ (w:=wr) (a:=⟨kb,ko+j*4+3,none⟩) (HW5.out.block kb GKBL.out)).trans GC3.out;rw [show 0+p.length=p.length from Nat.zero_add _]) | (refine step_append_lies _ (by rfl) _ _ _ (by rfl) wr.heap.size 3 ii _ 1 8 Tryz.underlying23 hii iz0 iz1 iz2 rfl (by decide) (.slice (some ⟨wr.heap.size+1,0,none⟩) 0 0) 0 [] (by rfl) OIE.out ⟨pg,0,none⟩ p.length c (p.map (Value.int .i64)) (by rfl) HML.out HCIE.out (Qfg p) HP0.out (by unfold maxLen;omega) (by omega) SZ3.out _ (by rfl) ?_;intro g5 c5 w5 hown5 hgr5 _ hlt5;simp only [Nat.zero_add,xU] at hown5;have HO5:=hQ hown5;have HW5:=hQ (Below.grown BIE.out hgr5 SZ3.out (Qff OIE.out));have NI5:=hQ (Qpw ((hgr5.block wr.heap.size (Qab IIE.out) (fun e=>absurd (Option.some.inj (show some wr.heap.size=some (wr.heap.size+1) from e)) (by omega))).trans IIE.out));clear hown5 hgr5 hlt5;clear k3 c0 c1 c2 c3 k3l kbl;have k3:w5.cell? ⟨w.heap.size,3,none⟩=some (.slice (some ⟨kb,ko,none⟩) t.kids.length vkc):=(xJ (w:=wr) (a:=⟨w.heap.size,3,none⟩) (HW5.out.block w.heap.size GK3L.out)).trans GK3.out;have k3l:=xE GK3L.out HW5.out.size;have kbl:=xE GKBL.out HW5.out.size;have c0:w5.cell? ⟨kb,ko+j*4,none⟩=some (.int .i64 u.kind):=(xJ (w:=wr) (a:=⟨kb,ko+j*4,none⟩) (HW5.out.block kb GKBL.out)).trans GC0.out;have c1:w5.cell? ⟨kb,ko+j*4+1,none⟩=some (.string u.text):=(xJ (w:=wr) (a:=⟨kb,ko+j*4+1,none⟩) (HW5.out.block kb GKBL.out)).trans GC1.out;have c2:w5.cell? ⟨kb,ko+j*4+2,none⟩=some (.slice u.la u.ll u.lc):=(xJ (w:=wr) (a:=⟨kb,ko+j*4+2,none⟩) (HW5.out.block kb GKBL.out)).trans GC2.out;have c3:w5.cell? ⟨kb,ko+j*4+3,none⟩=some (.slice u.ka u.kl u.kc):=(xJ (w:=wr) (a:=⟨kb,ko+j*4+3,none⟩) (HW5.out.block kb GKBL.out)).trans GC3.out;rw [show 0+p.length=p.length from Nat.zero_add _]) | (refine step_append_lies _ (by rfl) _ _ _ (by rfl) wr.heap.size 3 ii _ 1 8 Tryz.underlying23 hii iz0 iz1 iz2 rfl (by decide) (.slice (some ⟨wr.heap.size,0,none⟩) 0 0) 0 [] (by rfl) OE.out ⟨pg,0,none⟩ p.length c (p.map (Value.int .i64)) (by rfl) HML.out HCE.out (Qfg p) HP0.out (by unfold maxLen;omega) (by omega) BE.out.size _ (by rfl) ?_;intro g5 c5 w5 hown5 hgr5 _ hlt5;simp only [Nat.zero_add,xU] at hown5;have HO5:=hQ hown5;have HW5:=hQ (Below.grown BE.out hgr5 BE.out.size (Qff OE.out));have NI5:=hQ (Qpw (W:=w5.alloc (.cells #[.int .i64 j] 3)) (xH w5 (.cells #[.int .i64 j] 3)));have OA5:=hQ (Qf8 HO5.out ((xC _ _).alloc (xA _) (.cells #[.int .i64 j] 3)));have BA5:=hQ (HW5.out.alloc HW5.out.size (.cells #[.int .i64 j] 3));clear hown5 hgr5 hlt5;clear k3 c0 c1 c2 c3 k3l kbl;have k3:w5.cell? ⟨w.heap.size,3,none⟩=some (.slice (some ⟨kb,ko,none⟩) t.kids.length vkc):=(xJ (w:=wr) (a:=⟨w.heap.size,3,none⟩) (HW5.out.block w.heap.size GK3L.out)).trans GK3.out;have k3l:=xE GK3L.out HW5.out.size;have kbl:=xE GKBL.out HW5.out.size;have c0:w5.cell? ⟨kb,ko+j*4,none⟩=some (.int .i64 u.kind):=(xJ (w:=wr) (a:=⟨kb,ko+j*4,none⟩) (HW5.out.block kb GKBL.out)).trans GC0.out;have c1:w5.cell? ⟨kb,ko+j*4+1,none⟩=some (.string u.text):=(xJ (w:=wr) (a:=⟨kb,ko+j*4+1,none⟩) (HW5.out.block kb GKBL.out)).trans GC1.out;have c2:w5.cell? ⟨kb,ko+j*4+2,none⟩=some (.slice u.la u.ll u.lc):=(xJ (w:=wr) (a:=⟨kb,ko+j*4+2,none⟩) (HW5.out.block kb GKBL.out)).trans GC2.out;have c3:w5.cell? ⟨kb,ko+j*4+3,none⟩=some (.slice u.ka u.kl u.kc):=(xJ (w:=wr) (a:=⟨kb,ko+j*4+3,none⟩) (HW5.out.block kb GKBL.out)).trans GC3.out;rw [show 0+p.length=p.length from Nat.zero_add _]))
     all_goals
      clear k3 c0 c1 c2 c3 k3l kbl
      go_wp2
      go_roundw
      case measure=>simp [intOf];omega
      case rel =>
       refine ⟨⟨j+1,by go_num,by omega,?_,(HSW.out.trans (QStep.below HW6.out)).trans HQ7.out⟩,HX7.out⟩
       rw [HTK.out]
       have:=HL7.out
       rw [←HQS.out,xT,xV] at this
       exact this
   ·have hjn:j=t.kids.length:=by omega
    subst hjn
    have hll:=HLW.out
    rw [List.take_of_length_le (xA _)] at hll
    have HLL2:=hQ hll
    obtain ⟨qs,hqs⟩:∃ qs,ps ++ p :: Qcn t.kids 0 p=qs:=⟨_,rfl⟩
    have HQS:=hQ hqs
    rw [List.take_of_length_le (xA _),hqs]
    clear hll hqs
    go_wp2
    go_ret
    exact ⟨_,rfl,by rw [Qu2];have h:=HLL2.out;rw [HQS.out] at h ⊢;exact h,HSW.out⟩
theorem Qsi (S:Nat→Prop) (t:Tr) (v:TV) (w:World) (h:TrAt S w t v) (hz:Qvg t=true) (hs:Qam t≤1000000) :
  Calls Tryz.prog 25 #[.agg #[.int .i64 v.kind,.string v.text,.slice v.la v.ll v.lc,.slice v.ka v.kl v.kc]] w fun e w'=>∃ L,e = .returned L∧PsAt w' w.heap.size L (Qes t [])∧Below w.heap.size w w':=by
 have HB0:=hQ ((xC w.heap.size w).alloc (xA _) (trO v))
 have HT:=hQ (TrAt.keep (TrAt.low _ _ h) HB0.out)
 have HZ:=hQ hz
 have HS:=hQ hs
 clear h hz hs
 go_enter Tryz.func25,Tryz.ntmps25
 go_wp2_with fail
 go_at_call 64
 refine (Qsh w.heap.size (SizeOf.sizeOf t) (fun k=>k<w.heap.size) t v none none 0 0 [] [] _ (xA _) HT.out (fun _ h=>h) HZ.out (World.ownsRow_nil _ _ _ _) ⟨[],World.ownsRow_nil _ _ _ _,fun i v p hv _=>by simp at hv⟩ HB0.out.size (by simpa using HS.out) (by simpa using HS.out)).mono ?_
 rintro e w2 ⟨L,rfl,hl2,hs2⟩
 rw [xU] at hl2
 have HP:=hQ hl2
 have HB2:=hQ (HB0.out.trans ((hs2 w.heap.size).down (xA _) HB0.out.size))
 obtain ⟨LA,LC,rfl⟩:=hl2.shape
 clear hl2 hs2
 go_wp2
 go_ret
 exact ⟨_,rfl,HP.out,HB2.out⟩
end Go.Proofs.YtjidpkcjpgdafaaGreat

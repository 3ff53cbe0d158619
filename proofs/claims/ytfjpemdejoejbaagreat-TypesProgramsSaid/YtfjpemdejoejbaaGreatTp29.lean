/- Part 29 -/
import Derived.Test.YtfjpemdejoejbaaGreatTp28
import Derived.Lib.AppendZerosOnto
import Derived.Lib.SliceRun
set_option maxRecDepth 100000
set_option maxHeartbeats 4000000
namespace Go.Proofs.YtfjpemdejoejbaaGreat
open Go.Proofs.Tryz Go.RowKit Go.Shelf
theorem Zdb{ps:List Tr}{j:Nat}{t:Tr}(h:Qc1 ps=true)(ht:ps[j]? = some t):t.kind=1/\Qam t=true:=by
 unfold Qc1 at h;rw[List.all_eq_true]at h;have:=h t (yA ht)
 simp at this
 exact this
def TgsAt(w:World)(B:Nat)(v:Value)(zs:List Tgm):Prop:=∃ ws,TRow w B v ws/\TarsAt w B ws zs
theorem TRow.keep{w w':World}{B:Nat}{v:Value}{ws:List TgV}(h:TRow w B v ws)(hb:Below w.heap.size w w'):TRow w' B v ws:=(Keeps.of_below (P:=fun _=>none) hb).row h fun _ _=>.inl rfl
theorem TgsAt.keep{w w':World}{B:Nat}{v:Value}{zs:List Tgm}(h:TgsAt w B v zs)(hb:Below w.heap.size w w'):TgsAt w' B v zs:=by
 obtain⟨ws,h1,h2⟩:=h;exact⟨ws,h1.keep hb,h2.step fun _ _ h=>h.keep hb⟩
theorem TgsAt.slice{w:World}{B:Nat}{v:Value}{zs:List Tgm}(h:TgsAt w B v zs):∃ A c,v = .slice A zs.length c:=by
 obtain⟨ws,h1,h2⟩:=h;obtain⟨A,c,h⟩:=Qhv h1;exact⟨A,c,by rw[h,h2.1]⟩
theorem Qsr(v:Value)(a k:Nat)(h:v.ownBlock≠some k):Qj4 v a (.slice none 0 0) 0 k=none:=Qg8 h (by intro h;cases h) (by intro h;cases h)
def TgsL(ps:List Tr)(w:World)(l i:Value)(wr:World):Prop:=∃ j:Nat,i = .int .i64 (j:Int)/\j<=ps.length/\TgsAt wr w.heap.size l (Qij ps (ps.take j) 0)/\Below w.heap.size w wr
theorem Zhh{ps:List Tr}{j:Nat}{t:Tr}{w wr wb w4:World}{lv v4:Value}{ws vs4:List TgV}(ht:ps[j]? = some t)(hb:Below w.heap.size w wr)(hbb:Below wr.heap.size wr wb)(hl:TRow wr w.heap.size lv ws)(ha:TarsAt wr w.heap.size ws (Qij ps (ps.take j) 0))
  (hv:TRow w4 w.heap.size v4 (ws ++ vs4)) (hva:TarsAt w4 wb.heap.size vs4 (Qwc ps j t [])) (hk:Keeps (Qj4 lv (ws.length*5) (.slice none 0 0) ([]:List Int).length) wb w4):TgsAt w4 w.heap.size v4 (Qij ps (ps.take (j+1)) 0)/\Below w.heap.size w w4:=by
 have hl2:TRow wb w.heap.size lv ws:=hl.keep hbb;refine⟨⟨_,hv,?_⟩,hb.trans ((hbb.mono hb.size).trans (hk.below (xQ hb.size hbb.size) fun k hk=>Qsr _ _ _ fun e=>by have:=(hl.lt k e).1;omega))⟩;rw[Qyu ht];refine TarsAt.app (ha.step fun v p h=>?_) (hva.step fun v p h=>Qhe h (xQ hb.size hbb.size));have h2:IRow wb w.heap.size v p:=h.keep hbb;exact hk.row h2 fun k hk'=>.inl (Qsr _ _ _ (Qg9 hl2 (Qlu h2 hk').choose_spec (by decide)))
theorem Qur(S:Nat->Prop)(A:yE)(c:Nat)(ps:List Tr)(w:World)(hp:TrAt S w (Qa9 ps) ⟨0,⟨#[]⟩,none,0,0,A,ps.length,c⟩)(hf:Qgm (Qa9 ps)=true)(hs:Qbs (Qa9 ps)=true)(hw:Qbg (Qa9 ps)=true)(hz:Qal ps<=90000) :
  Calls prog 63 #[.slice A ps.length c] w fun e w'=>∃ v,e = .returned v/\TgsAt w' w.heap.size v (Qjk ps)/\Below w.heap.size w w':=by
 have HC:=hQ (fun w' (hb:Below w.heap.size w w')=>Qnp S A c ps w' (hp.keep hb) hs hw);have HP:=hQ (TrAt.low _ _ hp);have HT:=hQ (fun(m:Nat) (hm:m<ps.length) (N:Nat)=>Quq w.heap.size ps A c m hf hm N);have HW:=hQ (Qa7 hw).2.2;have HZ:=hQ hz;have hl:ps.length<=90000:=by have:=Qa0 ps;omega
 clear hp hf hs hw hz;cases hg:Qc1 ps with
 | false =>
  have HV:=hQ (show Qjk ps = [] from by unfold Qjk;rw[hg];rfl);rw[hg]at HC;clear hg HT;go_enter func63,ntmps63;go_wp2_with (go_at_call 87;refine(HC.out _ (by first | exact xC _ _ | exact below_drewN (xC _ _) _)).mono ?_;rintro e w1⟨rfl,hb⟩;have HB1:=hQ hb;clear hb)
  refine bodyPost_ret (v:=.slice none 0 0) (by simp[results,results63,go_sem, *]) rfl ?_;rw[HV.out];exact⟨_,rfl,⟨[],World.ownsRow_nil _ _ _ _,TarsAt.nil _ _⟩,HB1.out⟩
 | true =>
  have HG:=hQ hg;have HV:=hQ (show Qjk ps=Qij ps (ps.take ps.length) 0 from by unfold Qjk;rw[hg,xO rfl,List.take_length]);rw[hg]at HC;clear hg;go_enter func63,ntmps63;go_wp2_with (go_at_call 87;refine(HC.out _ (by first | exact xC _ _ | exact below_drewN (xC _ _) _)).mono ?_;rintro e w1⟨rfl,hb⟩;have HB1:=hQ hb;clear hb)
  go_loopw [3,11] (fun l i wr=>TgsL ps w l i wr) (fun _ i _=>ps.length-(intOf i).toNat)
  case atStart=>exact⟨0,rfl,xZ _,⟨[],World.ownsRow_nil _ _ _ _,TarsAt.nil _ _⟩,HB1.out⟩
  case round =>
   obtain⟨j,rfl,hj,hr,hb⟩:=hrel;have HBR:=hQ hb;obtain⟨ws,hrow,hat⟩:=hr;obtain⟨LA,lc,rfl⟩:=Qhv hrow;have HROW:=hQ hrow;have HAT:=hQ hat;clear hrow hat hb
   by_cases hlt:j<ps.length
   ·obtain⟨t,ht⟩:∃ t,ps[j]? = some t:=⟨_,xF hlt⟩;obtain⟨b,off,hka⟩:∃ b off,A=some ⟨b,off,none⟩:=HP.out.addr.resolve_left (by show ¬ ps.length=0;omega);subst hka;obtain⟨u,c0,c1,c2,c3,hu⟩:=(HP.out.keep HBR.out).at rfl (show(Qa9 ps).kids[j]? = some t from ht);have HBA:=hQ (Qe8 wr (trO u));have hk1:=(Zdb HG.out ht).1;have hws:ws.length<=Qal (ps.take j):=by rw[HAT.out.1];exact Qn1 ps _ 0
    have hsz:=Qe9 ht;have hsz2:=Qfh ps (j+1);have hsz3:Qal (ps.take (j+1))=Qal (ps.take j)+Qai t:=hsz;have HCT:=hQ (HT.out j hlt (SizeOf.sizeOf t) t u (.slice LA ws.length lc) ws (.slice none 0 0) [] (wr.alloc (trO u)) (xA _) (hu.lows (HBA.out.mono HBR.out.size)) ((HP.out.keep HBR.out).lows (HBA.out.mono HBR.out.size)) ⟨HROW.out.keep HBA.out,World.ownsRow_nil _ _ _ _,xQ HBR.out.size HBA.out.size⟩ (.inr (by rw[hk1];decide)) (HW.out j t ht) (by have:=HZ.out;omega) (by have:=HZ.out;simp;omega));have HTT:=hQ ht;have cl:=xK wr _ c0;have hk0:(0:Int)<=(j:Int):=by omega
    have hk2:(j:Int)<(ps.length:Int):=by omega
    have hk3:(j:Int)+1<=90001:=by omega
    clear hu ht hk1 hws hsz hsz2 hsz3 HT;go_wp2_with (go_at_call 98;refine HCT.out.mono ?_;rintro e w4⟨v4,vs4,rfl,hv4,hva4,hk4,_⟩;have HST:=hQ (Zhh HTT.out HBR.out HBA.out HROW.out HAT.out hv4 hva4 hk4);clear hv4 hva4 hk4)
    go_roundw
    case measure=>first | (simp[intOf];done) | (simp[intOf];omega)
    case rel=>exact⟨j+1,by go_num,by omega,HST.out.1,HST.out.2⟩
   ·obtain rfl:j=ps.length:=by omega
    go_wp2;go_ret;exact⟨_,rfl,⟨ws,HROW.out,by rw[HV.out];exact HAT.out⟩,HBR.out⟩
theorem Qpe:{ws:List TgV}->{j:Nat}->{y:TgV}->ws[j]? = some y->(Qfm ws)[j*5]? = some (.int .i64 y.1)/\(Qfm ws)[j*5+1]? = some y.2.1/\(Qfm ws)[j*5+2]? = some (.int .i64 y.2.2.1)/\(Qfm ws)[j*5+3]? = some (.int .i64 y.2.2.2.1)/\(Qfm ws)[j*5+4]? = some (.bool y.2.2.2.2)
 | [],_,_,h=>by simp at h
 | u :: r,0,y,h=>by
  injection h with h;subst h;exact⟨rfl,rfl,rfl,rfl,rfl⟩
 | u :: r,j+1,y,h=>by
  have ih:=Qpe (ws:=r) (j:=j) (y:=y) h
  have hs:∀ k,(Qfm (u :: r))[(j+1)*5+k]? = (Qfm r)[j*5+k]?:=fun k=>by
   unfold Qfm;rw[List.flatMap_cons,show(j+1)*5+k=j*5+k+5 from by omega,xX (by simp[tgC])];simp[tgC]
  exact⟨(hs 0).trans ih.1,(hs 1).trans ih.2.1,(hs 2).trans ih.2.2.1,(hs 3).trans ih.2.2.2.1,(hs 4).trans ih.2.2.2.2⟩
theorem TgsAt.at{w:World}{B:Nat}{A:yE}{n c:Nat}{zs:List Tgm}(h:TgsAt w B (.slice A n c) zs){j:Nat}{z:Tgm}(hz:zs[j]? = some z):n=zs.length/\∃ g pv,A=some ⟨g,0,none⟩/\B<=g/\g<w.heap.size /\
  w.cell? ⟨g,j*5,none⟩=some (.int .i64 z.1)/\w.cell? ⟨g,j*5+1,none⟩=some pv/\w.cell? ⟨g,j*5+2,none⟩=some (.int .i64 z.2.2.1)/\w.cell? ⟨g,j*5+3,none⟩=some (.int .i64 z.2.2.2.1)/\w.cell? ⟨g,j*5+4,none⟩=some (.bool z.2.2.2.2)/\IRow w B pv z.2.1:=by
 obtain⟨ws,h1,h2⟩:=h;have hj:j<ws.length:=by rw[h2.1];exact(xP.1 hz).1
 obtain⟨y,hy⟩:∃ y,ws[j]? = some y:=⟨_,xF hj⟩;obtain⟨a1,a2,a3⟩:=h2.2 j y z hy hz
 have hn:n=ws.length:=by
  rcases h1.2 with⟨e,h0⟩|⟨g,cap,cur,e,_⟩
  ·injection e with _ e _;omega
  ·injection e with _ e _
 refine⟨by rw[hn,h2.1],?_⟩;obtain⟨g,cap,e,hg,hlt⟩:=h1.form (by omega);injection e with e _ _;subst e;have hc:=h1.cells (g:=g) rfl;obtain⟨q0,q1,q2,q3,q4⟩:=Qpe hy;have e0:=hc _ _ q0;have e1:=hc _ _ q1;have e2:=hc _ _ q2;have e3:=hc _ _ q3;have e4:=hc _ _ q4;rw[Addr.add_lit]at e0 e1 e2 e3 e4;simp only[Nat.zero_add]at e0 e1 e2 e3 e4;rw[a3]at e2 e3 e4;rw[a1]at e0;exact⟨g,y.2.1,rfl,hg,hlt,e0,e1,e2,e3,e4,a2⟩
theorem Zhi:(prog.info? 3).map (fun i=>(i.zero,i.size,i.bytes))=some (some (.int .i64 0),1,8):=by kernel_rfl
section
variable {P:Program} {w:World} {ops:Array Oper} {rest:List Oper} {o:Oper} {a:Act} {Q:Exit->Act->World->Prop}
theorem Qfn(hgd:o.guard=none)(s x:Operand)(t:TypeId)
  (ho:o.op = .call { callee:=.builtin .append,args:=#[s,x],argTypes:=#[t,t] }) (e:TypeId) (i:TypeInfo) (ht:P.underlying t=some (.slice e)) (hi:P.info? e=some i)
  {ad:Addr} {n cap:Nat} (hs:a.eval s = .slice (some ad) n cap) (hn:n<=cap) {A:yE} {m c:Nat} (hm:m=0) (hx:a.eval x = .slice A m c) (h:wpList P ops Q rest (a.put o.dst (.slice (some ad) n cap)) w):wpList P ops Q (o :: rest) a w:=by
 subst hm;refine wpList_plain hgd fun K hK=>?_
 have hr:(Builtin.append_ #[t,t] o.type #[.slice (some ad) n cap,.slice A 0 c]).run P w = .ok (.slice (some ad) n cap) w:=by
  cases A <;> simp[Builtin.append_,run_underlying ht,sizeOf,typeInfo,hi,Builtin.lenOf,Builtin.firstCells,loadCells,loadCellsFrom,hn,storeCells]
 unfold Oper.wp execOp;simp only[ho,resolve,invoke,builtin,Sem.run_bind,Sem.run_pure,Result.andThen_ok,List.map_toArray,List.map_cons,List.map_nil,hs,hx,hr];exact hK _ _ h
end
def IntRow(w:World)(B:Nat)(v:Value)(p:List Int):Prop:=w.ownsRow B 3 1 v p.length (p.map (Value.int .i64))
theorem IntRow.cells{w:World}{B n c:Nat}{A:yE}{p:List Int}(h:IntRow w B (.slice A n c) p)(hp:0<p.length):∃ g,A=some ⟨g,0,none⟩/\∀ (j:Nat) (u:Value),(p.map (Value.int .i64))[j]? = some u->w.cell? ⟨g,0+j,none⟩=some u:=by
 rcases h.2 with⟨_,h0⟩|⟨g,cap,cur,hv,hb,hh,hnc,hm,hsz,htk⟩
 ·omega
 ·injection hv with e1 e2 e3;refine⟨g,e1,fun j u hu=>?_⟩;rw[Nat.zero_add,Lib.cell_of_heap hh];have hj:=(xP.1 hu).1;rw[List.length_map]at hj;rw[<-htk,List.getElem?_take_of_lt (by omega)]at hu;rw[<-Array.getElem?_toList];exact hu
theorem Zhj(p:List Int):∀ u∈p.map (Value.int .i64),u.oneCell'=true:=by
 intro u hu;obtain⟨x,_,rfl⟩:=List.mem_map.1 hu;rfl
end Go.Proofs.YtfjpemdejoejbaaGreat
namespace Go.Proofs.YtfjpemdejoejbaaGreat
open Go.Proofs.Tryz Go.RowKit
theorem RowIs.at{w:World}{g:Nat}{cs:Array Value}{us:List TV}(hc:w.heap[g]? = some (.cells cs 25 (0,0)))(h:RowIs cs us){i:Nat}{u:TV}(hu:us[i]? = some u):Zjn w g (i*4) u:=by
 obtain⟨q0,q1,q2,q3⟩:=h i u hu;exact⟨Qab hc _ _ q0,Qab hc _ _ q1,Qab hc _ _ q2,Qab hc _ _ q3⟩
def Zfd(w:World)(b o:Nat)(y:TV):World:=(((w.setCell ⟨b,o,none⟩ (.int .i64 y.kind)).setCell ⟨b,o+1,none⟩ (.string y.text)).setCell ⟨b,o+2,none⟩ (.slice y.la y.ll y.lc)).setCell ⟨b,o+3,none⟩ (.slice y.ka y.kl y.kc)
def Zif(cs:Array Value)(o:Nat)(y:TV):Array Value:=(((cs.setIfInBounds o (.int .i64 y.kind)).setIfInBounds (o+1) (.string y.text)).setIfInBounds (o+2) (.slice y.la y.ll y.lc)).setIfInBounds (o+3) (.slice y.ka y.kl y.kc)
theorem Qn4{w:World}{b:Nat}{cs:Array Value}{T:TypeId}(o:Nat)(y:TV)(h:w.heap[b]? = some (.cells cs T (0,0))):(Zfd w b o y).heap[b]? = some (.cells (Zif cs o y) T (0,0)):=Qa1 (Qa1 (Qa1 (Qa1 h rfl) rfl) rfl) rfl
theorem Qeq{w:World}{b k:Nat}(o:Nat)(y:TV)(h:k≠b):(Zfd w b o y).heap[k]? = w.heap[k]?:=(((Qaq h).trans (Qaq h)).trans (Qaq h)).trans (Qaq h)
theorem Qn5(w:World)(b o:Nat)(y:TV):(Zfd w b o y).heap.size=w.heap.size:=by simp[Zfd,World.setCell]
theorem Qyv(w:World){B b:Nat}(o:Nat)(y:TV)(h:B<=b):Below B w (Zfd w b o y):=((((xC B w).setCell (p:=⟨b,o,none⟩) h _).setCell (p:=⟨b,o+1,none⟩) h _).setCell (p:=⟨b,o+2,none⟩) h _).setCell (p:=⟨b,o+3,none⟩) h _
theorem Zdc(cs:Array Value)(o:Nat)(y:TV):(Zif cs o y).size=cs.size:=by simp[Zif]
theorem Qjd(cs:Array Value)(o:Nat)(y:TV)(q:Nat)(h:q<o\/o+4<=q):(Zif cs o y)[q]? = cs[q]?:=by
 unfold Zif;rw[xY (by omega),xY (by omega),xY (by omega),xY (by omega)]
end Go.Proofs.YtfjpemdejoejbaaGreat
namespace Go.Proofs.YtfjpemdejoejbaaGreat
open Go.Proofs.Tryz Go.RowKit Go.Shelf
theorem Qaw{w w':World}{g o:Nat}{x:Value}(hb:Below w.heap.size w w')(hg:g<w.heap.size)(h:w.cell? ⟨g,o,none⟩=some x):w'.cell? ⟨g,o,none⟩=some x:=(xJ (w:=w) (a:=⟨g,o,none⟩) (hb.block g hg)).trans h
theorem Zd7{n:Int}(h:0<=n):Qat 1 n=3:=by
 unfold Qat;rw[xO rfl,xO h]
theorem Qy4{n:Int}(h:0<=Qat 2 n):6<=Qat 2 n:=by
 unfold Qat at h |-;rw[xN (by decide),xO rfl]at h |-
 split at h <;> (rw[Int.max_def]at *;repeat' split) <;> omega
theorem Zd8{k n:Int}(hk:k=4\/k=8\/k=22)(h:0<=Qat k n):Qat k n=2:=by
 rcases hk with rfl | rfl | rfl <;> (unfold Qat Qbc at h |-;simp at h |-;omega)
theorem Qy5{k n:Int}(hk:k≠17)(h:0<=Qat k n):1<=Qat k n:=by
 unfold Qat Qbc at h |-;simp only[Int.max_def]at h |-
 repeat' split at h
 all_goals first | omega | (simp_all;done) | (simp_all;omega)
theorem Qy6{k n:Int}(h:0<=n):Qat k n<=n+6:=by
 unfold Qat Qbc;simp only[Int.max_def]
 repeat' split
 all_goals omega
theorem Qmf(k:Int)(n:Nat):∀ (l:List Tr) (i j:Nat) (a:Tr),Qbo k n i l=true->l[j]? = some a->Qa2 a=true
 | [],_,j,a,_,h=>by simp at h
 | t :: r,i,j,a,hs,h=>by
  rw[Qbo,Bool.and_eq_true,Bool.and_eq_true]at hs;cases j with
  | zero=>simp at h;subst h;exact hs.1.2
  | succ j=>exact Qmf k n r (i+1) j a hs.2 (by simpa using h)
theorem Qk7{t:Tr}(h:Qa2 t=true):0<=Qat t.kind t.kids.length/\∀ (j:Nat) (k:Tr),t.kids[j]? = some k->Qa2 k=true:=by
 rw[Qd8,Bool.and_eq_true,Bool.and_eq_true]at h;exact⟨by have:=h.1.1;simp at this;omega,fun j k hk=>Qmf _ _ _ 0 j k h.2 hk⟩
theorem Qy7(n:Nat)(w:World)(hn:n<=1000000):Calls prog 141 #[.int .i64 n] w fun e w'=>∃ r,e = .returned r/\w'.ownsRow w.heap.size 9 1 r n ((List.replicate n (⟨#[32]⟩:yD)).map Value.string)/\Below w.heap.size w w':=by
 have HN:=hQ hn;obtain⟨is,his,s0,s1,s2⟩:=info_parts Qdl;go_enter func141,ntmps141;go_wp2
 go_loopw [3,4] (fun l i wr=>∃ j:Nat,i = .int .i64 j/\j<=n/\wr.ownsRow w.heap.size 9 1 l j ((List.replicate j (⟨#[32]⟩:yD)).map Value.string)/\Below w.heap.size w wr) (fun _ i _=>n-(intOf i).toNat)
 case atStart=>exact⟨0,rfl,xZ _,World.ownsRow_nil _ _ _ _,xC _ _⟩
 case round =>
  obtain⟨j,rfl,hj,hown,hb⟩:=hrel;have HO:=hQ hown;have HB:=hQ hb;clear hown hb
  by_cases hlt:j<n
  ·have HL1:=hQ (show j+1<=maxLen from by have:=HN.out;unfold maxLen;omega);have HL2:=hQ (show(j+1)*16<=140737488355328 from by have:=HN.out;omega);have HW:=hQ ((xC wr.heap.size wr).alloc (xA _) (.cells #[.string ⟨#[32]⟩] 9));have HJ:=hQ hj;clear hj;have HNW:=hQ (xM (w:=wr.alloc (.cells #[.string ⟨#[32]⟩] 9)) (cs:=#[.string ⟨#[32]⟩]) (t:=9) (fr:=(0,0)) (xH wr _));have HON:=hQ (Qnf [⟨#[32]⟩]);have HSZ:=hQ (show w.heap.size<=(wr.alloc (.cells #[.string ⟨#[32]⟩] 9)).heap.size from by rw[xI];have:=HB.out.size;omega);have HOA:=hQ (HO.out.alloc (.cells #[.string ⟨#[32]⟩] 9));go_wp2_with (at_builtin;refine wpList_append_lies _ rfl _ _ 23 rfl w.heap.size 9 is _ 1 16 underlying23 his s0 s1 s2 rfl (by decide) _ j ((List.replicate j (⟨#[32]⟩:yD)).map Value.string) rfl HOA.out ⟨wr.heap.size,0,none⟩ 1 1 [.string ⟨#[32]⟩] rfl rfl HNW.out HON.out (by decide) HL1.out HL2.out HSZ.out _ rfl ?_;intro g c w3 hown hgr _ hlt3;have HO3:=hQ hown;have HB3:=hQ ((yC HB.out HW.out).grown hgr HSZ.out (fun k hk=>(HO.out.lt k hk).1));clear hown hgr hlt3)
   go_roundw
   case rel =>
    refine⟨j+1,by go_num,by omega,?_,HB3.out⟩;rw[List.replicate_succ',List.map_append];exact HO3.out
   case measure=>simp[intOf];omega
  ·obtain rfl:j=n:=by omega
   go_wp2;go_ret;exact⟨_,rfl,HO.out,HB.out⟩
def BefP(w:World)(e:Ending)(w':World):Prop:=∃ s:yD,e = .returned (.string s)/\s.size<=5/\Below w.heap.size w w'
theorem Qy8(v:TV)(i:Nat)(s:yD)(w:World)(hs:s.size<=5):Calls prog 142 #[.agg #[.int .i64 v.kind,.string v.text,.slice v.la v.ll v.lc,.slice v.ka v.kl v.kc],.int .i64 i,.string s] w (BefP w):=by
 obtain⟨vk,vx,vla,vll,vlc,vka,vkl,vkc⟩:=v;have HB0:=hQ ((xC w.heap.size w).alloc (xA _) (trO ⟨vk,vx,vla,vll,vlc,vka,vkl,vkc⟩));have HS:=hQ hs;clear hs
 by_cases h1:vk=1
 ·subst h1;go_enter func142,ntmps142;go_wp2;go_ret;exact⟨_,rfl,by decide,HB0.out⟩
 have d1:decide (vk=1)=false:=xR h1;have e1:=Qcr h1
 by_cases hi:0<i
 ·go_enter func142,ntmps142;go_wp2;go_ret;exact⟨_,rfl,by decide,HB0.out⟩
 obtain rfl:i=0:=by omega
 by_cases h2:vk=8\/vk=22\/vk=16\/vk=18
 ·rcases h2 with rfl | rfl | rfl | rfl
  all_goals
   go_enter func142,ntmps142;go_wp2;go_ret;exact⟨_,rfl,by decide,HB0.out⟩
 by_cases h3:vk=2
 ·subst h3
  by_cases hl:2<vkl
  ·go_enter func142,ntmps142;go_wp2;go_ret;exact⟨_,rfl,by decide,HB0.out⟩
  ·have dl:decide (2<vkl)=false:=xR hl;go_enter func142,ntmps142;go_wp2;go_ret;exact⟨_,rfl,by decide,HB0.out⟩
 by_cases h4:vk=17\/vk=21
 ·rcases h4 with rfl | rfl
  all_goals
   go_enter func142,ntmps142;go_wp2;go_ret;exact⟨_,rfl,HS.out,HB0.out⟩
 have n8:vk≠8:=fun h=>h2 (.inl h)
 have n22:vk≠22:=fun h=>h2 (.inr (.inl h))
 have n16:vk≠16:=fun h=>h2 (.inr (.inr (.inl h)))
 have n18:vk≠18:=fun h=>h2 (.inr (.inr (.inr h)))
 have n17:vk≠17:=fun h=>h4 (.inl h)
 have n21:vk≠21:=fun h=>h4 (.inr h)
 have q8:=Qcr n8;have q22:=Qcr n22;have q16:=Qcr n16;have q18:=Qcr n18;have q17:=Qcr n17;have q21:=Qcr n21;have q2:=Qcr h3;clear h2 h4;go_enter func142,ntmps142;go_wp2;go_ret;exact⟨_,rfl,by decide,HB0.out⟩
structure LdU (R U:Nat) (k:Int) (x:yD) (la:yE) (q lc:Nat) (wr:World):Prop where
 blk:wr.heap[U]? = some (trO ⟨k,x,la,q,lc,none,0,0⟩)
 ru:R<U
 cap:q<=lc
 ld:∃ ls:List yD,ls.length=q/\(∀ y∈ls,y.size<=5)/\(0<q->∃ g cs,la=some ⟨g,0,none⟩/\wr.heap[g]? = some (.cells cs 9 (0,0))/\R<g/\g≠U/\∀ (i:Nat) (s:yD),ls[i]? = some s->cs[i]? = some (.string s))
theorem LdU.keep{R U:Nat}{k:Int}{x:yD}{la:yE}{q lc:Nat}{wr w':World}(h:LdU R U k x la q lc wr)(hb:Below wr.heap.size wr w'):LdU R U k x la q lc w':=by
 obtain⟨h1,h2,h3,ls,h4,h5,h6⟩:=h;refine⟨(hb.block U (Qaa h1)).trans h1,h2,h3,ls,h4,h5,fun hq=>?_⟩;obtain⟨g,cs,q1,q2,q3⟩:=h6 hq;exact⟨g,cs,q1,(hb.block g (Qaa q2)).trans q2,q3⟩
theorem LdU.put{R U g i:Nat}{k:Int}{x s:yD}{q lc:Nat}{wr:World}(h:LdU R U k x (some ⟨g,0,none⟩) q lc wr)(hi:i<q)(hs:s.size<=5):LdU R U k x (some ⟨g,0,none⟩) q lc (wr.setCell ⟨g,i,none⟩ (.string s)):=by
 obtain⟨h1,h2,h3,ls,h4,h5,h6⟩:=h;obtain⟨g',cs,q1,q2,q3,q4,q5⟩:=h6 (by omega);injection q1 with q1;injection q1 with q1 _ _;subst q1
 refine⟨(Qaq (fun e=>q4 e.symm)).trans h1,h2,h3,ls.set i s,by rw[List.length_set,h4],fun y hy=>?_,fun _=>⟨g,_,rfl,Qa1 q2 rfl,q3,q4,fun j z hz=>?_⟩⟩
 ·rcases List.mem_or_eq_of_mem_set hy with h | h
  ·exact h5 y h
  ·rw[h];exact hs
 ·have hcs:i<cs.size:=by
   obtain⟨z',hz'⟩:∃ z,ls[i]? = some z:=⟨_,xF (by omega)⟩;exact(Array.getElem?_eq_some_iff.1 (q5 i z' hz')).1
  by_cases hj:j=i
  ·subst hj;rw[List.getElem?_set_self (by omega)]at hz;injection hz with hz;subst hz;rw[Array.getElem?_setIfInBounds_self_of_lt hcs]
  ·rw[List.getElem?_set_ne (fun e=>hj e.symm)]at hz;rw[xY (fun e=>hj e.symm)];exact q5 j z hz
theorem LdU.at{R U i:Nat}{k:Int}{x:yD}{la:yE}{q lc:Nat}{wr:World}(h:LdU R U k x la q lc wr)(hi:i<q):∃ g,la=some ⟨g,0,none⟩/\R<g/\g≠U/\g<wr.heap.size/\(∀ o,wr.frozen? ⟨g,o,none⟩=false)/\∀ j,j<q->∃ s,wr.cell? ⟨g,j,none⟩=some (.string s):=by
 obtain⟨h1,h2,h3,ls,h4,h5,h6⟩:=h;obtain⟨g,cs,q1,q2,q3,q4,q5⟩:=h6 (by omega);refine⟨g,q1,q3,q4,Qaa q2,fun o=>xL q2 _,fun j hj=>?_⟩;obtain⟨s,hs⟩:∃ s,ls[j]? = some s:=⟨_,xF (by omega)⟩;exact⟨s,Qab q2 j _ (q5 j s hs)⟩
structure RowK (G:Nat) (wr:World) (ks:List Tr) (vs:List TV):Prop where
 len:vs.length=ks.length
 row:∃ cs,wr.heap[G]? = some (.cells cs 25 (0,0))/\RowIs cs vs
 kid:∀ (i:Nat) (k:Tr) (u:TV),ks[i]? = some k->vs[i]? = some u->TrAt (fun b=>G<b/\b<wr.heap.size) wr k u
theorem RowK.other{G:Nat}{wr w':World}{ks:List Tr}{vs:List TV}(h:RowK G wr ks vs)(hs:wr.heap.size<=w'.heap.size)(hb:∀ b,G<=b->b<wr.heap.size->w'.heap[b]? = wr.heap[b]?):RowK G w' ks vs:=by
 obtain⟨h1,⟨cs,h2,h3⟩,h4⟩:=h;exact⟨h1,⟨cs,(hb G (xA _) (Qaa h2)).trans h2,h3⟩,fun i k u hk hu=>TrAt.move (fun b hb'=>⟨hb'.1,by omega⟩) (fun b hb' hl=>hb b (by omega) hl) _ _ (h4 i k u hk hu)⟩
theorem Qy9{cs:Array Value}{vs:List TV}(h:RowIs cs vs)(y:TV)(j:Nat)(hj:j=vs.length)(hs:j*4+4<=cs.size):RowIs (Zif cs (j*4) y) (vs ++ [y]):=by
 subst hj;intro i v hv
 by_cases hi:i<vs.length
 ·rw[yB hi]at hv;obtain⟨q0,q1,q2,q3⟩:=h i v hv;exact⟨(Qjd cs _ y _ (by omega)).trans q0,(Qjd cs _ y _ (by omega)).trans q1,(Qjd cs _ y _ (by omega)).trans q2,(Qjd cs _ y _ (by omega)).trans q3⟩
 ·have hl:=(xP.1 hv).1;rw[xB,List.length_singleton]at hl;obtain rfl:i=vs.length:=by omega
  rw[xX (xA _),Nat.sub_self]at hv;injection hv with hv;subst hv;unfold Zif
  refine⟨?_,?_,?_,?_⟩
  ·rw[xY (by omega),xY (by omega),xY (by omega),Array.getElem?_setIfInBounds_self_of_lt (by omega)]
  ·rw[xY (by omega),xY (by omega),Array.getElem?_setIfInBounds_self_of_lt (by simp;omega)]
  ·rw[xY (by omega),Array.getElem?_setIfInBounds_self_of_lt (by simp;omega)]
  ·rw[Array.getElem?_setIfInBounds_self_of_lt (by simp;omega)]
theorem RowK.snoc{G j:Nat}{w5:World}{ks:List Tr}{vs:List TV}{t:Tr}{y:TV}(h:RowK G w5 ks vs)(hj:j=ks.length)(hc:∀ cs,w5.heap[G]? = some (.cells cs 25 (0,0))->j*4+4<=cs.size)(ht:TrAt (fun b=>G<b/\b<w5.heap.size) w5 t y):RowK G (Zfd w5 G (j*4) y) (ks ++ [t]) (vs ++ [y]):=by
 obtain⟨h1,⟨cs,h2,h3⟩,h4⟩:=h;have hz:=Qn5 w5 G (j*4) y;refine⟨by rw[xB,xB,h1];rfl,⟨_,Qn4 (j*4) y h2,Qy9 h3 y j (by rw[h1];exact hj) (hc cs h2)⟩,fun i k u hk hu=>?_⟩;have hmv:∀ (k:Tr) (u:TV),TrAt (fun b=>G<b/\b<w5.heap.size) w5 k u->TrAt (fun b=>G<b/\b<(Zfd w5 G (j*4) y).heap.size) (Zfd w5 G (j*4) y) k u:=fun k u h=>TrAt.move (fun b hb=>⟨hb.1,by rw[hz];exact hb.2⟩) (fun b hb _=>Qeq (j*4) y (by omega)) _ _ h
 by_cases hi:i<ks.length
 ·rw[yB hi]at hk;rw[yB (by rw[h1];exact hi)]at hu;exact hmv _ _ (h4 i k u hk hu)
 ·have hl:=(xP.1 hk).1;rw[xB,List.length_singleton]at hl;obtain rfl:i=ks.length:=by omega
  rw[xX (xA _),Nat.sub_self]at hk;rw[<-h1,xX (xA _),Nat.sub_self]at hu;injection hk with hk;injection hu with hu;subst hk hu;exact hmv _ _ ht
def Znx(t:Tr)(w:World)(e:Ending)(w':World):Prop:=∃ (t':Tr) (u:TV),e = .returned (.agg #[.int .i64 u.kind,.string u.text,.slice u.la u.ll u.lc,.slice u.ka u.kl u.kc])/\TrAt (fun b=>w.heap.size<=b/\b<w'.heap.size) w' t' u/\Qai t'=Qai t/\Qf6 t'=true/\Below w.heap.size w w'/\t'.kind=t.kind
structure ArE (kd:Int) (U G:Nat) (la:yE) (q lc:Nat) (t:Tr) (v:TV) (ks:List Tr) (vs:List TV) (w wr:World):Prop where
 ld:LdU (w.heap.size+1) U kd t.text la q lc wr
 res:wr.heap[w.heap.size+1]? = some (.cells #[.int .i64 0,.string ⟨#[]⟩,.slice none 0 0,.slice none 0 0] 25 (0,0))
 box:wr.heap[w.heap.size]? = some (trO v)
 row:RowK G wr ks vs
 ug:U<G
 lg:0<q->∀ g,la=some ⟨g,0,none⟩->g<G
 below:Below w.heap.size w wr
theorem ArE.put{kd:Int}{U G g i:Nat}{q lc:Nat}{t:Tr}{v:TV}{ks:List Tr}{vs:List TV}{w wr:World}{s:yD}(h:ArE kd U G (some ⟨g,0,none⟩) q lc t v ks vs w wr)(hi:i<q)(hs:s.size<=5):ArE kd U G (some ⟨g,0,none⟩) q lc t v ks vs w (wr.setCell ⟨g,i,none⟩ (.string s)):=by
 obtain⟨g',e,h1,h2,h3,_⟩:=h.ld.at hi;injection e with e;injection e with e _ _;subst e;have hg:=h.lg (by omega) g rfl;have hz:(wr.setCell ⟨g,i,none⟩ (.string s)).heap.size=wr.heap.size:=by simp[World.setCell]
 exact⟨h.ld.put hi hs,(Qaq (by omega)).trans h.res,(Qaq (by omega)).trans h.box,h.row.other (by rw[hz];exact xA _) (fun b hb _=>Qaq (by omega)),h.ug,h.lg,h.below.setCell (p:=⟨g,i,none⟩) (by show w.heap.size<=g;omega) _⟩
theorem ArE.drew{kd:Int}{U G:Nat}{la:yE}{q lc:Nat}{t:Tr}{v:TV}{ks:List Tr}{vs:List TV}{w wr:World}(h:ArE kd U G la q lc t v ks vs w wr):ArE kd U G la q lc t v ks vs w wr.drew :=
 ⟨h.ld.keep ((xC _ _).drew),h.res,h.box,h.row.other (xA _) (fun _ _ _=>rfl),h.ug,h.lg,h.below.drew⟩
theorem ArE.made{kd:Int}{U G:Nat}{la:yE}{q lc n:Nat}{t:Tr}{v:TV}{ks:List Tr}{vs:List TV}{w wr:World}(h:ArE kd U G la q lc t v ks vs w wr)(hx:szq t.text<=7)(hq:q<=n+6)(hn:n=ks.length)(hs:Qal ks=Qal t.kids)(ht:Qbu ks=true)(hk':kd=t.kind) :
  Znx t w (.returned (.agg #[.int .i64 kd,.string t.text,.slice la q lc,.slice (some ⟨G,0,none⟩) n n])) (Qek (wr.setCell ⟨U,3,none⟩ (.slice (some ⟨G,0,none⟩) n n)) (w.heap.size+1) ⟨kd,t.text,la,q,lc,some ⟨G,0,none⟩,n,n⟩):=by
 subst hn;obtain⟨ls,l1,l2,l3⟩:=h.ld.ld;have hU:=h.ld.ru;have hUG:=h.ug;obtain⟨cs,r1,r2⟩:=h.row.row;have hG:=Qaa r1;have hz:(Qek (wr.setCell ⟨U,3,none⟩ (.slice (some ⟨G,0,none⟩) ks.length ks.length)) (w.heap.size+1) ⟨kd,t.text,la,q,lc,some ⟨G,0,none⟩,ks.length,ks.length⟩).heap.size=wr.heap.size:=by rw[Qb7];simp[World.setCell]
 have hk:∀ b,b≠U->b≠w.heap.size+1->(Qek (wr.setCell ⟨U,3,none⟩ (.slice (some ⟨G,0,none⟩) ks.length ks.length)) (w.heap.size+1) ⟨kd,t.text,la,q,lc,some ⟨G,0,none⟩,ks.length,ks.length⟩).heap[b]? = wr.heap[b]?:=fun b h1 h2=>(Qa3 _ h2).trans (Qaq h1)
 refine⟨.mk kd t.text ls ks,⟨kd,t.text,la,q,lc,some ⟨G,0,none⟩,ks.length,ks.length⟩,rfl,?_,by rw[Qai,Qa5,hs],Qcp.2 ⟨hx,by omega,l2,ht⟩,(h.below.setCell (p:=⟨U,3,none⟩) (by show w.heap.size<=U;omega) _).trans ((Qb6 _ (w.heap.size+1) _).mono (by omega)),hk'⟩;unfold TrAt
 refine⟨rfl,rfl,l1.symm,rfl,fun hne=>?_,fun hne=>?_,h.ld.cap,xA _⟩
 ·obtain⟨g,cg,q1,q2,q3,q4,q5⟩:=l3 (by rw[<-l1];exact List.length_pos_iff.2 hne);refine⟨g,0,q1,⟨by omega,by rw[hz];exact Qaa q2⟩,fun i y hy=>?_⟩;rw[Nat.zero_add];exact(xJ (w:=wr) (a:=⟨g,i,none⟩) (hk g q4 (by omega))).trans (Qab q2 i _ (q5 i y hy))
 ·refine⟨G,0,rfl,⟨by omega,by rw[hz];exact hG⟩,TrsAt.of ks 0 fun i k hki=>?_⟩;have hi:=(xP.1 hki).1;obtain⟨u,hu⟩:∃ u,vs[i]? = some u:=⟨_,xF (by rw[h.row.len];exact hi)⟩;obtain⟨q0,q1,q2,q3⟩:=r2 i u hu;have hc:∀ (o:Nat) (z:Value),cs[o]? = some z->(Qek (wr.setCell ⟨U,3,none⟩ (.slice (some ⟨G,0,none⟩) ks.length ks.length)) (w.heap.size+1) ⟨kd,t.text,la,q,lc,some ⟨G,0,none⟩,ks.length,ks.length⟩).cell? ⟨G,o,none⟩=some z:=fun o z hz=>(xJ (w:=wr) (a:=⟨G,o,none⟩) (hk G (by omega) (by omega))).trans (Qab r1 o _ hz)
  rw[Nat.zero_add];exact⟨u,hc _ _ q0,hc _ _ q1,hc _ _ q2,hc _ _ q3,TrAt.move (fun b hb=>⟨by omega,by rw[hz];exact hb.2⟩) (fun b hb _=>hk b (by omega) (by omega)) _ _ (h.row.kid i k u hki hu)⟩
end Go.Proofs.YtfjpemdejoejbaaGreat

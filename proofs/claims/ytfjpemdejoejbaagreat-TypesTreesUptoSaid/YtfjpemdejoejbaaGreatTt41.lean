/- Part 41 -/
import Derived.Test.YtfjpemdejoejbaaGreatTt40
set_option maxRecDepth 100000
set_option maxHeartbeats 4000000
namespace Go.Proofs.YtfjpemdejoejbaaGreat
open Go.RowKit Go.Shelf
theorem Qxu {ps:List Tr} {j:Nat} {t:Tr} (h:Qb4 ps=true) (ht:ps[j]? = some t):t.kind=1∧Qaj t=true:=by
 unfold Qb4 at h;rw [List.all_eq_true] at h;have:=h t (yA ht)
 simp at this
 exact this
def TgsAt (w:World) (B:Nat) (v:Value) (zs:List Tgm):Prop:=∃ ws,TRow w B v ws∧TarsAt w B ws zs
theorem TRow.keep {w w':World} {B:Nat} {v:Value} {ws:List TgV} (h:TRow w B v ws) (hb:Below w.heap.size w w'):TRow w' B v ws:=(Keeps.of_below (P:=fun _=>none) hb).row h fun _ _=>.inl rfl
theorem TgsAt.keep {w w':World} {B:Nat} {v:Value} {zs:List Tgm} (h:TgsAt w B v zs) (hb:Below w.heap.size w w'):TgsAt w' B v zs:=by
 obtain ⟨ws,h1,h2⟩:=h;exact ⟨ws,h1.keep hb,h2.step fun _ _ h=>h.keep hb⟩
theorem TgsAt.slice {w:World} {B:Nat} {v:Value} {zs:List Tgm} (h:TgsAt w B v zs):∃ A c,v = .slice A zs.length c:=by
 obtain ⟨ws,h1,h2⟩:=h;obtain ⟨A,c,h⟩:=Qga h1;exact ⟨A,c,by rw [h,h2.1]⟩
theorem Qpl (v:Value) (a k:Nat) (h:v.ownBlock≠some k):Qh1 v a (.slice none 0 0) 0 k=none:=Qfr h (by intro h;cases h) (by intro h;cases h)
def TgsL (ps:List Tr) (w:World) (l i:Value) (wr:World):Prop:=∃ j:Nat,i = .int .i64 (j:Int)∧j≤ps.length∧TgsAt wr w.heap.size l (Qgu ps (ps.take j) 0)∧Below w.heap.size w wr
theorem Za2 {ps:List Tr} {j:Nat} {t:Tr} {w wr wb w4:World} {lv v4:Value} {ws vs4:List TgV} (ht:ps[j]? = some t) (hb:Below w.heap.size w wr) (hbb:Below wr.heap.size wr wb) (hl:TRow wr w.heap.size lv ws) (ha:TarsAt wr w.heap.size ws (Qgu ps (ps.take j) 0))
  (hv:TRow w4 w.heap.size v4 (ws ++ vs4)) (hva:TarsAt w4 wb.heap.size vs4 (Qsp ps j t [])) (hk:Keeps (Qh1 lv (ws.length*5) (.slice none 0 0) ([]:List Int).length) wb w4):TgsAt w4 w.heap.size v4 (Qgu ps (ps.take (j+1)) 0)∧Below w.heap.size w w4:=by
 have hl2:TRow wb w.heap.size lv ws:=hl.keep hbb;refine ⟨⟨_,hv,?_⟩,hb.trans ((hbb.mono hb.size).trans (hk.below (xQ hb.size hbb.size) fun k hk=>Qpl _ _ _ fun e=>by have:=(hl.lt k e).1;omega))⟩;rw [Qum ht];refine TarsAt.app (ha.step fun v p h=>?_) (hva.step fun v p h=>Qfy h (xQ hb.size hbb.size));have h2:IRow wb w.heap.size v p:=h.keep hbb;exact hk.row h2 fun k hk'=>.inl (Qpl _ _ _ (Qfs hl2 (Qjk h2 hk').choose_spec (by decide)))
theorem Qre (S:Nat→Prop) (A:Option Addr) (c:Nat) (ps:List Tr) (w:World) (hp:TrAt S w (Qap ps) ⟨0,⟨#[]⟩,none,0,0,A,ps.length,c⟩) (hf:Qe9 (Qap ps)=true) (hs:Qbb (Qap ps)=true) (hw:Qaz (Qap ps)=true) (hz:Qak ps≤90000) :
  Calls Tryz.prog 63 #[.slice A ps.length c] w fun e w'=>∃ v,e = .returned v∧TgsAt w' w.heap.size v (Qho ps)∧Below w.heap.size w w':=by
 have HC:=hQ (fun w' (hb:Below w.heap.size w w')=>Qk3 S A c ps w' (hp.keep hb) hs hw);have HP:=hQ (TrAt.low _ _ hp);have HT:=hQ (fun (m:Nat) (hm:m<ps.length) (N:Nat)=>Qrd w.heap.size ps A c m hf hm N);have HW:=hQ (Qa1 hw).2.2;have HZ:=hQ hz;have hl:ps.length≤90000:=by have:=Qa4 ps;omega
 clear hp hf hs hw hz;cases hg:Qb4 ps with
 | false =>
  have HV:=hQ (show Qho ps = [] from by unfold Qho;rw [hg];rfl);rw [hg] at HC;clear hg HT
  go_enter Tryz.func63,Tryz.ntmps63
  go_wp2_with (go_at_call 87;refine (HC.out _ (by first | exact xC _ _ | exact below_drewN (xC _ _) _)).mono ?_;rintro e w1 ⟨rfl,hb⟩;have HB1:=hQ hb;clear hb)
  refine bodyPost_ret (v:=.slice none 0 0) (by simp [results,Tryz.results63,go_sem, *]) rfl ?_;rw [HV.out];exact ⟨_,rfl,⟨[],World.ownsRow_nil _ _ _ _,TarsAt.nil _ _⟩,HB1.out⟩
 | true =>
  have HG:=hQ hg;have HV:=hQ (show Qho ps=Qgu ps (ps.take ps.length) 0 from by unfold Qho;rw [hg,xO rfl,List.take_length]);rw [hg] at HC;clear hg
  go_enter Tryz.func63,Tryz.ntmps63
  go_wp2_with (go_at_call 87;refine (HC.out _ (by first | exact xC _ _ | exact below_drewN (xC _ _) _)).mono ?_;rintro e w1 ⟨rfl,hb⟩;have HB1:=hQ hb;clear hb)
  go_loopw [3,11] (fun l i wr=>TgsL ps w l i wr) (fun _ i _=>ps.length-(intOf i).toNat)
  case atStart=>exact ⟨0,rfl,xZ _,⟨[],World.ownsRow_nil _ _ _ _,TarsAt.nil _ _⟩,HB1.out⟩
  case round =>
   obtain ⟨j,rfl,hj,hr,hb⟩:=hrel;have HBR:=hQ hb;obtain ⟨ws,hrow,hat⟩:=hr;obtain ⟨LA,lc,rfl⟩:=Qga hrow;have HROW:=hQ hrow;have HAT:=hQ hat;clear hrow hat hb
   by_cases hlt:j<ps.length
   ·obtain ⟨t,ht⟩:∃ t,ps[j]? = some t:=⟨_,xF hlt⟩;obtain ⟨b,off,hka⟩:∃ b off,A=some ⟨b,off,none⟩:=HP.out.addr.resolve_left (by show ¬ ps.length=0;omega);subst hka;obtain ⟨u,c0,c1,c2,c3,hu⟩:=(HP.out.keep HBR.out).at rfl (show (Qap ps).kids[j]? = some t from ht);have HBA:=hQ (Qd7 wr (trO u));have hk1:=(Qxu HG.out ht).1;have hws:ws.length≤Qak (ps.take j):=by rw [HAT.out.1];exact Qle ps _ 0
    have hsz:=Qd9 ht;have hsz2:=Qdm ps (j+1);have hsz3:Qak (ps.take (j+1))=Qak (ps.take j)+Qal t:=hsz;have HCT:=hQ (HT.out j hlt (SizeOf.sizeOf t) t u (.slice LA ws.length lc) ws (.slice none 0 0) [] (wr.alloc (trO u)) (xA _) (hu.lows (HBA.out.mono HBR.out.size)) ((HP.out.keep HBR.out).lows (HBA.out.mono HBR.out.size)) ⟨HROW.out.keep HBA.out,World.ownsRow_nil _ _ _ _,xQ HBR.out.size HBA.out.size⟩ (.inr (by rw [hk1];decide)) (HW.out j t ht) (by have:=HZ.out;omega) (by have:=HZ.out;simp;omega));have HTT:=hQ ht;have cl:=xK wr _ c0;have hk0:(0:Int)≤(j:Int):=by omega
    have hk2:(j:Int)<(ps.length:Int):=by omega
    have hk3:(j:Int)+1≤90001:=by omega
    clear hu ht hk1 hws hsz hsz2 hsz3 HT;go_wp2_with (go_at_call 98;refine HCT.out.mono ?_;rintro e w4 ⟨v4,vs4,rfl,hv4,hva4,hk4,_⟩;have HST:=hQ (Za2 HTT.out HBR.out HBA.out HROW.out HAT.out hv4 hva4 hk4);clear hv4 hva4 hk4)
    go_roundw
    case measure=>first | (simp [intOf];done) | (simp [intOf];omega)
    case rel=>exact ⟨j+1,by go_num,by omega,HST.out.1,HST.out.2⟩
   ·obtain rfl:j=ps.length:=by omega
    go_wp2
    go_ret
    exact ⟨_,rfl,⟨ws,HROW.out,by rw [HV.out];exact HAT.out⟩,HBR.out⟩
theorem Qml:{ws:List TgV}→{j:Nat}→{y:TgV}→ws[j]? = some y→(Qen ws)[j*5]? = some (.int .i64 y.1)∧(Qen ws)[j*5+1]? = some y.2.1∧(Qen ws)[j*5+2]? = some (.int .i64 y.2.2.1)∧(Qen ws)[j*5+3]? = some (.int .i64 y.2.2.2.1)∧(Qen ws)[j*5+4]? = some (.bool y.2.2.2.2)
 | [],_,_,h=>by simp at h
 | u :: r,0,y,h=>by
  injection h with h;subst h;exact ⟨rfl,rfl,rfl,rfl,rfl⟩
 | u :: r,j+1,y,h=>by
  have ih:=Qml (ws:=r) (j:=j) (y:=y) h
  have hs:∀ k,(Qen (u :: r))[(j+1)*5+k]? = (Qen r)[j*5+k]?:=fun k=>by
   unfold Qen;rw [List.flatMap_cons,show (j+1)*5+k=j*5+k+5 from by omega,xX (by simp [tgC])];simp [tgC]
  exact ⟨(hs 0).trans ih.1,(hs 1).trans ih.2.1,(hs 2).trans ih.2.2.1,(hs 3).trans ih.2.2.2.1,(hs 4).trans ih.2.2.2.2⟩
theorem TgsAt.at {w:World} {B:Nat} {A:Option Addr} {n c:Nat} {zs:List Tgm} (h:TgsAt w B (.slice A n c) zs) {j:Nat} {z:Tgm} (hz:zs[j]? = some z):n=zs.length∧∃ g pv,A=some ⟨g,0,none⟩∧B≤g∧g<w.heap.size ∧
  w.cell? ⟨g,j*5,none⟩=some (.int .i64 z.1)∧w.cell? ⟨g,j*5+1,none⟩=some pv∧w.cell? ⟨g,j*5+2,none⟩=some (.int .i64 z.2.2.1)∧w.cell? ⟨g,j*5+3,none⟩=some (.int .i64 z.2.2.2.1)∧w.cell? ⟨g,j*5+4,none⟩=some (.bool z.2.2.2.2)∧IRow w B pv z.2.1:=by
 obtain ⟨ws,h1,h2⟩:=h;have hj:j<ws.length:=by rw [h2.1];exact (xP.1 hz).1
 obtain ⟨y,hy⟩:∃ y,ws[j]? = some y:=⟨_,xF hj⟩;obtain ⟨a1,a2,a3⟩:=h2.2 j y z hy hz
 have hn:n=ws.length:=by
  rcases h1.2 with ⟨e,h0⟩|⟨g,cap,cur,e,_⟩
  ·injection e with _ e _;omega
  ·injection e with _ e _
 refine ⟨by rw [hn,h2.1],?_⟩;obtain ⟨g,cap,e,hg,hlt⟩:=h1.form (by omega);injection e with e _ _;subst e;have hc:=h1.cells (g:=g) rfl;obtain ⟨q0,q1,q2,q3,q4⟩:=Qml hy;have e0:=hc _ _ q0;have e1:=hc _ _ q1;have e2:=hc _ _ q2;have e3:=hc _ _ q3;have e4:=hc _ _ q4;rw [Addr.add_lit] at e0 e1 e2 e3 e4;simp only [Nat.zero_add] at e0 e1 e2 e3 e4;rw [a3] at e2 e3 e4;rw [a1] at e0;exact ⟨g,y.2.1,rfl,hg,hlt,e0,e1,e2,e3,e4,a2⟩
theorem Qas {w w':World} {g o:Nat} {x:Value} (hb:Below w.heap.size w w') (hg:g<w.heap.size) (h:w.cell? ⟨g,o,none⟩=some x):w'.cell? ⟨g,o,none⟩=some x:=(xJ (w:=w) (a:=⟨g,o,none⟩) (hb.block g hg)).trans h
end Go.Proofs.YtfjpemdejoejbaaGreat
namespace Go.Proofs.YtfjpemdejoejbaaGreat
open Go.RowKit
theorem Qjz {t:Tr} (h:Qaj t=true):Qau (Qae t.kind) t.text=true:=by
 rw [Qhg] at h;simp at h
 exact h.1.2
theorem Qmn {t k:Tr} {d:Nat} (hz:Qal t≤1000) (h:Qaj t=true) (hk:t.kind=1) (ht:t.kids[d]? = some k):k.kind=2∨k.kind=3:=by
 rw [←Qbl _ t (xA _) hz,Qdo] at h;simp only [Bool.and_eq_true] at h;have h2:=h.2
 have key:∀ (l:List Tr) (n i j:Nat),Qbc 1 n i l=true→∀ a,l[j]? = some a→a.kind=2∨a.kind=3:=by
  intro l
  induction l with
  | nil=>intro n i j _ a ha;simp at ha
  | cons b r ih =>
   intro n i j hr a ha;rw [Qbc] at hr;simp only [Bool.and_eq_true] at hr
   match j,ha with
   | 0,ha =>
    injection ha with ha;subst ha;have:=hr.1.1
    unfold Qfl at this;rw [xO rfl] at this
    simpa using this
   | j+1,ha=>exact ih n (i+1) j hr.2 a (by simpa using ha)
 rw [hk] at h2;exact key _ _ _ d h2 k ht
theorem Qrh {ps:List Tr} {m d:Nat} {t u k:Tr} (hs:Qaj u=true) (hu:u.kind=16∨u.kind=9) (_ht:ps[m]? = some t) (hT:Qaj t=true) (hk1:t.kind=1) (hz:Qal t≤1000) (hk:t.kids[d]? = some k) (hx:k.text=(Qfp u.text).2.1):(u.kind=16 ↔ k.kind=2):=by
 have hks:Qaj k=true:=(Qq9 hz hT).2 _ (yA hk);have hkk:=Qmn hz hT hk1 hk;have hun:=Qjz hs;have hkn:=Qjz hks
 have ck:Qag (bl k.text)=1∧k.kind=2∨Qag (bl k.text)=2∧k.kind=3:=by
  rcases hkk with e | e
  ·rw [e] at hkn;exact .inl ⟨Qxz hkn,e⟩
  ·rw [e] at hkn;exact .inr ⟨Quo hkn,e⟩
 have cu:(Qag (bl u.text)=1∨Qag (bl u.text)=3)∧u.kind=16∨(Qag (bl u.text)=2∨Qag (bl u.text)=4)∧u.kind=9:=by
  rcases hu with e | e
  ·rw [e] at hun;exact .inl ⟨Qxy hun,e⟩
  ·rw [e] at hun;exact .inr ⟨Qun hun,e⟩
 by_cases hd:Qne u.text<u.text.size
 ·have hdv:(Qfp u.text).2.1=u.text.extract (Qne u.text+1) u.text.size:=by unfold Qfp;rw [xO hd]
  rw [hdv] at hx
  have hb:bl k.text=(bl u.text).drop (Qn6 (bl u.text)+1):=by
   rw [hx,Zdr];rfl
  have hdl:Qn6 (bl u.text)<(bl u.text).length:=by rw [Qfe];exact hd
  have c1:1≤Qag (bl u.text)∧Qag (bl u.text)≤4:=by omega
  have hcd:=Qxx c1.1 c1.2 hdl;have hcf:=Qrf (l:=bl k.text) (by omega);rw [hb,Qrg,←hb] at hcf
  rcases hcd with ⟨a1,a2⟩|⟨a1,a2⟩
  ·rw [a2] at hcf;have:=of_decide_eq_true hcf.symm
   omega
  ·rw [a2] at hcf;have:=of_decide_eq_false hcf.symm
   omega
 ·have hdv:(Qfp u.text).2.1=u.text:=by unfold Qfp;rw [xN hd]
  rw [hdv] at hx;rw [hx] at ck;omega
theorem Qpm (N:Nat):∀ t:Tr,SizeOf.sizeOf t≤N→Qar t=true→5≤t.kind∧t.kind≤9→Qal (Qav t)≤Qal t:=by
 induction N with
 | zero=>intro t h;have:=Qf7 t;omega
 | succ N ih =>
  intro t hN h hk
  rcases Qeu h hk with ⟨h8,k,hkk,h1,h2⟩|⟨h8,_,_⟩
  ·have hj:t.kids[0]? = some k:=by rw [hkk];rfl
   rw [(Qek h8 hkk).1];exact xQ (ih k (by have:=Qbn hj;omega) h2 h1) (Qdn hj)
  ·rw [(Qel h8).1];exact xA _
def Za3 (ps:List Tr) (r:Int × Int × Bool):Prop:=(r.2.2=false∧r=(0,0,false))∨∃ (M D:Nat) (t k:Tr),r=((M:Int),(D:Int),true)∧ps[M]? = some t∧t.kids[D]? = some k∧k.kind=3
theorem Qfd {ps:List Tr} (hz:∀ t∈ps,Qal t≤1000) (hg:Qb4 ps=true) {i:Nat} {u:Tr} (hu:Qar u=true) (h9:u.kind=9) (hs:Qal u≤1000):Za3 ps (Qaw ps i u.text):=by
 cases hf:(Qaw ps i u.text).2.2 with
 | false=>exact .inl ⟨hf,Qw7 hf⟩
 | true =>
  obtain ⟨M,D,t,k,h1,h2,h3,h4⟩:=Qse hf;refine .inr ⟨M,D,t,k,h4,h1,h2,?_⟩;obtain ⟨q1,q2⟩:=Qfc hg h1;have hzt:=hz t (yA h1);have hk:=Qmn hzt q2 q1 h2;have hus:Qaj u=true:=by rw [←Qbl _ u (xA _) hs];exact hu
  have:=Qrh hus (.inr h9) h1 q2 q1 hzt h2 h3
  omega
theorem Qx0 {ps:List Tr} {f n:Nat} {r:Int × Int × Bool} {met:List (Int × Int)} {R:Int × Nat × Int} (h:goL ps f r met n=some R) (hr:r.2.2=false):R=(7,0,0):=by
 cases f with
 | zero=>rw [goL] at h;cases h
 | succ f =>
  rw [goL,xN (by rw [hr];decide)] at h;injection h with h;exact h.symm
theorem Qri {ps:List Tr} {f n:Nat} {r:Int × Int × Bool} {met:List (Int × Int)} {R:Int × Nat × Int} (h:goL ps f r met n=some R) (hr:r.2.2=true) (hm:(r.1,r.2.1)∈met):R=(19,0,0):=by
 cases f with
 | zero=>rw [goL] at h;cases h
 | succ f =>
  rw [goL,xO hr,xO hm] at h;injection h with h;exact h.symm
theorem Qnt {ps:List Tr} {f n M D:Nat} {met:List (Int × Int)} {R:Int × Nat × Int} (h:goL ps f ((M:Int),(D:Int),true) met n=some R) (hm:((M:Int),(D:Int)) ∉ met) (h9:(Qc0 (Qg9 ps M D)).kind≠9):R=(0,n+Qa6 (Qjh ps M D),(Qc0 (Qg9 ps M D)).kind):=by
 cases f with
 | zero=>rw [goL] at h;cases h
 | succ f =>
  rw [goL,xO rfl,xN hm,xN (by simp only [Int.toNat_natCast];exact h9)] at h;injection h with h;simp only [Int.toNat_natCast] at h;exact h.symm
theorem Qnu {ps:List Tr} {f n M D:Nat} {met:List (Int × Int)} {R:Int × Nat × Int} (h:goL ps f ((M:Int),(D:Int),true) met n=some R) (hm:((M:Int),(D:Int)) ∉ met) (h9:(Qc0 (Qg9 ps M D)).kind=9) :
  ∃ f',f=f'+1∧goL ps f' (Qaw ps M (Qc0 (Qg9 ps M D)).text) (met ++ [((M:Int),(D:Int))]) (n+Qa6 (Qjh ps M D))=some R:=by
 cases f with
 | zero=>rw [goL] at h;cases h
 | succ f =>
  refine ⟨f,rfl,?_⟩;rw [goL,xO rfl,xN hm,xO (by simp only [Int.toNat_natCast];exact h9)] at h;simp only [Int.toNat_natCast] at h;exact h
theorem Qnv {ps:List Tr} (hz:∀ t∈ps,Qal t≤1000) (hg:Qb4 ps=true) {M D:Nat} {t k:Tr} (ht:ps[M]? = some t) (hk:t.kids[D]? = some k) (h3:k.kind=3) :
  ∃ a,k.kids = [a]∧Qjh ps M D=a∧Qc0 (Qg9 ps M D)=Qav a∧Qar a=true∧(5≤a.kind∧a.kind≤9)∧Qal a≤1000:=by
 have hok:=Qss hz hg ht hk;obtain ⟨a,h1,h2,h4⟩:=Qk6 hok.2.1 h3;have hd:=Qiz ht hk;have haj:k.kids[0]? = some a:=by rw [h1];rfl
 refine ⟨a,h1,by unfold Qjh;rw [hd,haj,Option.getD_some],by unfold Qc0;rw [hd,haj,Option.getD_some],h4,h2,?_⟩;have:=Qdn haj
 have:=hok.2.2
 omega
end Go.Proofs.YtfjpemdejoejbaaGreat
namespace Go.Proofs.YtfjpemdejoejbaaGreat
open Go.RowKit Go.Shelf
theorem Zbh {w:World} {a b:Tr} {va vb:TV} {S S':Nat→Prop} {g:Nat} (ha:TrAt S w a va) (hb:TrAt S' w b vb) (hS:∀ k,S k→k<w.heap.size) (hS':∀ k,S' k→k<w.heap.size)
  (hh:w.heap[g]? = some (.cells #[.int .i64 va.kind,.string va.text,.slice va.la va.ll va.lc,.slice va.ka va.kl va.kc,.int .i64 vb.kind,.string vb.text,.slice vb.la vb.ll vb.lc,.slice vb.ka vb.kl vb.kc] 25 (0,0))) :
  TrAt (fun b=>0≤b∧b<w.heap.size) w (Qap [a,b]) ⟨0,⟨#[]⟩,none,0,0,some ⟨g,0,none⟩,2,2⟩:=by
 refine Zdy (ps:=[a,b]) (us:=[va,vb]) (xA _) rfl (fun _=>⟨g,_,rfl,xZ _,hh,fun i v hv=>?_⟩) (fun i k u hk hu=>?_)
 ·match i,hv with
  | 0,hv =>
   injection hv with hv;subst hv;exact ⟨rfl,rfl,rfl,rfl⟩
  | 1,hv =>
   injection hv with hv;subst hv;exact ⟨rfl,rfl,rfl,rfl⟩
  | i+2,hv=>simp at hv
 ·match i,hk,hu with
  | 0,hk,hu =>
   injection hk with hk;injection hu with hu;subst hk hu;exact TrAt.move (fun k h=>⟨xZ _,hS k h⟩) (fun _ _ _=>rfl) _ _ ha
  | 1,hk,hu =>
   injection hk with hk;injection hu with hu;subst hk hu;exact TrAt.move (fun k h=>⟨xZ _,hS' k h⟩) (fun _ _ _=>rfl) _ _ hb
  | i+2,hk,_=>simp at hk
end Go.Proofs.YtfjpemdejoejbaaGreat

/- Part 39 -/
import Derived.Test.YtfjpemdejoejbaaGreatSg38
import Derived.Test.YtfjpemdejoejbaaGreatSg34
import Derived.Test.YtfjpemdejoejbaaGreatSg35
import Derived.Lib.AppendZerosOnto
import Derived.Lib.SliceRun
import Derived.Deep.DeepCutAuto
set_option maxRecDepth 100000
set_option maxHeartbeats 4000000
namespace Go.Proofs.YtfjpemdejoejbaaGreat
open Go.RowKit Go.Shelf
theorem Zef:(Tryz.prog.info? 3).map (fun i=>(i.zero,i.size,i.bytes))=some (some (.int .i64 0),1,8):=by kernel_rfl
section
variable {P:Program} {w:World} {ops:Array Oper} {rest:List Oper} {o:Oper} {a:Act} {Q:Exit→Act→World→Prop}
theorem Qfe (hgd:o.guard=none) (s x:Operand) (t:TypeId)
  (ho:o.op = .call { callee:=.builtin .append,args:=#[s,x],argTypes:=#[t,t] }) (e:TypeId) (i:TypeInfo) (ht:P.underlying t=some (.slice e)) (hi:P.info? e=some i)
  {ad:Addr} {n cap:Nat} (hs:a.eval s = .slice (some ad) n cap) (hn:n≤cap) {A:Option Addr} {m c:Nat} (hm:m=0) (hx:a.eval x = .slice A m c) (h:wpList P ops Q rest (a.put o.dst (.slice (some ad) n cap)) w):wpList P ops Q (o :: rest) a w:=by
 subst hm;refine wpList_plain hgd fun K hK=>?_
 have hr:(Builtin.append_ #[t,t] o.type #[.slice (some ad) n cap,.slice A 0 c]).run P w = .ok (.slice (some ad) n cap) w:=by
  cases A <;> simp [Builtin.append_,run_underlying ht,sizeOf,typeInfo,hi,Builtin.lenOf,Builtin.firstCells,loadCells,loadCellsFrom,hn,storeCells]
 unfold Oper.wp execOp;simp only [ho,resolve,invoke,builtin,Sem.run_bind,Sem.run_pure,Result.andThen_ok,List.map_toArray,List.map_cons,List.map_nil,hs,hx,hr];exact hK _ _ h
end
def IntRow (w:World) (B:Nat) (v:Value) (p:List Int):Prop:=w.ownsRow B 3 1 v p.length (p.map (Value.int .i64))
theorem IntRow.cells {w:World} {B n c:Nat} {A:Option Addr} {p:List Int} (h:IntRow w B (.slice A n c) p) (hp:0<p.length):∃ g,A=some ⟨g,0,none⟩∧∀ (j:Nat) (u:Value),(p.map (Value.int .i64))[j]? = some u→w.cell? ⟨g,0+j,none⟩=some u:=by
 rcases h.2 with ⟨_,h0⟩|⟨g,cap,cur,hv,hb,hh,hnc,hm,hsz,htk⟩
 ·omega
 ·injection hv with e1 e2 e3;refine ⟨g,e1,fun j u hu=>?_⟩;rw [Nat.zero_add,Lib.cell_of_heap hh];have hj:=(xP.1 hu).1;rw [List.length_map] at hj;rw [←htk,List.getElem?_take_of_lt (by omega)] at hu;rw [←Array.getElem?_toList];exact hu
theorem Zeg (p:List Int):∀ u∈p.map (Value.int .i64),u.oneCell'=true:=by
 intro u hu;obtain ⟨x,_,rfl⟩:=List.mem_map.1 hu;rfl
end Go.Proofs.YtfjpemdejoejbaaGreat
namespace Go.Proofs.YtfjpemdejoejbaaGreat
open Go.RowKit
theorem Walks.keep {w w':World} (hb:Below w.heap.size w w') {pb po:Nat} {v:TV} {l:List Int} {b o:Nat} (h:Walks w pb po v l b o):Walks w' pb po v l b o:=by
 induction h with
 | here pb po v=>exact .here pb po v
 | kid ha hc hr ih=>exact .kid ha (hc.keep hb) ih
theorem Walks.snoc {w:World} {pb po:Nat} {v:TV} {l:List Int} {b o:Nat} (h:Walks w pb po v l b o):CellsAt w pb po v→∀ {y:TV} {g ko:Nat} {z:Int} {u:TV},CellsAt w b o y→y.ka=some ⟨g,ko,none⟩→CellsAt w g (ko+z.toNat*4) u→Walks w pb po v (l ++ [z]) g (ko+z.toNat*4):=by
 induction h with
 | here pb po v =>
  intro hc y g ko z u hy hka hu;obtain rfl:=hc.inj hy;exact .kid hka hu (.here _ _ _)
 | kid ha hc hr ih =>
  intro _ y g ko z u hy hka hu;exact .kid ha hc (ih hc hy hka hu)
theorem Qoa:∀ (zs:List Int) (t:Tr) (v:TV) (lo hi pb po b o:Nat) (w:World) (cs:Array Value) (T:TypeId),(Qaz t zs).isSome=true→OwnT w t v lo hi→Walks w pb po v zs b o→w.heap[pb]? = some (.cells cs T (0,0))→po+4≤cs.size→∃ cs' T',w.heap[b]? = some (.cells cs' T' (0,0))∧o+4≤cs'.size
 | [],t,v,lo,hi,pb,po,b,o,w,cs,T,hf,hO,hW,hb,hs=>by
  cases hW
  exact ⟨cs,T,hb,hs⟩
 | z :: r,.mk k x ls ks,v,lo,hi,pb,po,b,o,w,cs,T,hf,hO,hW,hb,hs=>by
  unfold Qaz at hf
  cases hkb:Qjn (.mk k x ls ks) z
  ·rw [hkb] at hf;cases hf
  rw [hkb] at hf;simp only [if_true] at hf;obtain ⟨z0,z1,z2⟩:=Qd7 hkb
  change ks[z.toNat]? = some _ at z2
  have hne:ks≠[]:=fun e=>by rw [e] at z2;simp at z2
  unfold OwnT at hO;obtain ⟨h1,h2,h3,h4,h5,g,hg1,hg2,hl,hk⟩:=hO;obtain ⟨ha,cs',us,hc,hu,hrow,ho⟩:=hk hne;obtain ⟨u0,hu0⟩:∃ u,us[z.toNat]? = some u:=⟨_,xF (by rw [hu];exact (xP.1 z2).1)⟩;obtain ⟨m,n,q1,q2,q3,q4,q5⟩:=ho.get ks us (g+1) hi z.toNat _ u0 z2 hu0;have hcu:=RowIs.at hc hrow hu0;cases hW with
  | kid ha' hc' hr' =>
   rename_i g' ko' u'
   rw [ha] at ha';injection ha' with e;injection e with e1 e2 _;subst e1 e2;rw [Nat.zero_add] at hc' hr';obtain rfl:=hcu.inj hc'
   have hsz:z.toNat*4+4≤cs'.size:=by
    obtain ⟨_,_,_,r3⟩:=hrow z.toNat _ hu0;have:=(Array.getElem?_eq_some_iff.1 r3).1
    omega
   exact Qoa r (Qep (.mk k x ls ks) z) u0 m n g (z.toNat*4) b o w cs' _ hf q4 hr' hc hsz
def Zg0 (S:Nat→Prop) (t0:Tr) (zs:List Int) (pb po:Nat) (y0:TV) (w:World) (p i:Value) (wr:World):Prop :=
 ∃ (j b o:Nat) (y:TV) (cur:Tr),p = .pointer (some ⟨b,o,none⟩)∧i = .int .i64 j∧j≤zs.length∧Qaz t0 zs=Qaz cur (zs.drop j)∧CellsAt wr b o y∧TrAt S wr cur y∧Walks wr pb po y0 (zs.take j) b o∧Below w.heap.size w wr
def Za6 (t:Tr) (zs:List Int) (pb po:Nat) (y0:TV) (w:World) (e:Ending) (w':World):Prop :=
 Below w.heap.size w w'∧match Qaz t zs with
  | none=>e = .returned (.pointer none)
  | some _=>∃ b o y,e = .returned (.pointer (some ⟨b,o,none⟩))∧CellsAt w' b o y∧Walks w' pb po y0 zs b o
theorem Qpn {l:List Int} {j:Nat} {x:Int} (h:l[j]? = some x):l.take (j+1)=l.take j ++ [x]:=by
 obtain ⟨hj,he⟩:=xP.1 h;rw [List.take_succ_eq_append_getElem hj,he]
theorem Qw9 (S:Nat→Prop) (t:Tr) (y0:TV) (pb po:Nat) (A:Option Addr) (c:Nat) (zs:List Int) (w:World) (hc:CellsAt w pb po y0) (h:TrAt S w t y0) (hA:IntsAt w A zs) (hz:zs.length≤maxLen) :
  Calls Tryz.prog 79 #[.pointer (some ⟨pb,po,none⟩),.slice A zs.length c] w (Za6 t zs pb po y0 w):=by
 have HC:=hQ hc;have HT:=hQ h;have HA:=hQ hA;have hmax:zs.length≤9223372036854775807:=by unfold maxLen at hz;omega
 clear hc h hA hz
 go_enter Tryz.func79,Tryz.ntmps79
 go_wp2
 go_loopw [0,9] (fun p i wr=>Zg0 S t zs pb po y0 w p i wr) (fun _ i _=>zs.length-(intOf i).toNat)
 case atStart=>exact ⟨0,pb,po,y0,t,rfl,rfl,xZ _,rfl,HC.out,HT.out,.here _ _ _,xC _ _⟩
 case round =>
  obtain ⟨j,b,o,y,cur,rfl,rfl,hj,hf,hcy,hty,hwk,hb⟩:=hrel;have HF:=hQ hf;have HTY:=hQ hty;have HCY:=hQ hcy;have HWK:=hQ hwk;have HBR:=hQ hb;clear hf hty hwk hb
  by_cases hlt:j<zs.length
  ·obtain ⟨z,hz⟩:∃ z,zs[j]? = some z:=⟨_,xF hlt⟩;obtain ⟨ab,ao,rfl,_,hac⟩:=(HA.out.keep HBR.out).at hlt;have a0:=hac j z hz;have HD:=hQ (Qhd hz);have HTK:=hQ (Qpn hz);obtain ⟨c0,c1,c2,c3⟩:=hcy;have hbl:b<wr.heap.size:=xK wr _ c0;clear hac hz
   cases hkb:Qjn cur z
   ·have HR:=hQ (show Qaz t zs=none from by rw [HF.out,HD.out,Qaz,hkb];rfl);go_wp2_with (go_at_call 113;refine (Qgb S cur y z _ HTY.out).mono ?_;rw [hkb];rintro e w2 ⟨rfl,hb2⟩;have HB2:=hQ (HBR.out.trans (hb2.mono HBR.out.size));clear hb2)
    go_ret
    refine ⟨HB2.out,?_⟩;rw [HR.out];rfl
   ·obtain ⟨z0,z1,z2⟩:=Qd7 hkb;have HR:=hQ (show Qaz t zs=Qaz (Qep cur z) (zs.drop (j+1)) from by rw [HF.out,HD.out,Qaz,hkb];rfl);obtain ⟨m,rfl⟩:∃ m:Nat,z=(m:Int):=⟨z.toNat,by omega⟩;rw [Int.toNat_natCast] at z2;have hm:m<cur.kids.length:=by omega
    go_wp2_with (go_at_call 113;refine (Qgb S cur y m _ HTY.out).mono ?_;rw [hkb];rintro e w2 ⟨rfl,hb2⟩;have HB2:=hQ (HBR.out.trans (hb2.mono HBR.out.size));have HC2:=hQ (HCY.out.keep hb2);have HT2:=hQ (HTY.out.keep hb2);have HW2:=hQ (HWK.out.keep hb2);have HC0:=hQ ((HC.out.keep HBR.out).keep hb2);clear hb2 c0 c1 c2 c3 hbl a0;obtain ⟨c0,c1,c2,c3⟩:=HC2.out;have hbl:b<w2.heap.size:=xK w2 _ c0;have hkl:=HT2.out.kl.1;rw [hkl] at c3;obtain ⟨kb,ko,hka⟩:∃ b off,y.ka=some ⟨b,off,none⟩:=HT2.out.addr.resolve_left (by omega);rw [hka] at c3)
    go_roundw
    case measure=>simp [intOf];omega
    case rel =>
     obtain ⟨u,d0,d1,d2,d3,hu⟩:=HT2.out.at hka z2;have hw3:=HW2.out.snoc HC0.out (z:=(m:Int)) (u:=u) HC2.out hka (by rw [Int.toNat_natCast];exact ⟨d0,d1,d2,d3⟩);rw [Int.toNat_natCast,←HTK.out] at hw3;exact ⟨j+1,kb,ko+m*4,u,Qep cur m,rfl,by go_num,by omega,HR.out,⟨d0,d1,d2,d3⟩,hu,hw3,HB2.out⟩
  ·have HR:=hQ (show Qaz t zs=some cur from by rw [HF.out,List.drop_eq_nil_of_le (by omega)];rfl);have HTK:=hQ (show zs.take j=zs from List.take_of_length_le (by omega))
   go_wp2
   go_ret
   refine ⟨HBR.out,?_⟩;rw [HR.out];have hw3:=HWK.out;rw [HTK.out] at hw3;exact ⟨b,o,y,rfl,HCY.out,hw3⟩
end Go.Proofs.YtfjpemdejoejbaaGreat
namespace Go.Proofs.YtfjpemdejoejbaaGreat
open Go.RowKit Go.Shelf
def noTV:TV:=⟨0,⟨#[]⟩,none,0,0,none,0,0⟩
theorem Qq9 (w:World) (a b c:Obj):(((w.alloc a).alloc b).alloc c).heap[w.heap.size]? = some a∧(((w.alloc a).alloc b).alloc c).heap[w.heap.size+1]? = some b∧(((w.alloc a).alloc b).alloc c).heap[w.heap.size+1+1]? = some c:=by
 have h2:=xH ((w.alloc a).alloc b) c;have h1:=xH (w.alloc a) b;have h0:=xH w a;rw [xI] at h1;rw [xI,xI] at h2;have b1:=(xC (w.alloc a).heap.size (w.alloc a)).alloc (xA _) b;have b2:=(xC ((w.alloc a).alloc b).heap.size ((w.alloc a).alloc b)).alloc (xA _) c
 refine ⟨?_,?_,h2⟩
 ·exact ((b2.block w.heap.size (by simp;omega)).trans (b1.block w.heap.size (by simp))).trans h0
 ·exact (b2.block (w.heap.size+1) (by simp)).trans h1
def Zg1 (t:Tr) (zs:List Int) (s:Tr) (w:World) (e:Ending) (w':World):Prop :=
 Below w.heap.size w w'∧∃ u:TV,e = .returned (.tuple #[.agg #[.int .i64 u.kind,.string u.text,.slice u.la u.ll u.lc,.slice u.ka u.kl u.kc],.bool (Qaz t zs).isSome])∧∃ S:Nat→Prop,(∀ k,S k→k<w'.heap.size∧w.heap.size≤k)∧TrAt S w' ((Qpu zs t s).getD Qlq) u
theorem Qtg (S S':Nat→Prop) (t s:Tr) (v z:TV) (A:Option Addr) (c:Nat) (zs:List Int) (w:World) (h:TrAt S w t v) (h':TrAt S' w s z) (hA:IntsAt w A zs) (hz:zs.length≤maxLen) (hf:Qmn t=true) (hf':Qmn s=true) :
  Calls Tryz.prog 50 #[.agg #[.int .i64 v.kind,.string v.text,.slice v.la v.ll v.lc,.slice v.ka v.kl v.kc],.slice A zs.length c,.agg #[.int .i64 z.kind,.string z.text,.slice z.la z.ll z.lc,.slice z.ka z.kl z.kc]] w (Zg1 t zs s w):=by
 have hb0:=(((xC w.heap.size w).alloc (xA _) (trO v)).alloc (by rw [xI];omega) (trO z)).alloc (by rw [xI,xI];omega) (.cells #[.int .i64 0,.string ⟨#[]⟩,.slice none 0 0,.slice none 0 0] 25);have HB0:=hQ hb0;have HT:=hQ (h.keep hb0);have HH:=hQ h';have HA:=hQ hA;obtain ⟨x0,x1,x2⟩:=Qq9 w (trO v) (trO z) (.cells #[.int .i64 0,.string ⟨#[]⟩,.slice none 0 0,.slice none 0 0] 25);have HX:=hQ x0;have HU:=hQ x1;have HR:=hQ x2;have k0:=Qab x0 0 _ rfl;have k1:=Qab x0 1 _ rfl;have k2:=Qab x0 2 _ rfl;have k3:=Qab x0 3 _ rfl;have hbl:=Qaa x0;have rf:=xL x0;have HZ:=hQ hz;have HF:=hQ hf;have HF':=hQ hf';have HSZ:=hQ (show (((w.alloc (trO v)).alloc (trO z)).alloc (.cells #[.int .i64 0,.string ⟨#[]⟩,.slice none 0 0,.slice none 0 0] 25)).heap.size=w.heap.size+3 from by simp);clear h h' hA hz hf hf' hb0 x0 x1 x2
 go_enter Tryz.func50,Tryz.ntmps50
 go_wp2_with fail
 go_at_call 80;refine (Za7 (SizeOf.sizeOf t) S t v _ (xA _) HT.out HF.out).mono ?_;rintro e w1 ⟨y,rfl,hO,hb1⟩;have HB1:=hQ (HB0.out.trans (hb1.mono HB0.out.size));have HBA:=hQ hb1;have HO1:=hQ hO;have hx1:=(hb1.block w.heap.size (Qaa HX.out)).trans HX.out;have HU1:=hQ ((hb1.block (w.heap.size+1) (Qaa HU.out)).trans HU.out);have HR1:=hQ ((hb1.block (w.heap.size+1+1) (Qaa HR.out)).trans HR.out);have HS1:=hQ hb1.size;clear hb1 hO k0 k1 k2 k3 hbl rf;have HX1:=hQ hx1;have k0:=Qab hx1 0 _ rfl;have k1:=Qab hx1 1 _ rfl;have k2:=Qab hx1 2 _ rfl;have k3:=Qab hx1 3 _ rfl;have hbl:=Qaa hx1;have rf:=xL hx1;clear hx1;go_wp2_with fail
 -- the world in which the clone stands in t
 have HX2:=hQ (Qfw y HX1.out);have HU2:=hQ ((Qa1 (w:=w1) (b:=w.heap.size) y (k:=w.heap.size+1) (by omega)).trans HU1.out);have HR2:=hQ ((Qa1 (w:=w1) (b:=w.heap.size) y (k:=w.heap.size+1+1) (by omega)).trans HR1.out);have HB2:=hQ (HB1.out.trans (Qbk w1 w.heap.size y));have HO2:=hQ (OwnT.move (w':=Qeg w1 w.heap.size y) _ _ _ _ (fun b h1 _ _=>Qa1 y (by rw [HSZ.out] at h1;omega)) HO1.out);have hc2:CellsAt (Qeg w1 w.heap.size y) w.heap.size 0 y:=⟨Qab HX2.out 0 _ rfl,Qab HX2.out 1 _ rfl,Qab HX2.out 2 _ rfl,Qab HX2.out 3 _ rfl⟩;have HC2:=hQ hc2;have HI2:=hQ (HA.out.keep HB2.out);have HS2:=hQ (show (Qeg w1 w.heap.size y).heap.size=w1.heap.size from Qb3 _ _ _);clear hc2 k0 k1 k2 k3 hbl rf;go_at_call 79;refine (Qw9 _ t y w.heap.size 0 A c zs _ HC2.out (OwnT.tr _ t y _ _ (xA _) HO2.out) HI2.out HZ.out).mono ?_;cases hfd:Qaz t zs with
 | none =>
  have HFD:=hQ hfd;rintro e w3 ⟨hb3,he⟩;rw [hfd] at he;subst he;have HB3:=hQ (HB2.out.trans (hb3.mono HB2.out.size));have hr3:=(hb3.block (w.heap.size+1+1) (Qaa HR2.out)).trans HR2.out;have r0:=Qab hr3 0 _ rfl;have r1:=Qab hr3 1 _ rfl;have r2:=Qab hr3 2 _ rfl;have r3:=Qab hr3 3 _ rfl;have rbl:=Qaa hr3;have rrf:=xL hr3;clear hb3 hr3 hfd
  go_wp2
  refine bodyPost_ret (v:=.tuple #[.agg #[.int .i64 0,.string ⟨#[]⟩,.slice none 0 0,.slice none 0 0],.bool false]) (by simp [results,Tryz.results50,go_sem, *]) rfl ?_;refine ⟨HB3.out.trans ((Qbk w3 (w.heap.size+1+1) noTV).mono (by omega)),noTV,by rw [HFD.out];rfl,fun _=>False,fun _ h=>h.elim,?_⟩
  have hn:Qpu zs t s=none:=by
   have h1:=Qpm s zs t;rw [HFD.out] at h1;cases hp:Qpu zs t s with
   | none=>rfl
   | some _=>rw [hp] at h1;cases h1
  rw [hn];exact Qmk _ _
 | some u =>
  have HFD:=hQ hfd;rintro e w3 ⟨hb3,he⟩;rw [hfd] at he;obtain ⟨b,o,x,rfl,hcx,hwk⟩:=he;have HB3:=hQ (HB2.out.trans (hb3.mono HB2.out.size));have HS3:=hQ hb3.size;have HBB:=hQ hb3;have hu3:=(hb3.block (w.heap.size+1) (Qaa HU2.out)).trans HU2.out;have HX3:=hQ ((hb3.block w.heap.size (Qaa HX2.out)).trans HX2.out);have HR3:=hQ ((hb3.block (w.heap.size+1+1) (Qaa HR2.out)).trans HR2.out);have HO3:=hQ (OwnT.move (w':=w3) _ _ _ _ (fun b _ _ h3=>hb3.block b h3) HO2.out);have HWK:=hQ hwk;have HCX:=hQ hcx;have u0:=Qab hu3 0 _ rfl;have u1:=Qab hu3 1 _ rfl;have u2:=Qab hu3 2 _ rfl;have u3:=Qab hu3 3 _ rfl;have ubl:=Qaa hu3;have HH3:=hQ (HH.out.keep HB3.out);clear hb3 hu3 hfd hcx hwk;go_wp2_with fail
  go_at_call 80;refine (Qqi (SizeOf.sizeOf s) S' s z _ (xA _) HH3.out HF'.out).mono ?_;rintro e w4 ⟨y',rfl,hty,hb4⟩;have HB4:=hQ (HB3.out.trans (hb4.mono HB3.out.size));have HX4:=hQ ((hb4.block w.heap.size (Qaa HX3.out)).trans HX3.out);have HR4:=hQ ((hb4.block (w.heap.size+1+1) (Qaa HR3.out)).trans HR3.out);have HO4:=hQ (OwnT.move (w':=w4) _ _ _ _ (fun b _ _ h3=>hb4.block b h3) HO3.out);have HWK4:=hQ (HWK.out.keep hb4);have HTY:=hQ hty;have HS4:=hQ hb4.size;obtain ⟨cs,T,hbb,hob⟩:=Qoa zs t y _ _ w.heap.size 0 b o w4 _ _ (by rw [HFD.out];rfl) HO4.out HWK4.out HX4.out (xA 4);have HBLK:=hQ hbb;obtain ⟨c0,c1,c2,c3⟩:=HCX.out.keep hb4;have bbl:=Qaa hbb;have brf:=xL hbb;clear hb4 hty u0 u1 u2 u3 ubl hbb
  dsimp only
  go_step
  go_step
  go_step
  go_step
  go_step
  go_step
  obtain ⟨t',hp⟩:∃ t',Qpu zs t s=some t':=by
   have h1:=Qpm s zs t;rw [HFD.out] at h1;exact Option.isSome_iff_exists.1 h1
  have hsz4:(((w.alloc (trO v)).alloc (trO z)).alloc (.cells #[.int .i64 0,.string ⟨#[]⟩,.slice none 0 0,.slice none 0 0] 25)).heap.size=w.heap.size+3:=HSZ.out;have hle1:w1.heap.size≤w3.heap.size:=by have:=HS3.out;rw [HS2.out] at this;exact this
  obtain ⟨hbo,v',hcv,htv⟩:=Za5 s y' _ zs t t' y _ _ w.heap.size 0 b o w4 _ _ hp HO4.out ⟨Qab HX4.out 0 _ rfl,Qab HX4.out 1 _ rfl,Qab HX4.out 2 _ rfl,Qab HX4.out 3 _ rfl⟩ HWK4.out HX4.out (xA 4) (by rw [hsz4];omega) HTY.out (fun k hk=>⟨by omega,by have:=Qaa HX3.out;omega⟩);rw [hsz4] at hbo;obtain ⟨W5,hW5⟩:∃ W,W=Qq8 w4 b o y':=⟨_,rfl⟩;have hsz5:W5.heap.size=w4.heap.size:=by rw [hW5];exact Qiq _ _ _ _
  have hr5:W5.heap[w.heap.size+1+1]? = w4.heap[w.heap.size+1+1]?:=by rw [hW5];exact Qcp (k:=w.heap.size+1+1) o y' (by omega)
  have HB5:=hQ (show Below w.heap.size w W5 from by rw [hW5];exact HB4.out.trans (Qn9 w4 o y' (by omega)));rw [←hW5] at hcv htv;have hraw:(((w4.setCell ⟨b,o,none⟩ (.int .i64 y'.kind)).setCell ⟨b,o+1,none⟩ (.string y'.text)).setCell ⟨b,o+2,none⟩ (.slice y'.la y'.ll y'.lc)).setCell ⟨b,o+3,none⟩ (.slice y'.ka y'.kl y'.kc)=W5:=hW5.symm;rw [hraw];clear hraw;have HR5:=hQ (hr5.trans HR4.out);have HLT:=hQ (show w1.heap.size≤W5.heap.size∧w4.heap.size=W5.heap.size from ⟨by rw [hsz5];have:=HS4.out;omega,hsz5.symm⟩);have HTV:=hQ htv;have HP:=hQ hp;have HBO:=hQ hbo;have hr:=HR5.out;obtain ⟨k0,k1,k2,k3⟩:=hcv;have tbl:w.heap.size<W5.heap.size:=xK W5 _ k0;have r0:=Qab hr 0 _ rfl;have r1:=Qab hr 1 _ rfl;have r2:=Qab hr 2 _ rfl;have r3:=Qab hr 3 _ rfl;have rbl:=Qaa hr;have rrf:=xL hr;clear hW5 hsz5 hr5 htv hp hbo hr hle1 hsz4 c0 c1 c2 c3 bbl brf hob
  go_wp2
  refine bodyPost_ret (v:=.tuple #[.agg #[.int .i64 v'.kind,.string v'.text,.slice v'.la v'.ll v'.lc,.slice v'.ka v'.kl v'.kc],.bool true]) (by simp [results,Tryz.results50,go_sem, *]) rfl ?_;refine ⟨HB5.out.trans ((Qbk W5 (w.heap.size+1+1) v').mono (by omega)),v',by rw [HFD.out];rfl,fun k=>w.heap.size≤k∧k<W5.heap.size,fun k hk=>⟨xE hk.2 (Qbk W5 (w.heap.size+1+1) v').size,hk.1⟩,?_⟩;rw [HP.out]
  refine TrAt.move (w':=Qeg W5 (w.heap.size+1+1) v') (fun k hk=>?_) (fun k hk _=>Qa1 _ ?_) _ _ HTV.out
  ·have h1:=HLT.out;have h0:=HSZ.out;have h2:=HS1.out;have h3:=HS3.out;rw [HS2.out] at h3
   rcases hk with hk | hk <;> constructor <;> omega
  ·have h0:=HSZ.out;have h1:=HS3.out;rw [HS2.out] at h1;have h2:=HS1.out
   rcases hk with hk | hk <;> omega
mutual
def Qh8:Tr→List Int→List (List Int)
 | .mk _ _ _ ks,p=>p :: Qgy ks 0 p
def Qgy:List Tr→Nat→List Int→List (List Int)
 | [],_,_=>[]
 | t :: r,i,p=>Qh8 t (p ++ [(i:Int)]) ++ Qgy r (i+1) p
end
theorem Qra (t:Tr) (p:List Int):Qh8 t p=p :: Qgy t.kids 0 p:=by cases t;rw [Qh8];rfl
theorem Qxa (w:World) (a b:Obj):((w.alloc a).alloc b).heap[w.heap.size]? = some a∧((w.alloc a).alloc b).heap[w.heap.size+1]? = some b :=
 ⟨(Below.heap_alloc _ _ _ (by rw [xI];omega)).trans (xH w a),by rw [←xI w a];exact xH _ _⟩
theorem Qfz {w w':World} {g o:Nat} {x:Value} (hb:Below w.heap.size w w') (hg:g<w.heap.size) (h:w.cell? ⟨g,o,none⟩=some x):w'.cell? ⟨g,o,none⟩=some x:=(xJ (w:=w) (a:=⟨g,o,none⟩) (hb.block g hg)).trans h
def Qxb (t:Tr) (zs:List Int) (k:Nat):Bool:=decide (((Qaz t (zs.take k)).getD Qlq).kind=20) && decide (zs[k]? = some 1)
def Qm5 (t:Tr) (zs:List Int):Nat→List (List Int)
 | 0=>[]
 | k+1=>(if Qxb t zs k=true then [zs.take k] else []) ++ Qm5 t zs k
def Qxc (n:Nat):List (List Int):=(List.range n).map fun (i:Nat)=>[(i:Int)]
theorem Qxd (n:Nat):Qxc (n+1)=Qxc n ++ [[(n:Int)]]:=by
 unfold Qxc;rw [List.range_succ,List.map_append];rfl
def Qgp (t:Tr) (zs:List Int):List (List Int):=if (Qaz t zs).isSome=true∧zs[0]? = some ((t.kids.length:Int)-1) then Qm5 t zs zs.length ++ Qxc (t.kids.length-2) else []
end Go.Proofs.YtfjpemdejoejbaaGreat
namespace Go.Proofs.YtfjpemdejoejbaaGreat
open Go.RowKit
theorem Za9 {t:Tr} (hz:Qak t≤1000) (h:Qan t=true) (hk:t.kind=5∨t.kind=6∨t.kind=7∨t.kind=9∨t.kind=12):t.kids = []:=by
 have h1:=(Qfr hz h).1
 have h2:(t.kids.length:Int)=0:=by
  rcases hk with h | h | h | h | h
  all_goals
   rw [h] at h1;unfold Qau Qbd at h1;simp only [show ¬ ((5:Int)=1) from by decide,show ¬ ((5:Int)=2) from by decide,show ¬ ((5:Int)=3) from by decide,show ¬ ((5:Int)=4) from by decide,Int.reduceEq,if_true,if_false] at h1
   split at h1
   ·assumption
   ·omega
 exact List.eq_nil_of_length_eq_zero (by omega)
theorem Zej {t k:Tr} {j:Nat} (hz:Qak t≤1000) (h:Qan t=true) (h4:4≤t.kind) (h9:t.kind≤9) (hk:t.kids[j]? = some k):4≤k.kind∧k.kind≤9:=by
 by_cases hn:t.kind=5∨t.kind=6∨t.kind=7∨t.kind=9∨t.kind=12
 ·rw [Za9 hz h hn] at hk;simp at hk
 ·have h1:=Qup hz h hk;unfold Qgq at h1;rw [xN (by omega),xN (by omega),xO (by omega)] at h1;unfold Qfg at h1;simp at h1
  omega
theorem Qlj:(r:List Int)→(u v:Tr)→(p:List Int)→(st:List Bnd)→Qan u=true→Qak u≤1000→4≤u.kind→u.kind≤9→Qaz u r=some v→Qbt u p r st=st
 | [],_,_,_,_,_,_,_,_,_=>by rw [Qbt]
 | i :: r,u,v,p,st,hs,hz,h4,h9,hf=>by
  unfold Qaz at hf
  split at hf
  ·rename_i hk
   obtain ⟨_,_,h3⟩:=Qd7 hk;have hsz:=Qbe h3;obtain ⟨k4,k9⟩:=Zej hz hs h4 h9 h3;rw [Qbt];have he:Qct u.kind u.text u.kids p i = []:=by unfold Qct;rw [xN (by omega),xN (by omega)]
   rw [he,List.append_nil];exact Qlj r _ v _ st ((Qfr hz hs).2 _ (yA h3)) (by omega) k4 k9 hf
  ·cases hf
theorem Qlk:(r:List Int)→(t u:Tr)→(p:List Int)→(st:List Bnd)→(i:Int)→Qaz t r=some u→Qbt t p (r ++ [i]) st=Qbt t p r st ++ Qct u.kind u.text u.kids (p ++ r) i
 | [],t,u,p,st,i,h=>by
  rw [Qaz] at h;injection h with h;subst h;rw [xU,Qbt,Qbt,Qbt,List.append_nil]
 | j :: r,t,u,p,st,i,h=>by
  unfold Qaz at h
  split at h
  ·rw [xV,Qbt,Qbt,Qlk r _ u _ _ i h,xT p [j] r];rfl
  ·cases h
theorem Zba {t u:Tr} {zs:List Int} (h:Qaz t zs=some u) (k:Nat):∃ v,Qaz t (zs.take k)=some v:=by
 cases hv:Qaz t (zs.take k) with
 | some v=>exact ⟨v,rfl⟩
 | none =>
  have key:∀ (a b:List Int) (t:Tr),Qaz t a=none→Qaz t (a ++ b)=none:=by
   intro a
   induction a with
   | nil=>intro b t h;rw [Qaz] at h;cases h
   | cons i r ih =>
    intro b t h;unfold Qaz at h;rw [xV,Qaz]
    split at h
    ·rename_i hk
     rw [xO hk];exact ih b _ h
    ·rename_i hk
     rw [xN hk]
  have:=key (zs.take k) (zs.drop k) t hv
  rw [List.take_append_drop,h] at this;cases this
theorem Qur (ks:List Tr):(m:Nat)→(Qej ks m).reverse.map (·.2)=Qxc m
 | 0=>by rw [Qej];rfl
 | m+1=>by
  rw [Qej,List.reverse_cons,List.map_append,Qur ks m,Qxd];rfl
theorem Qus {t w:Tr} {zs:List Int} (hf:Qfx t=true) (hz:Qak t≤1000) (h0:zs[0]? = some ((t.kids.length:Int)-1)) (hw:Qaz t zs=some w):(k:Nat)→0<k→k≤zs.length→(Qbt t [] (zs.take k) []).reverse.map (·.2)=Qm5 t zs k ++ Qxc (t.kids.length-2)
 | 0,h,_=>absurd h (Nat.lt_irrefl 0)
 | k+1,_,hk=>by
  obtain ⟨h2,hs⟩:=Qfs hf;obtain ⟨i,hi⟩:∃ i,zs[k]? = some i:=⟨_,xF (by omega)⟩;obtain ⟨u,hu⟩:=Zba hw k;have ht:zs.take (k+1)=zs.take k ++ [i]:=by rw [List.take_add_one,hi];rfl
  rw [ht,Qlk _ t u [] [] i hu,xU,List.reverse_append,List.map_append,Qm5]
  have hla:Qxb t zs k=(decide (u.kind=20) && decide (i=1)):=by
   unfold Qxb;rw [hu,hi,Option.getD_some];simp
  rcases Nat.eq_zero_or_pos k with rfl | hkp
  ·rw [List.take_zero,Qaz] at hu;injection hu with hu;subst hu;rw [hi] at h0;injection h0 with h0;subst h0;rw [hla,h2];have he:Qct 2 t.text t.kids [] ((t.kids.length:Int)-1)=Qek t.kids:=by unfold Qct;rw [xN (by omega),xO ⟨rfl,rfl⟩]
   rw [List.take_zero,he,Qbt];unfold Qek;rw [Qur];simp [Qm5]
  ·have hne:zs.take k≠[]:=fun e=>by
    have:=congrArg List.length e
    rw [List.length_take,xG] at this;omega
   have hk2:=(Qm1 _ t u hs hz (by omega) hu).2.2.2 hne;rw [Qus hf hz h0 hw k hkp (by omega),hla];unfold Qct
   by_cases hc:u.kind=20∧i=1
   ·rw [xO hc,xS hc.1,xS hc.2];rfl
   ·rw [xN hc,xN (fun h=>hk2 h.1)]
    have:(decide (u.kind=20) && decide (i=1))=false:=by
     rw [Bool.and_eq_false_iff,decide_eq_false_iff_not,decide_eq_false_iff_not];exact Decidable.not_and_iff_or_not.1 hc
    rw [this];rfl
theorem Qut {t:Tr} (hf:Qfx t=true) (hz:Qak t≤1000) (zs:List Int):Qgp t zs=(Qca t zs).reverse.map (·.2):=by
 obtain ⟨h2,hs⟩:=Qfs hf;cases hw:Qaz t zs with
 | none =>
  have hA:Qca t zs = []:=by
   unfold Qca
   rw [xN (fun h=>by
    obtain ⟨u,hu⟩:=(Qh1 zs t 0).1 h.2;rw [hw] at hu;cases hu)]
  rw [hA];unfold Qgp;rw [hw,xN (by simp)];rfl
 | some w =>
  have hn:=(Qh1 zs t 0).2 ⟨w,hw⟩
  have hA:Qca t zs=Qbt t [] zs []:=by
   unfold Qca;rw [xO ⟨hf,hn⟩]
  rw [hA];unfold Qgp;rw [hw]
  by_cases h0:zs[0]? = some ((t.kids.length:Int)-1)
  ·rw [xO ⟨rfl,h0⟩];have:=Qus hf hz h0 hw zs.length (xP.1 h0).1 (xA _)
   rw [List.take_length] at this;exact this.symm
  ·rw [xN (fun h=>h0 h.2)];cases zs with
   | nil=>rw [Qbt];rfl
   | cons z r =>
    have hzn:z≠(t.kids.length:Int)-1:=fun e=>h0 (by rw [e];rfl)
    unfold Qaz at hw
    split at hw
    ·rename_i hk
     obtain ⟨hk0,hkl,h3⟩:=Qd7 hk;have hsz:=Qbe h3;have h1:=Qup hz hs h3;unfold Qgq at h1;rw [xN (by omega),xO h2,xN (by omega)] at h1
     have hkk:4≤(Qep t z).kind∧(Qep t z).kind≤9:=by
      split at h1
      ·unfold Qfg at h1;simp at h1
       omega
      ·simp at h1
       omega
     rw [Qbt];have he:Qct t.kind t.text t.kids [] z = []:=by unfold Qct;rw [xN (by omega),xN (fun h=>hzn h.2)]
     rw [he,List.append_nil,Qlj r _ w _ [] ((Qfr hz hs).2 _ (yA h3)) (by omega) hkk.1 hkk.2 hw];rfl
    ·cases hw
def Qll (t:Tr) (q:List Int):ByteArray:=((Qaz t q).getD Qlq).text
theorem Qth {t:Tr} (hf:Qfx t=true) (hz:Qak t≤1000) (zs:List Int):∀ b∈Qca t zs,Qll t b.2=b.1:=by
 intro b hb;obtain ⟨h2,hs⟩:=Qfs hf;unfold Qca at hb
 split at hb
 ·rename_i hc
  obtain ⟨w,hw⟩:=(Qh1 zs t 0).1 hc.2;obtain ⟨k,k1,k2,_⟩:=Qkf hs hz h2 zs t w [] [] (by rw [Qaz]) hw (fun b hb=>by simp at hb) b hb;unfold Qll;rw [k1];exact k2
 ·simp at hb
theorem Quu {α β:Type} (f:α→β) (p:α→Bool) (q:β→Bool):(l:List α)→(∀ b∈l,p b=q (f b))→(l.find? p).map f=(l.map f).find? q
 | [],_=>rfl
 | a :: r,h=>by
  rw [List.find?_cons,List.map_cons,List.find?_cons,←h a (List.mem_cons_self ..)]
  cases p a
  ·exact Quu f p q r fun b hb=>h b (List.mem_cons_of_mem _ hb)
  ·rfl
theorem Qti {t:Tr} (hf:Qfx t=true) (hz:Qak t≤1000) (zs:List Int) (x:ByteArray):Qdo (Qca t zs) x=(Qgp t zs).find? fun q=>decide (Qll t q=x):=by
 rw [Qut hf hz];unfold Qdo;exact Quu _ _ _ _ fun b hb=>by rw [Qth hf hz zs b (List.mem_reverse.1 hb)]
def Qtj (t:Tr) (p:List Int):Option Vrb:=match Qaz t p with
 | some u=>if u.kind=12 then some (p,Qdo (Qca t p) u.text) else none
 | none=>none
mutual
theorem Quv:(u:Tr)→(p:List Int)→(st:List Bnd)→(g:List Int→Option Vrb)→Qan u=true→Qak u≤1000→(∀ r v,Qaz u r=some v→g (p ++ r)=if v.kind=12 then some (p ++ r,Qdo (Qbt u p r st) v.text) else none)→Qi8 u p st=(Qh8 u p).filterMap g
 | .mk k x l ks,p,st,g,hs,hz,hg=>by
  have h0:=hg [] (.mk k x l ks) (by rw [Qaz]);rw [List.append_nil,Qbt] at h0;rw [Qi8,Qh8,List.filterMap_cons,h0]
  by_cases hk:k=12
  ·have hn:ks = []:=Za9 hz hs (by show k=5∨k=6∨k=7∨k=9∨k=12;omega);subst hn;rw [xO hk,xO (show (Tr.mk k x l []).kind=12 from hk),Qgy];rfl
  ·rw [xN hk,xN (show ¬ (Tr.mk k x l ks).kind=12 from hk)];exact Qrb (.mk k x l ks) ks 0 p st g hs hz rfl hg
theorem Qrb:(u:Tr)→(l:List Tr)→(i:Nat)→(p:List Int)→(st:List Bnd)→(g:List Int→Option Vrb)→Qan u=true→Qak u≤1000→u.kids.drop i=l→(∀ r v,Qaz u r=some v→g (p ++ r)=if v.kind=12 then some (p ++ r,Qdo (Qbt u p r st) v.text) else none)→Qg3 u.kind u.text u.kids l i p st=(Qgy l i p).filterMap g
 | _,[],_,_,_,_,_,_,_,_=>by rw [Qg3,Qgy];rfl
 | u,a :: s,i,p,st,g,hs,hz,hd,hg=>by
  have ha:u.kids[i]? = some a:=by
   have:=congrArg (fun l=>l[0]?) hd
   simpa [List.getElem?_drop] using this
  obtain ⟨k1,k2⟩:=Qtf ha;have hsz:=Qbe ha;rw [Qg3,Qgy,List.filterMap_append]
  rw [Quv a (p ++ [(i:Int)]) (st ++ Qct u.kind u.text u.kids p i) g ((Qfr hz hs).2 a (yA ha)) (by omega) fun r v hv=>by
   have h:=hg ((i:Int) :: r) v (by rw [Qaz,xO k1,k2];exact hv);rw [Qbt,k2] at h;rw [xT];exact h]
  rw [Qrb u s (i+1) p st g hs hz (by rw [←List.drop_drop,hd];rfl) hg]
end
theorem Quw {t:Tr} (hf:Qfx t=true) (hz:Qak t≤1000):Qfo t=(Qh8 t []).filterMap (Qtj t):=by
 unfold Qfo;rw [xO hf];refine Quv t [] [] (Qtj t) (Qfs hf).2 hz fun r v hv=>?_
 rw [xU];unfold Qtj Qca;rw [hv,xO ⟨hf,(Qh1 r t 0).2 ⟨v,hv⟩⟩]
end Go.Proofs.YtfjpemdejoejbaaGreat
namespace Go.Proofs.YtfjpemdejoejbaaGreat
open Go.RowKit Go.Shelf
def Qd8:List Int→List Int→Bool
 | [],[]=>true
 | x :: r,y :: s=>(x==y) && Qd8 r s
 | _,_=>false
theorem Qh4:(p:List Int)→Qd8 p p=true
 | []=>rfl
 | x :: r=>by rw [Qd8,Qh4 r];simp
theorem Qk3:(p q:List Int)→(Qd8 p q=true ↔ p=q)
 | [],[]=>by simp [Qd8]
 | [],_ :: _=>by simp [Qd8]
 | _ :: _,[]=>by simp [Qd8]
 | x :: r,y :: s=>by rw [Qd8,Bool.and_eq_true,Qk3 r s];simp
def SPAt (p q:List Int) (w:World) (i:Value) (wr:World):Prop:=∃ j:Nat,i = .int .i64 j∧j≤p.length∧Qd8 p q=Qd8 (p.drop j) (q.drop j)∧∃ n:Nat,wr=w.drewN n
theorem Qhk (A C:Option Addr) (a c:Nat) (p q:List Int) (w:World) (hA:IntsAt w A p) (hC:IntsAt w C q) (hp:p.length≤maxLen) (hq:q.length≤maxLen) :
  Calls Tryz.prog 23 #[.slice A p.length a,.slice C q.length c] w fun e w'=>e = .returned (.bool (Qd8 p q))∧∃ n:Nat,w'=w.drewN n:=by
 have HA:=hQ hA;have HC:=hQ hC;have hp6:p.length≤9223372036854775807:=by unfold maxLen at hp;omega
 have hq6:q.length≤9223372036854775807:=by unfold maxLen at hq;omega
 have mixedL:Tryz.prog.follows Departure.mixedOrders=true:=mixed;clear hA hC hp hq
 by_cases hl:p.length=q.length
 ·have HL:=hQ hl;rw [show Value.slice C q.length c = .slice C p.length c from by rw [hl]];clear hl hq6
  go_enter Tryz.func23,Tryz.ntmps23
  go_wp2
  go_loopw [5] (fun i wr=>SPAt p q w i wr) (fun i _=>p.length-(intOf i).toNat)
  case atStart=>exact ⟨0,rfl,xZ _,rfl,0,rfl⟩
  case round =>
   obtain ⟨j,rfl,hj,hf,n,rfl⟩:=hrel;have HF:=hQ hf;clear hf
   by_cases hlt:j<p.length
   ·obtain ⟨x,hx⟩:∃ x,p[j]? = some x:=⟨_,xF hlt⟩;obtain ⟨y,hy⟩:∃ y,q[j]? = some y:=⟨_,xF (by rw [←HL.out];exact hlt)⟩;obtain ⟨ab,ao,rfl,abl,hac⟩:=HA.out.at hlt;obtain ⟨cb,co,rfl,cbl,hcc⟩:=HC.out.at (show j<q.length by rw [←HL.out];exact hlt);have a0:=hac j x hx;have c0:=hcc j y hy;have HD:=hQ (show Qd8 (p.drop j) (q.drop j)=((x==y) && Qd8 (p.drop (j+1)) (q.drop (j+1))) from by rw [Qhd hx,Qhd hy,Qd8]);have hja:(j:Int)<(p.length:Int):=by omega
    have hj0:(0:Int)≤(j:Int):=by omega
    clear hac hcc hx hy
    by_cases hxy:x=y
    ·subst hxy;have HR:=hQ (show Qd8 p q=Qd8 (p.drop (j+1)) (q.drop (j+1)) from by rw [HF.out,HD.out];simp);go_wp2_with fail
     go_region_o
     all_goals
      go_wp2
      go_roundw
      case measure=>simp [intOf];omega
      case rel=>exact ⟨j+1,by go_num,by omega,HR.out,n+1,rfl⟩
    ·have e1:(x==y)=false:=beq_eq_false_iff_ne.2 hxy;have e2:(x != y)=true:=by rw [bne_iff_ne];exact hxy
     have HR:=hQ (show Qd8 p q=false from by rw [HF.out,HD.out,e1];rfl);go_wp2_with fail
     go_region_o
     all_goals
      go_wp2
      go_ret
      exact ⟨Qah HR.out.symm,n+1,rfl⟩
   ·have HR:=hQ (show Qd8 p q=true from by rw [HF.out,List.drop_eq_nil_of_le (by omega),List.drop_eq_nil_of_le (by have:=HL.out;omega)];rfl)
    go_wp2
    go_ret
    exact ⟨Qah HR.out.symm,n,rfl⟩
 ·have HR:=hQ (show Qd8 p q=false from by
   cases h:Qd8 p q with
   | false=>rfl
   | true=>exact absurd (congrArg List.length ((Qk3 p q).1 h)) hl)
  have e1:((p.length:Int)==(q.length:Int))=false:=beq_eq_false_iff_ne.2 (by omega);have e2:((p.length:Int) != (q.length:Int))=true:=by rw [bne_iff_ne];omega
  have e3:(p.length==q.length)=false:=beq_eq_false_iff_ne.2 hl;have e4:(p.length != q.length)=true:=by rw [bne_iff_ne];exact hl
  go_enter Tryz.func23,Tryz.ntmps23
  go_wp2
  go_ret
  exact ⟨Qah HR.out.symm,0,rfl⟩
theorem Qbu (w:World) (n:Nat):Below w.heap.size w (w.drewN n):=⟨rfl,rfl,rfl,xA _,fun _ _=>rfl⟩
theorem Qlm (A C:Option Addr) (a c:Nat) (p q:List Int) (w:World) (hA:IntsAt w A p) (hC:IntsAt w C q) (hp:p.length≤maxLen) (hq:q.length≤maxLen) :
  Calls Tryz.prog 23 #[.slice A p.length a,.slice C q.length c] w fun e w'=>e = .returned (.bool (Qd8 p q))∧Below w.heap.size w w' :=
 (Qhk A C a c p q w hA hC hp hq).mono fun _ _ ⟨he,n,hn⟩=>⟨he,by rw [hn];exact Qbu w n⟩
end Go.Proofs.YtfjpemdejoejbaaGreat

/- Part 44: Trees whose memory is their own, and what a store into such a tree leaves; plain. The contracts of slices.Grow at nil and of slices.Concat of two slices of ints. The contract of the closure in tree.Paths. The contract of the reference's SamePath, and that of samePaths at equal lists. The contract of awake of the law of scope. -/
import Derived.Test.YtjidpkcjpgdafaaGreatSc1
import Derived.Test.YtjidpkcjpgdafaaGreatSc19
import Derived.Test.YtjidpkcjpgdafaaGreatSc36
import Derived.Test.YtjidpkcjpgdafaaGreatSc17
import Derived.Lib.AppendZerosOnto
import Derived.Lib.Walk
import Derived.Lib.SliceRun
import Derived.Deep.RegionHeld3
import Derived.Laws.EntriesVeiled
import Derived.Deep.QuietTactic
set_option maxRecDepth 100000
set_option maxHeartbeats 4000000
namespace Go.Proofs.YtjidpkcjpgdafaaGreat
open Go.RowKit
theorem RowIs.at {w:World} {g:Nat} {cs:Array Value} {us:List TV} (hc:w.heap[g]? = some (.cells cs 29 (0,0))) (h:RowIs cs us) {i:Nat} {u:TV} (hu:us[i]? = some u):CellsAt w g (i * 4) u:=by
 obtain ⟨q0,q1,q2,q3⟩:=h i u hu
 exact ⟨Qab hc _ _ q0,Qab hc _ _ q1,Qab hc _ _ q2,Qab hc _ _ q3⟩
def setA (w:World) (b o:Nat) (y:TV):World:=(((w.setCell ⟨b,o,none⟩ (.int .i64 y.kind)).setCell ⟨b,o + 1,none⟩ (.string y.text)).setCell ⟨b,o + 2,none⟩ (.slice y.la y.ll y.lc)).setCell ⟨b,o + 3,none⟩ (.slice y.ka y.kl y.kc)
def setO (cs:Array Value) (o:Nat) (y:TV):Array Value:=(((cs.setIfInBounds o (.int .i64 y.kind)).setIfInBounds (o + 1) (.string y.text)).setIfInBounds (o + 2) (.slice y.la y.ll y.lc)).setIfInBounds (o + 3) (.slice y.ka y.kl y.kc)
theorem setA_heap {w:World} {b:Nat} {cs:Array Value} {T:TypeId} (o:Nat) (y:TV) (h:w.heap[b]? = some (.cells cs T (0,0))):(setA w b o y).heap[b]? = some (.cells (setO cs o y) T (0,0)):=Qa2 (Qa2 (Qa2 (Qa2 h rfl) rfl) rfl) rfl
theorem Qed {w:World} {b k:Nat} (o:Nat) (y:TV) (h:k ≠ b):(setA w b o y).heap[k]? = w.heap[k]?:=(((Qav h).trans (Qav h)).trans (Qav h)).trans (Qav h)
theorem setA_size (w:World) (b o:Nat) (y:TV):(setA w b o y).heap.size = w.heap.size:=by simp [setA,World.setCell]
theorem setA_below (w:World) {B b:Nat} (o:Nat) (y:TV) (h:B ≤ b):Below B w (setA w b o y):=((((xC B w).setCell (p:=⟨b,o,none⟩) h _).setCell (p:=⟨b,o + 1,none⟩) h _).setCell (p:=⟨b,o + 2,none⟩) h _).setCell (p:=⟨b,o + 3,none⟩) h _
theorem setO_size (cs:Array Value) (o:Nat) (y:TV):(setO cs o y).size = cs.size:=by simp [setO]
theorem setO_other (cs:Array Value) (o:Nat) (y:TV) (q:Nat) (h:q < o ∨ o + 4 ≤ q):(setO cs o y)[q]? = cs[q]?:=by
 unfold setO
 rw [Array.getElem?_setIfInBounds_ne (by omega),Array.getElem?_setIfInBounds_ne (by omega),Array.getElem?_setIfInBounds_ne (by omega),Array.getElem?_setIfInBounds_ne (by omega)]
end Go.Proofs.YtjidpkcjpgdafaaGreat
namespace Go.Proofs.YtjidpkcjpgdafaaGreat
open Go.RowKit Go.Shelf
theorem int_info:(Tryz.prog.info? 3).map (fun i=>(i.zero,i.size,i.bytes)) = some (some (.int .i64 0),1,8):=by kernel_rfl
section
variable {P:Program} {w:World} {ops:Array Oper} {rest:List Oper} {o:Oper} {a:Act} {Q:Exit → Act → World → Prop}
theorem Qe6 (hgd:o.guard = none) (s x:Operand) (t:TypeId)
  (ho:o.op = .call { callee:=.builtin .append,args:=#[s,x],argTypes:=#[t,t] }) (e:TypeId) (i:TypeInfo) (ht:P.underlying t = some (.slice e)) (hi:P.info? e = some i)
  {ad:Addr} {n cap:Nat} (hs:a.eval s = .slice (some ad) n cap) (hn:n ≤ cap) {A:Option Addr} {m c:Nat} (hm:m = 0) (hx:a.eval x = .slice A m c) (h:wpList P ops Q rest (a.put o.dst (.slice (some ad) n cap)) w):wpList P ops Q (o :: rest) a w:=by
 subst hm
 refine wpList_plain hgd fun K hK=>?_
 have hr:(Builtin.append_ #[t,t] o.type #[.slice (some ad) n cap,.slice A 0 c]).run P w = .ok (.slice (some ad) n cap) w:=by
  cases A <;> simp [Builtin.append_,run_underlying ht,sizeOf,typeInfo,hi,Builtin.lenOf,Builtin.firstCells,loadCells,loadCellsFrom,hn,storeCells]
 unfold Oper.wp execOp
 simp only [ho,resolve,invoke,builtin,Sem.run_bind,Sem.run_pure,Result.andThen_ok,List.map_toArray,List.map_cons,List.map_nil,hs,hx,hr]
 exact hK _ _ h
end
def IntRow (w:World) (B:Nat) (v:Value) (p:List Int):Prop:=w.ownsRow B 3 1 v p.length (p.map (Value.int .i64))
theorem IntRow.cells {w:World} {B n c:Nat} {A:Option Addr} {p:List Int} (h:IntRow w B (.slice A n c) p) (hp:0 < p.length):∃ g,A = some ⟨g,0,none⟩ ∧ ∀ (j:Nat) (u:Value),(p.map (Value.int .i64))[j]? = some u → w.cell? ⟨g,0 + j,none⟩ = some u:=by
 rcases h.2 with ⟨_,h0⟩ | ⟨g,cap,cur,hv,hb,hh,hnc,hm,hsz,htk⟩
 ·omega
 ·injection hv with e1 e2 e3
  refine ⟨g,e1,fun j u hu=>?_⟩
  rw [Nat.zero_add,Lib.cell_of_heap hh]
  have hj:=(List.getElem?_eq_some_iff.1 hu).1
  rw [List.length_map] at hj
  rw [← htk,List.getElem?_take_of_lt (by omega)] at hu
  rw [← Array.getElem?_toList]
  exact hu
theorem int_ones (p:List Int):∀ u ∈ p.map (Value.int .i64),u.oneCell' = true:=by
 intro u hu
 obtain ⟨x,_,rfl⟩:=List.mem_map.1 hu
 rfl
theorem sizeL_get:(l:List Tr) → (j:Nat) → (k:Tr) → l[j]? = some k → Qar (l.take j) + Qak k ≤ Qar l
 | [],_,_,h=>by simp at h
 | a :: r,0,k,h=>by
  simp at h
  subst h
  rw [List.take_zero,Qar,Qar]
  omega
 | a :: r,j + 1,k,h=>by
  have:=sizeL_get r j k (by simpa using h)
  rw [List.take_succ_cons,Qar,Qar]
  omega
theorem size_pre {t k:Tr} {j:Nat} (h:t.kids[j]? = some k):Qar (t.kids.take j) + Qak k ≤ Qar t.kids:=sizeL_get _ _ _ h
theorem size_kid1 {t k:Tr} {j:Nat} (h:t.kids[j]? = some k):1 + Qak k ≤ Qak t:=by
 have h1:=size_pre h
 rw [Qa6 t]
 omega
def Qen:List Int → List Int → Bool
 | [],[]=>true
 | x :: r,y :: s=>(x == y) && Qen r s
 | _,_=>false
theorem intsEq_iff:(p q:List Int) → (Qen p q = true ↔ p = q)
 | [],[]=>by simp [Qen]
 | [],_ :: _=>by simp [Qen]
 | _ :: _,[]=>by simp [Qen]
 | x :: r,y :: s=>by rw [Qen,Bool.and_eq_true,intsEq_iff r s];simp
def SPAt (p q:List Int) (w:World) (i:Value) (wr:World):Prop:=∃ j:Nat,i = .int .i64 j ∧ j ≤ p.length ∧ Qen p q = Qen (p.drop j) (q.drop j) ∧ ∃ n:Nat,wr = w.drewN n
theorem samepath_q (A C:Option Addr) (a c:Nat) (p q:List Int) (w:World) (hA:IntsAt w A p) (hC:IntsAt w C q) (hp:p.length ≤ maxLen) (hq:q.length ≤ maxLen) :
  Calls Tryz.prog 31 #[.slice A p.length a,.slice C q.length c] w fun e w'=>e = .returned (.bool (Qen p q)) ∧ ∃ n:Nat,w' = w.drewN n:=by
 have HA:=hQ hA
 have HC:=hQ hC
 have hp6:p.length ≤ 9223372036854775807:=by unfold maxLen at hp;omega
 have hq6:q.length ≤ 9223372036854775807:=by unfold maxLen at hq;omega
 have mixedL:Tryz.prog.follows Departure.mixedOrders = true:=mixed
 clear hA hC hp hq
 by_cases hl:p.length = q.length
 ·have HL:=hQ hl
  rw [show Value.slice C q.length c = .slice C p.length c from by rw [hl]]
  clear hl hq6
  go_enter Tryz.func31,Tryz.ntmps31
  go_wp2
  go_loopw [5] (fun i wr=>SPAt p q w i wr) (fun i _=>p.length - (intOf i).toNat)
  case atStart=>exact ⟨0,rfl,Nat.zero_le _,rfl,0,rfl⟩
  case round =>
   obtain ⟨j,rfl,hj,hf,n,rfl⟩:=hrel
   have HF:=hQ hf
   clear hf
   by_cases hlt:j < p.length
   ·obtain ⟨x,hx⟩:∃ x,p[j]? = some x:=⟨_,xF hlt⟩
    obtain ⟨y,hy⟩:∃ y,q[j]? = some y:=⟨_,xF (by rw [← HL.out];exact hlt)⟩
    obtain ⟨ab,ao,rfl,abl,hac⟩:=HA.out.at hlt
    obtain ⟨cb,co,rfl,cbl,hcc⟩:=HC.out.at (show j < q.length by rw [← HL.out];exact hlt)
    have a0:=hac j x hx
    have c0:=hcc j y hy
    have HD:=hQ (show Qen (p.drop j) (q.drop j) = ((x == y) && Qen (p.drop (j + 1)) (q.drop (j + 1))) from by rw [drop_cons hx,drop_cons hy,Qen])
    have hja:(j:Int) < (p.length:Int):=by omega
    have hj0:(0:Int) ≤ (j:Int):=by omega
    clear hac hcc hx hy
    by_cases hxy:x = y
    ·subst hxy
     have HR:=hQ (show Qen p q = Qen (p.drop (j + 1)) (q.drop (j + 1)) from by rw [HF.out,HD.out];simp)
     go_wp2_with fail
     go_region_o
     all_goals
      go_wp2
      go_roundw
      case measure=>simp [intOf];omega
      case rel=>exact ⟨j + 1,by go_num,by omega,HR.out,n + 1,rfl⟩
    ·have e1:(x == y) = false:=beq_eq_false_iff_ne.2 hxy
     have e2:(x != y) = true:=by rw [bne_iff_ne];exact hxy
     have HR:=hQ (show Qen p q = false from by rw [HF.out,HD.out,e1];rfl)
     go_wp2_with fail
     go_region_o
     all_goals
      go_wp2
      go_ret
      exact ⟨Qah HR.out.symm,n + 1,rfl⟩
   ·have HR:=hQ (show Qen p q = true from by rw [HF.out,List.drop_eq_nil_of_le (by omega),List.drop_eq_nil_of_le (by have:=HL.out;omega)];rfl)
    go_wp2
    go_ret
    exact ⟨Qah HR.out.symm,n,rfl⟩
 ·have HR:=hQ (show Qen p q = false from by
   cases h:Qen p q with
   | false=>rfl
   | true=>exact absurd (congrArg List.length ((intsEq_iff p q).1 h)) hl)
  have e1:((p.length:Int) == (q.length:Int)) = false:=beq_eq_false_iff_ne.2 (by omega)
  have e2:((p.length:Int) != (q.length:Int)) = true:=by rw [bne_iff_ne];omega
  have e3:(p.length == q.length) = false:=beq_eq_false_iff_ne.2 hl
  have e4:(p.length != q.length) = true:=by rw [bne_iff_ne];exact hl
  go_enter Tryz.func31,Tryz.ntmps31
  go_wp2
  go_ret
  exact ⟨Qah HR.out.symm,0,rfl⟩
theorem tbelow_drewN (w:World) (n:Nat):Below w.heap.size w (w.drewN n):=⟨rfl,rfl,rfl,xA _,fun _ _=>rfl⟩
theorem samepath_any (A C:Option Addr) (a c:Nat) (p q:List Int) (w:World) (hA:IntsAt w A p) (hC:IntsAt w C q) (hp:p.length ≤ maxLen) (hq:q.length ≤ maxLen) :
  Calls Tryz.prog 31 #[.slice A p.length a,.slice C q.length c] w fun e w'=>e = .returned (.bool (Qen p q)) ∧ Below w.heap.size w w' :=
 (samepath_q A C a c p q w hA hC hp hq).mono fun _ _ ⟨he,n,hn⟩=>⟨he,by rw [hn];exact tbelow_drewN w n⟩
def scoSA:ByteArray:=⟨#[109,111,100,117,108,101,32,77,32,100,101,102,32,102,40,120,58,32,73,110,116,41,58,32,73,110,116,32,61,32,108,101,116,32,121,32,61,32,120,32,105,110,32,108,101,116,32,120,32,61,32,121,32,105,110,32,120]⟩
def scoTA:Tr:=((parseM 200 scoSA).getD (noTr,0,0)).1
def scoFA:Tr:=kidAt scoTA 0
theorem sco_p:parseM 200 scoSA = some (scoTA,0,0):=by kernel_rfl
theorem sco_k:scoTA.kids = [scoFA]:=by kernel_rfl
theorem sco_s:Qcm scoFA = true:=by kernel_rfl
theorem sco_w:Qdq scoFA = true:=by kernel_rfl
theorem sco_z:decide (Qak scoFA ≤ 10000) = true:=by kernel_rfl
theorem sco_v:varsR scoFA = [([2,0],some [0]),([2,1,0],some [2]),([2,1,1],some [2,1])]:=by kernel_rfl
theorem sco_b:Qev (Qd9 scoFA [2,0]) ⟨#[121]⟩ = none:=by kernel_rfl
theorem sco_n:visR scoFA [2,1,1] = [⟨#[120]⟩,⟨#[121]⟩]:=by kernel_rfl
theorem sco_all:∃ t f:Tr,parseM 200 ⟨#[109,111,100,117,108,101,32,77,32,100,101,102,32,102,40,120,58,32,73,110,116,41,58,32,73,110,116,32,61,32,108,101,116,32,121,32,61,32,120,32,105,110,32,108,101,116,32,120,32,61,32,121,32,105,110,32,120]⟩ = some (t,0,0) ∧ t.kids = [f] ∧ Qcm f = true ∧ Qdq f = true ∧ Qak f ≤ 10000 ∧
  varsR f = [([2,0],some [0]),([2,1,0],some [2]),([2,1,1],some [2,1])] ∧ Qev (Qd9 f [2,0]) ⟨#[121]⟩ = none ∧ (visR f [2,1,1]).length = 2 :=
 ⟨scoTA,scoFA,sco_p,sco_k,sco_s,sco_w,of_decide_eq_true sco_z,sco_v,sco_b,by rw [sco_n];rfl⟩
theorem ints_new (w:World) (p:List Int):IntsAt (w.alloc (.cells (p.map (Value.int .i64)).toArray 3)) (some ⟨w.heap.size,0,none⟩) p:=fun _ =>
 ⟨w.heap.size,0,rfl,by rw [xI];omega,fun i x hx=>by
  rw [Nat.zero_add,Lib.cell_of_heap (xH w _),List.getElem?_toArray,List.getElem?_map,hx]
  rfl⟩
theorem VRow.at {w:World} {B lo:Nat} {v:Value} {ws:List (Value × Value × Bool)} {vs:List Vrb} (h:VRow w B v ws) (hv:VarsAt w lo ws vs) {j:Nat} {z:Vrb} (hz:vs[j]? = some z):∃ (g c:Nat) (y:Value × Value × Bool),v = .slice (some ⟨g,0,none⟩) vs.length c ∧ B ≤ g ∧ g < w.heap.size ∧ ws[j]? = some y ∧
  w.cell? ⟨g,j * 3,none⟩ = some y.1 ∧ w.cell? ⟨g,j * 3 + 1,none⟩ = some y.2.1 ∧ w.cell? ⟨g,j * 3 + 2,none⟩ = some (.bool y.2.2) ∧ VarAt w lo y z:=by
 have hj:=(List.getElem?_eq_some_iff.1 hz).1
 obtain ⟨y,hy⟩:∃ y,ws[j]? = some y:=⟨_,xF (by rw [hv.1];exact hj)⟩
 obtain ⟨g,c,hgv,hg,hl⟩:=World.ownsRow.form h (by rw [hv.1];omega)
 subst hgv
 have hcs:=h.cells (g:=g) rfl
 have hc:∀ (k:Nat) (x:Value),(Qgy ws)[k]? = some x → w.cell? ⟨g,k,none⟩ = some x:=fun k x hx=>by
  have h:=hcs k x hx
  rw [Addr.add_lit] at h
  simp only [Nat.zero_add] at h
  exact h
 have hget:∀ (ws:List (Value × Value × Bool)) (j:Nat) (y:Value × Value × Bool),ws[j]? = some y → (Qgy ws)[j * 3]? = some y.1 ∧ (Qgy ws)[j * 3 + 1]? = some y.2.1 ∧ (Qgy ws)[j * 3 + 2]? = some (.bool y.2.2):=by
  intro ws
  induction ws with
  | nil=>intro j y h;simp at h
  | cons a r ih =>
   intro j y h
   match j,h with
   | 0,h =>
    injection h with h
    subst h
    exact ⟨rfl,rfl,rfl⟩
   | j + 1,h =>
    have:=ih j y h
    unfold Qgy at this ⊢
    rw [List.flatMap_cons,show (j + 1) * 3 = j * 3 + 3 from by omega,show j * 3 + 3 + 1 = j * 3 + 1 + 3 from by omega,show j * 3 + 3 + 2 = j * 3 + 2 + 3 from by omega,List.getElem?_append_right (by simp),List.getElem?_append_right (by simp),List.getElem?_append_right (by simp)]
    simpa using this
 obtain ⟨q0,q1,q2⟩:=hget ws j y hy
 exact ⟨g,c,y,by rw [hv.1],hg,hl,hy,hc _ _ q0,hc _ _ q1,hc _ _ q2,hv.2 j y z hy hz⟩
theorem awake_sco (w:World):Calls Tryz.prog 32 #[] w fun e w'=>e = .returned (.bool true) ∧ Below w.heap.size w w':=by
 obtain ⟨a,f,hpa,hk,hs,hw,hz,hv,hbi,hvi⟩:=sco_all
 have HPA:=hQ hpa
 have HK:=hQ hk
 have HS:=hQ hs
 have HW:=hQ hw
 have HZ:=hQ hz
 have HV:=hQ hv
 have HBI:=hQ hbi
 have HVI:=hQ hvi
 have HSA:=hQ (show (⟨#[109,111,100,117,108,101,32,77,32,100,101,102,32,102,40,120,58,32,73,110,116,41,58,32,73,110,116,32,61,32,108,101,116,32,121,32,61,32,120,32,105,110,32,108,101,116,32,120,32,61,32,121,32,105,110,32,120]⟩:ByteArray).size ≤ maxLen from Nat.le_of_ble_eq_true rfl)
 clear hpa hk hs hw hz hv hbi hvi
 go_enter Tryz.func32,Tryz.ntmps32
 go_wp2_with fail
 go_at_call 44
 refine (parse_syn (n:=200) (Nat.le_of_ble_eq_true rfl) _ HSA.out HPA.out).mono ?_
 rintro e w1 ⟨va,rfl,hta,hb1⟩
 have hkl:=hta.kl.1
 rw [HK.out] at hkl
 obtain ⟨ga,oa,hka⟩:=hta.addr.resolve_left (by rw [HK.out];simp)
 obtain ⟨ak,ax,ala,all',alc,aka,akl,akc⟩:=va
 simp only at hkl hka
 subst hkl hka
 obtain ⟨fv,c0,c1,c2,c3,hfv⟩:=hta.at (j:=0) rfl (show a.kids[0]? = some f from by rw [HK.out];rfl)
 simp only [Nat.zero_mul,Nat.add_zero,xD,xG,Nat.zero_add] at c0 c1 c2 c3 ⊢
 have cl:=xK w1 _ c0
 have HB1:=hQ hb1
 have HFV:=hQ hfv
 have HXA:=hQ (xH w1 (trO ⟨ak,ax,ala,all',alc,some ⟨ga,oa,none⟩,1,akc⟩))
 have HBA:=hQ (Qay w1 (trO ⟨ak,ax,ala,all',alc,some ⟨ga,oa,none⟩,1,akc⟩))
 clear hta hb1 hfv
 go_wp2_with fail
 go_at_call 36
 obtain ⟨fk,fx,fla,fll,flc,fka,fkl,fkc⟩:=fv
 refine (variablesR_any _ f ⟨fk,fx,fla,fll,flc,fka,fkl,fkc⟩ _ (HFV.out.keep HBA.out) HS.out HW.out HZ.out).mono ?_
 rintro e w2 ⟨r,ws,rfl,hvr,hva,hb2⟩
 rw [HV.out] at hva
 obtain ⟨g,vc,y0,rfl,hgB,hgl,hy0,p00,p01,p02,hv0⟩:=hvr.at hva (j:=0) rfl
 obtain ⟨g2,vc2,y2,hgg,_,_,hy2,p20,p21,p22,hv2⟩:=hvr.at hva (j:=2) rfl
 injection hgg with hgg1 hgg2 hgg3
 injection hgg1 with hgg1
 injection hgg1 with hgg1
 subst hgg1 hgg3
 have HB2:=hQ hb2
 have HB12:=hQ (HBA.out.trans (hb2.mono HBA.out.size))
 have HX2:=hQ ((hb2.block _ (Qaa HXA.out)).trans HXA.out)
 have HFV2:=hQ (HFV.out.keep HB12.out)
 obtain ⟨b0v,hb0e,hb0r,hb0f⟩:∃ v,y0.2.1 = v ∧ IRow w2 (w1.alloc (trO ⟨ak,ax,ala,all',alc,some ⟨ga,oa,none⟩,1,akc⟩)).heap.size v [0] ∧ y0.2.2 = false:=by
  rcases hv0.2 with ⟨h,_⟩ | ⟨q,h1,h2,h3⟩
  ·cases h
  ·injection h1 with h1
   subst h1
   exact ⟨_,rfl,h2,h3⟩
 obtain ⟨b2v,hb2e,hb2r,hb2f⟩:∃ v,y2.2.1 = v ∧ IRow w2 (w1.alloc (trO ⟨ak,ax,ala,all',alc,some ⟨ga,oa,none⟩,1,akc⟩)).heap.size v [2,1] ∧ y2.2.2 = false:=by
  rcases hv2.2 with ⟨h,_⟩ | ⟨q,h1,h2,h3⟩
  ·cases h
  ·injection h1 with h1
   subst h1
   exact ⟨_,rfl,h2,h3⟩
 obtain ⟨B0,n0,q0,rfl⟩:=hb0r.slice
 obtain ⟨B2,n2,q2,rfl⟩:=hb2r.slice
 obtain ⟨hn0,hi0⟩:=hb0r.ints
 obtain ⟨hn2,hi2⟩:=hb2r.ints
 subst hn0 hn2
 rw [hb0e] at p01
 rw [hb2e] at p21
 rw [hb0f] at p02
 have HI0:=hQ hi0
 have HI2:=hQ hi2
 have HP01:=hQ p01
 have HP02:=hQ p02
 have HP21:=hQ p21
 have HC0:=hQ c0
 have HC1:=hQ c1
 have HC2:=hQ c2
 have HC3:=hQ c3
 have HCL:=hQ cl
 have HGL:=hQ hgl
 have LAY:Hid (∀ W:World,Below w2.heap.size w2 W → W.cell? ⟨w1.heap.size,3,none⟩ = some (.slice (some ⟨ga,oa,none⟩) 1 akc) ∧ W.cell? ⟨ga,oa,none⟩ = some (.int .i64 fk) ∧ W.cell? ⟨ga,oa + 1,none⟩ = some (.string fx) ∧ W.cell? ⟨ga,oa + 2,none⟩ = some (.slice fla fll flc) ∧ W.cell? ⟨ga,oa + 3,none⟩ = some (.slice fka fkl fkc) ∧
   W.cell? ⟨g,0,none⟩ = some y0.1 ∧ W.cell? ⟨g,1,none⟩ = some (.slice B0 [(0:Int)].length q0) ∧ W.cell? ⟨g,2,none⟩ = some (.bool false) ∧ W.cell? ⟨g,7,none⟩ = some (.slice B2 [(2:Int),1].length q2) ∧ w1.heap.size < W.heap.size ∧ ga < W.heap.size ∧ g < W.heap.size):=hQ fun W hb=>by
  have hx:=(hb.block _ (Qaa HX2.out)).trans HX2.out
  have hl2:=xE HCL.out HB12.out.size
  have hk:∀ o v,w1.cell? ⟨ga,o,none⟩ = some v → W.cell? ⟨ga,o,none⟩ = some v:=fun o v hv=>(hb.cell (p:=⟨ga,o,none⟩) hl2).trans ((HB12.out.cell (p:=⟨ga,o,none⟩) HCL.out).trans hv)
  have hg:∀ o v,w2.cell? ⟨g,o,none⟩ = some v → W.cell? ⟨g,o,none⟩ = some v:=fun o v hv=>(hb.cell (p:=⟨g,o,none⟩) HGL.out).trans hv
  exact ⟨Qab hx 3 _ rfl,hk _ _ HC0.out,hk _ _ HC1.out,hk _ _ HC2.out,hk _ _ HC3.out,hg _ _ p00,hg _ _ HP01.out,hg _ _ HP02.out,hg _ _ HP21.out,Qaa hx,xE hl2 hb.size,xE HGL.out hb.size⟩
 have HEND:=hQ (HB1.out.trans (HB12.out.mono HB1.out.size))
 clear hva hvr hb2 hv0 hv2 hi0 hi2 p00 p01 p02 p20 p21 p22 c0 c1 c2 c3 cl hb0f hb2f hb0r hb2r hb0e hb2e hy0 hy2 hgB hgl hgg2
 obtain ⟨l1,l2,l3,l4,l5,l6,l7,l8,l9,l10,l11,l12⟩:=LAY.out w2 (xC _ _)
 go_wp2_with fail
 go_at_call 33
 have HB3:=hQ (Qay w2 (.cells #[.int .i64 2,.int .i64 0] 3))
 refine (binder_any _ f ⟨fk,fx,fla,fll,flc,fka,fkl,fkc⟩ (some ⟨w2.heap.size,0,none⟩) 2 [2,0] ⟨#[121]⟩ _ (HFV2.out.keep HB3.out) HS.out HW.out HZ.out (ints_new w2 [2,0]) (by decide) (by decide)).mono ?_
 rw [HBI.out]
 rintro e w4 ⟨hb4,rfl⟩
 have HB4:=hQ (HB3.out.trans (hb4.mono HB3.out.size))
 clear l1 l2 l3 l4 l5 l6 l7 l8 l9 l10 l11 l12 hb4
 obtain ⟨l1,l2,l3,l4,l5,l6,l7,l8,l9,l10,l11,l12⟩:=LAY.out w4 HB4.out
 go_wp2_with fail
 go_at_call 31
 have HB5:=hQ (HB4.out.trans ((Qay w4 (.cells #[.int .i64 0] 3)).mono HB4.out.size))
 refine (samepath_any B0 (some ⟨w4.heap.size,0,none⟩) q0 1 [0] [0] _ (HI0.out.keep HB5.out) (ints_new w4 [0]) (Nat.le_of_ble_eq_true rfl) (Nat.le_of_ble_eq_true rfl)).mono ?_
 rw [show Qen [0] [0] = true from rfl]
 rintro e w6 ⟨rfl,hb6⟩
 have HB6:=hQ (HB5.out.trans (hb6.mono HB5.out.size))
 clear l1 l2 l3 l4 l5 l6 l7 l8 l9 l10 l11 l12 hb6
 obtain ⟨l1,l2,l3,l4,l5,l6,l7,l8,l9,l10,l11,l12⟩:=LAY.out w6 HB6.out
 go_wp2_with fail
 go_at_call 31
 have HB7:=hQ (HB6.out.trans ((Qay w6 (.cells #[.int .i64 2,.int .i64 1] 3)).mono HB6.out.size))
 refine (samepath_any B2 (some ⟨w6.heap.size,0,none⟩) q2 2 [2,1] [2,1] _ (HI2.out.keep HB7.out) (ints_new w6 [2,1]) (Nat.le_of_ble_eq_true rfl) (Nat.le_of_ble_eq_true rfl)).mono ?_
 rw [show Qen [2,1] [2,1] = true from rfl]
 rintro e w8 ⟨rfl,hb8⟩
 have HB8:=hQ (HB7.out.trans (hb8.mono HB7.out.size))
 clear l1 l2 l3 l4 l5 l6 l7 l8 l9 l10 l11 l12 hb8
 obtain ⟨l1,l2,l3,l4,l5,l6,l7,l8,l9,l10,l11,l12⟩:=LAY.out w8 HB8.out
 go_wp2_with fail
 go_at_call 39
 have HB9:=hQ (HB8.out.trans ((Qay w8 (.cells #[.int .i64 2,.int .i64 1,.int .i64 1] 3)).mono HB8.out.size))
 refine (visible_any _ f ⟨fk,fx,fla,fll,flc,fka,fkl,fkc⟩ (some ⟨w8.heap.size,0,none⟩) 3 [2,1,1] _ (HFV2.out.keep HB9.out) HS.out HW.out HZ.out (ints_new w8 [2,1,1]) (by decide) (by decide)).mono ?_
 rintro e w10 ⟨r,rfl,hr,hb10⟩
 have hlen:=HVI.out
 obtain ⟨NA,nc,rfl⟩:=Qdi hr
 rw [hlen]
 have HB10:=hQ (HB9.out.trans (hb10.mono HB9.out.size))
 clear hr hlen hb10
 go_wp2_with fail
 go_ret
 exact ⟨rfl,HEND.out.trans (HB10.out.mono HEND.out.size)⟩
end Go.Proofs.YtjidpkcjpgdafaaGreat

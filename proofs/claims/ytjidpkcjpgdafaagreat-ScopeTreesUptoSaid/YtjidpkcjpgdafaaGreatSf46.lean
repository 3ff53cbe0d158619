/- Part 46 -/
import Derived.Test.YtjidpkcjpgdafaaGreatSf44
set_option maxRecDepth 100000
set_option maxHeartbeats 4000000
namespace Go.Proofs.YtjidpkcjpgdafaaGreat
open Go.RowKit Go.Shelf
mutual
def Qu4:Tr→List (List Int)
 | .mk _ _ _ ks=>[] :: Qw9 ks 0
def Qw9:List Tr→Nat→List (List Int)
 | [],_=>[]
 | t :: r,i=>(Qu4 t).map ((i:Int) :: ·) ++ Qw9 r (i+1)
end
theorem Qu5 (t:Tr):Qu4 t = [] :: Qw9 t.kids 0:=by cases t;rw [Qu4];rfl
mutual
theorem Qn8:(t:Tr)→(p:List Int)→Qes t p=(Qu4 t).map (p ++ ·)
 | .mk _ _ _ ks,p=>by rw [Qes,Qu4,List.map_cons,Ql0 ks 0 p,List.append_nil]
theorem Ql0:(l:List Tr)→(i:Nat)→(p:List Int)→Qcn l i p=(Qw9 l i).map (p ++ ·)
 | [],_,_=>by rw [Qcn,Qw9];rfl
 | t :: r,i,p=>by
  rw [Qcn,Qw9,List.map_append,Ql0 r,Qn8 t,List.map_map]
  congr 1
  apply List.map_congr_left
  intro q _
  simp
end
theorem Qkx (t:Tr):Qes t [] = Qu4 t:=by
 rw [Qn8]
 simp
theorem Qmy (t:Tr):(Qu4 t).length=Qam t:=by rw [←Qkx,Qi1]
theorem Qmz:(l:List Tr)→(i x:Nat)→(q:List Int)→(Qw9 l i)[x]? = some q →
  ∃ (j:Nat) (k:Tr) (r:List Int),l[j]? = some k∧q=((i+j:Nat):Int) :: r∧Qbb (l.take j)≤x∧(Qu4 k)[x-Qbb (l.take j)]? = some r
 | [],i,x,q,h=>by rw [Qw9] at h;simp at h
 | t :: l,i,x,q,h=>by
  rw [Qw9] at h
  by_cases hx:x<Qam t
  ·rw [yB (by rw [List.length_map,Qmy];exact hx),List.getElem?_map] at h
   cases hr:(Qu4 t)[x]? with
   | none=>rw [hr] at h;cases h
   | some r =>
    rw [hr] at h
    injection h with h
    exact ⟨0,t,r,rfl,h.symm,by rw [List.take_zero,Qbb];omega,by rw [List.take_zero,Qbb,Nat.sub_zero];exact hr⟩
  ·rw [xX (by rw [List.length_map,Qmy];omega),List.length_map,Qmy] at h
   obtain ⟨j,k,r,h1,h2,h3,h4⟩:=Qmz l (i+1) (x-Qam t) q h
   refine ⟨j+1,k,r,by simpa using h1,by rw [h2,show i+1+j=i+(j+1) from by omega],?_,?_⟩
   ·rw [List.take_succ_cons,Qbb]
    omega
   ·rw [List.take_succ_cons,Qbb,Nat.sub_add_eq]
    exact h4
theorem Qza (N:Nat):∀ (t:Tr) (n x:Nat) (q:List Int),SizeOf.sizeOf t≤N→(Qu4 t)[x]? = some q→Qjo n t q=((n+x:Nat):Int):=by
 induction N with
 | zero=>intro t n x q h;have:=Qh7 t;omega
 | succ N ih =>
  intro t n x q hN h
  rw [Qu5] at h
  cases x with
  | zero =>
   simp at h
   subst h
   rw [Qjo]
   rfl
  | succ x =>
   rw [List.getElem?_cons_succ] at h
   obtain ⟨j,k,r,h1,h2,h3,h4⟩:=Qmz t.kids 0 x q h
   rw [Nat.zero_add] at h2
   subst h2
   have hj:=(xP.1 h1).1
   have hkb:Qjn t (j:Int)=true:=by
    unfold Qjn
    rw [xS (by omega),xS (by omega)]
    rfl
   have hka:Qfm t (j:Int)=k:=by
    unfold Qfm
    rw [Int.toNat_natCast,h1]
    rfl
   rw [Qjo,hkb]
   simp only [if_true]
   rw [hka,Int.toNat_natCast,ih k _ (x-Qbb (t.kids.take j)) r (by have:=Qd1 h1;omega) h4]
   congr 1
   omega
theorem Qu6 (N:Nat):∀ (t:Tr) (x:Nat) (q:List Int),SizeOf.sizeOf t≤N→(Qu4 t)[x]? = some q→q.length+1≤Qam t:=by
 induction N with
 | zero=>intro t x q h;have:=Qh7 t;omega
 | succ N ih =>
  intro t x q hN h
  rw [Qu5] at h
  cases x with
  | zero =>
   simp at h
   subst h
   rw [Qa5]
   simp
  | succ x =>
   rw [List.getElem?_cons_succ] at h
   obtain ⟨j,k,r,h1,h2,h3,h4⟩:=Qmz t.kids 0 x q h
   have h5:=ih k _ r (by have:=Qd1 h1;omega) h4
   have h6:=Qkw h1
   rw [h2,xD]
   omega
theorem PsAt.at {w:World} {B n c j:Nat} {A:Option Addr} {ps:List (List Int)} {p:List Int} (h:PsAt w B (.slice A n c) ps) (hp:ps[j]? = some p) :
  ∃ g a c',A=some ⟨g,0,none⟩∧g<w.heap.size∧w.cell? ⟨g,j,none⟩=some (.slice a p.length c')∧IntRow w B (.slice a p.length c') p:=by
 obtain ⟨vs,h1,h2⟩:=h
 have hj:=(xP.1 hp).1
 rcases h1.2 with ⟨_,h0⟩|⟨g,cap,cur,hv,hb,hh,hnc,hm,hsz,htk⟩
 ·omega
 ·injection hv with e1 e2 e3
  have hl:=h1.1
  obtain ⟨v,hvj⟩:∃ v,vs[j]? = some v:=⟨_,xF (by omega)⟩
  have hr:=h2 j v p hvj hp
  obtain ⟨a,c',rfl⟩:=Qem hr
  refine ⟨g,a,c',e1,Qab hh,?_,hr⟩
  rw [Lib.cell_of_heap hh]
  rw [←htk,List.getElem?_take_of_lt (by omega)] at hvj
  rw [←Array.getElem?_toList]
  exact hvj
theorem PsAt.shape {w:World} {B:Nat} {L:Value} {ps:List (List Int)} (h:PsAt w B L ps):∃ A c,L = .slice A ps.length c:=by
 obtain ⟨vs,h1,_⟩:=h
 exact Qem h1
def Qde:List Int→List Int→Bool
 | [],[]=>true
 | x :: r,y :: s=>(x==y) && Qde r s
 | _,_=>false
theorem Qgb:(p:List Int)→Qde p p=true
 | []=>rfl
 | x :: r=>by rw [Qde,Qgb r];simp
theorem Ql1:(p q:List Int)→(Qde p q=true ↔ p=q)
 | [],[]=>by simp [Qde]
 | [],_ :: _=>by simp [Qde]
 | _ :: _,[]=>by simp [Qde]
 | x :: r,y :: s=>by rw [Qde,Bool.and_eq_true,Ql1 r s];simp
def SPAt (p q:List Int) (w:World) (i:Value) (wr:World):Prop:=∃ j:Nat,i = .int .i64 j∧j≤p.length∧Qde p q=Qde (p.drop j) (q.drop j)∧∃ n:Nat,wr=w.drewN n
theorem Qi6 (A C:Option Addr) (a c:Nat) (p q:List Int) (w:World) (hA:IntsAt w A p) (hC:IntsAt w C q) (hp:p.length≤maxLen) (hq:q.length≤maxLen) :
  Calls Tryz.prog 31 #[.slice A p.length a,.slice C q.length c] w fun e w'=>e = .returned (.bool (Qde p q))∧∃ n:Nat,w'=w.drewN n:=by
 have HA:=hQ hA
 have HC:=hQ hC
 have hp6:p.length≤9223372036854775807:=by unfold maxLen at hp;omega
 have hq6:q.length≤9223372036854775807:=by unfold maxLen at hq;omega
 have mixedL:Tryz.prog.follows Departure.mixedOrders=true:=mixed
 clear hA hC hp hq
 by_cases hl:p.length=q.length
 ·have HL:=hQ hl
  rw [show Value.slice C q.length c = .slice C p.length c from by rw [hl]]
  clear hl hq6
  go_enter Tryz.func31,Tryz.ntmps31
  go_wp2
  go_loopw [5] (fun i wr=>SPAt p q w i wr) (fun i _=>p.length-(intOf i).toNat)
  case atStart=>exact ⟨0,rfl,xZ _,rfl,0,rfl⟩
  case round =>
   obtain ⟨j,rfl,hj,hf,n,rfl⟩:=hrel
   have HF:=hQ hf
   clear hf
   by_cases hlt:j<p.length
   ·obtain ⟨x,hx⟩:∃ x,p[j]? = some x:=⟨_,xF hlt⟩
    obtain ⟨y,hy⟩:∃ y,q[j]? = some y:=⟨_,xF (by rw [←HL.out];exact hlt)⟩
    obtain ⟨ab,ao,rfl,abl,hac⟩:=HA.out.at hlt
    obtain ⟨cb,co,rfl,cbl,hcc⟩:=HC.out.at (show j<q.length by rw [←HL.out];exact hlt)
    have a0:=hac j x hx
    have c0:=hcc j y hy
    have HD:=hQ (show Qde (p.drop j) (q.drop j)=((x==y) && Qde (p.drop (j+1)) (q.drop (j+1))) from by rw [Qeo hx,Qeo hy,Qde])
    have hja:(j:Int)<(p.length:Int):=by omega
    have hj0:(0:Int)≤(j:Int):=by omega
    clear hac hcc hx hy
    by_cases hxy:x=y
    ·subst hxy
     have HR:=hQ (show Qde p q=Qde (p.drop (j+1)) (q.drop (j+1)) from by rw [HF.out,HD.out];simp)
     go_wp2_with fail
     go_region_o
     all_goals
      go_wp2
      go_roundw
      case measure=>simp [intOf];omega
      case rel=>exact ⟨j+1,by go_num,by omega,HR.out,n+1,rfl⟩
    ·have e1:(x==y)=false:=beq_eq_false_iff_ne.2 hxy
     have e2:(x != y)=true:=by rw [bne_iff_ne];exact hxy
     have HR:=hQ (show Qde p q=false from by rw [HF.out,HD.out,e1];rfl)
     go_wp2_with fail
     go_region_o
     all_goals
      go_wp2
      go_ret
      exact ⟨Qag HR.out.symm,n+1,rfl⟩
   ·have HR:=hQ (show Qde p q=true from by rw [HF.out,List.drop_eq_nil_of_le (by omega),List.drop_eq_nil_of_le (by have:=HL.out;omega)];rfl)
    go_wp2
    go_ret
    exact ⟨Qag HR.out.symm,n,rfl⟩
 ·have HR:=hQ (show Qde p q=false from by
   cases h:Qde p q with
   | false=>rfl
   | true=>exact absurd (congrArg List.length ((Ql1 p q).1 h)) hl)
  have e1:((p.length:Int)==(q.length:Int))=false:=beq_eq_false_iff_ne.2 (by omega)
  have e2:((p.length:Int) != (q.length:Int))=true:=by rw [bne_iff_ne];omega
  have e3:(p.length==q.length)=false:=beq_eq_false_iff_ne.2 hl
  have e4:(p.length != q.length)=true:=by rw [bne_iff_ne];exact hl
  go_enter Tryz.func31,Tryz.ntmps31
  go_wp2
  go_ret
  exact ⟨Qag HR.out.symm,0,rfl⟩
theorem Qd3 (w:World) (n:Nat):Below w.heap.size w (w.drewN n):=⟨rfl,rfl,rfl,xA _,fun _ _=>rfl⟩
theorem Qfh (A C:Option Addr) (a c:Nat) (p q:List Int) (w:World) (hA:IntsAt w A p) (hC:IntsAt w C q) (hp:p.length≤maxLen) (hq:q.length≤maxLen) :
  Calls Tryz.prog 31 #[.slice A p.length a,.slice C q.length c] w fun e w'=>e = .returned (.bool (Qde p q))∧Below w.heap.size w w' :=
 (Qi6 A C a c p q w hA hC hp hq).mono fun _ _ ⟨he,n,hn⟩=>⟨he,by rw [hn];exact Qd3 w n⟩
end Go.Proofs.YtjidpkcjpgdafaaGreat

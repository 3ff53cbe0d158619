/- Part 48 -/
import Derived.Test.YtfjpemdejoejbaaGreatTt46
import Derived.Test.YtfjpemdejoejbaaGreatTt47
import Derived.ChangeKeysEq
set_option maxRecDepth 100000
set_option maxHeartbeats 4000000
namespace Go.Proofs.YtfjpemdejoejbaaGreat
open Go.RowKit
def Zbg (k:Int):Prop:=k=5∨k=6∨k=7
theorem Qyk {k:Int} (hk:Zbg k):(n:Nat)→Qav (Qbp n (Qcw k))=Qcw k∧Qa6 (Qbp n (Qcw k))=n
 | 0=>Qel (by show k≠8;rcases hk with h | h | h <;> omega)
 | n+1=>by
  obtain ⟨h1,h2⟩:=Qyk hk n;have h:=Qek (t:=Qbp (n+1) (Qcw k)) (k:=Qbp n (Qcw k)) (r:=[]) rfl rfl;rw [h.1,h.2,h1,h2];exact ⟨rfl,rfl⟩
theorem Qsz (k:Int):(n:Nat)→Qe9 (Qbp n (Qcw k))=true
 | 0=>Qjm (by simp) (by simp) (fun t ht=>by simp at ht)
 | n+1=>Qjm (by simp) (by simp) fun t ht=>by
  obtain rfl:=List.mem_singleton.1 ht;exact Qsz k n
theorem Qps (k:Int):(n:Nat)→Qe1 (Qbp n (Qcw k)) (Qbp n (Qcw k))=true
 | 0=>by unfold Qbp Qcw;rw [Qe1,Qeh];simp [Qcc]
 | n+1=>by rw [Qbp,Qe1,Qeh,Qeh,Qps k n];simp [Qcc]
theorem Qlh {t:Tr} (hs:Qar t=true) (hk:5≤t.kind∧t.kind≤9) (h9:(Qav t).kind≠9):Zbg (Qav t).kind:=by
 have:=(Qe3 _ t (xA _) hs hk).1
 unfold Zbg;omega
theorem Qs0 {ps:List Tr} (hz:∀ t∈ps,Qal t≤1000) (hg:Qb4 ps=true):(f:Nat)→(r:Int × Int × Bool)→(met:List (Int × Int))→(n:Nat)→(R:Int × Nat × Int)→Za3 ps r→goL ps f r met n=some R→R.1=0→Zbg R.2.2
 | 0,_,_,_,_,_,h,_=>by rw [goL] at h;cases h
 | f+1,r,met,n,R,hr,h,h0=>by
  rcases hr with ⟨hr,_⟩|⟨M,D,t,k,rfl,ht,hk,h3⟩
  ·have:=Qx0 h hr
   rw [this] at h0;exact absurd h0 (by decide)
  ·by_cases hm:((M:Int),(D:Int))∈met
   ·have:=Qri h rfl hm
    rw [this] at h0;exact absurd h0 (by decide)
   ·obtain ⟨a,_,_,q1,q2,q3,q4⟩:=Qnv hz hg ht hk h3
    by_cases h9:(Qc0 (Qg9 ps M D)).kind=9
    ·obtain ⟨f',hf,h2⟩:=Qnu h hm h9;obtain rfl:f'=f:=by omega
     refine Qs0 hz hg f' _ _ _ R ?_ h2 h0;rw [q1] at h9 ⊢;have hc:=Qe3 _ a (xA _) q2 q3;exact Qfd hz hg hc.2.2.2 h9 (by rw [Qa9,hc.2.1,Qak];omega)
    ·have:=Qnt h hm h9
     rw [this]
     show Zbg (Qc0 (Qg9 ps M D)).kind
     rw [q1] at h9 ⊢;exact Qlh q2 q3 h9
theorem Qs1 {ps:List Tr} {m:Int} {t:Tr} (hz:∀ t∈ps,Qal t≤1000) (hss:Qar t=Qaj t) (h:(Qbv ps m t).1=0):Qb4 ps=true∧0<ps.length∧Zbg (Qbv ps m t).2.2:=by
 unfold Qbv at h ⊢
 split at h
 ·cases h
 ·rename_i hn
  rw [xN hn]
  have hg:Qb4 ps=true:=by cases hx:Qb4 ps with
   | true=>rfl
   | false=>exact absurd (.inl hx) hn
  have hm:¬ m<0:=fun h=>hn (.inr (.inl h))
  have hl:¬ (ps.length:Int)≤m:=fun h=>hn (.inr (.inr (.inl h)))
  have hk:5≤t.kind∧t.kind≤9:=Decidable.not_not.1 fun h=>hn (.inr (.inr (.inr (.inl h))))
  have hs:Qaj t=true:=by cases hx:Qaj t with
   | true=>rfl
   | false=>exact absurd (.inr (.inr (.inr (.inr hx)))) hn
  have hs2:Qar t=true:=hss.trans hs;refine ⟨hg,by omega,?_⟩
  by_cases h9:(Qav t).kind=9
  ·have hgo:=Qnl (ps:=ps) (m:=m.toNat) h9;have hc:=Qe3 _ t (xA _) hs2 hk;exact Qs0 hz hg _ _ _ _ _ (Qfd hz hg hc.2.2.2 h9 (by rw [Qa9,hc.2.1,Qak];omega)) hgo h
  ·unfold Qpb;rw [xN h9];exact Qlh hs2 hk h9
end Go.Proofs.YtfjpemdejoejbaaGreat
namespace Go.Proofs.YtfjpemdejoejbaaGreat
open Go.RowKit Go.Shelf
def arO (a:Pr):Obj:=.cells #[.int .i64 a.1,.int .i64 a.2] 67
def MRow (w:World) (B:Nat) (v:Value) (l:List Pr):Prop:=w.ownsRow B 67 2 v l.length (Qds l)
theorem MRow.nil (w:World) (B:Nat):MRow w B (.slice none 0 0) []:=World.ownsRow_nil _ _ _ _
theorem MRow.keep {w w':World} {B:Nat} {v:Value} {l:List Pr} (h:MRow w B v l) (hb:Below w.heap.size w w'):MRow w' B v l:=(Keeps.of_below (P:=fun _=>none) hb).row h fun _ _=>.inl rfl
theorem MRow.at {w:World} {B c:Nat} {A:Option Addr} {l:List Pr} (h:MRow w B (.slice A l.length c) l) {j:Nat} {y:Pr} (hy:l[j]? = some y):∃ g,A=some ⟨g,0,none⟩∧B≤g∧g<w.heap.size∧w.cell? ⟨g,j*2,none⟩=some (.int .i64 y.1)∧w.cell? ⟨g,j*2+1,none⟩=some (.int .i64 y.2):=by
 have hj:=(xP.1 hy).1;obtain ⟨g,cap,e,hg,hlt⟩:=World.ownsRow.form h (by omega);injection e with e _ _;subst e;have hc:=World.ownsRow.cells h (g:=g) rfl;obtain ⟨q0,q1⟩:=Qh0 hy;have e0:=hc _ _ q0;have e1:=hc _ _ q1;rw [Addr.add_lit] at e0 e1;simp only [Nat.zero_add] at e0 e1;exact ⟨g,rfl,hg,hlt,e0,e1⟩
theorem Qyn:(Tryz.prog.info? 67).map (fun i=>(i.zero,i.size,i.bytes))=some (some (.agg #[.int .i64 0,.int .i64 0]),2,16):=by kernel_rfl
theorem Zd1 {B:Nat} {a w:World} (h:Below B a w) (n:Nat):Below B a (w.drewN n):=h.trans ⟨rfl,rfl,rfl,xA _,fun _ _=>rfl⟩
theorem Qs2:Tryz.prog.eqGuardType Tryz.prog.depth 67=false:=by kernel_rfl
theorem Zfh:(Tryz.prog.info? 3).isSome=true:=by kernel_rfl
theorem Zbk (a b c d:Int) (w:World):(Op.equalIn 10000 67 (.agg #[.int .i64 a,.int .i64 b]) (.agg #[.int .i64 c,.int .i64 d])).run Tryz.prog w = .ok (a==c && b==d) w:=by
 obtain ⟨i,hi⟩:=Option.isSome_iff_exists.1 Zfh;have hc:Tryz.prog.cellsOf 3=1:=by kernel_rfl
 rw [run_equalIn_array w 9999 (t:=67) (e:=3) (n:=2) _ _ Tryz.underlying67 hi,hc];have hr:List.range 2 = [0,1]:=rfl;simp only [hr,Op.eqItems,Sem.run_bind,Nat.zero_mul,Nat.one_mul,Zdg,Result.andThen_ok,run_equalIn_int _ 9998 3 _ _ _ _ Tryz.underlying3];cases h1:(a==c) <;> cases h2:(b==d) <;> simp [Zdh,h2,run_equalIn_int _ 9998 3 _ _ _ _ Tryz.underlying3]
theorem Zby (a b c d:Int) (w:World):(binOp .eql 67 (.agg #[.int .i64 a,.int .i64 b]) (.agg #[.int .i64 c,.int .i64 d])).run Tryz.prog w = .ok (.bool (a==c && b==d)) w:=by
 rw [run_eql_struct,Zbk];rfl
theorem Qn2 (B c:Nat) (A:Option Addr) (l:List Pr) (x y:Int) (w:World) (h:MRow w B (.slice A l.length c) l) (hl:l.length≤1000000) :
  Calls Tryz.prog 40 #[.slice A l.length c,.agg #[.int .i64 x,.int .i64 y]] w fun e w'=>e = .returned (.bool (decide ((x,y)∈l)))∧Below w.heap.size w w':=by
 have HBA:=hQ (Qbq w (arO (x,y)));have HX:=xH w (arO (x,y));have HR:=hQ (h.keep HBA.out);clear h
 go_enter Tryz.func40,Tryz.ntmps40
 go_wp2
 go_loopw [5] (fun i wr=>∃ (k n:Nat),i = .int .i64 k∧k≤l.length∧Hid (Qxa l (x,y) k)∧wr=(w.alloc (arO (x,y))).drewN n) (fun i _=>l.length-(intOf i).toNat)
 case atStart=>exact ⟨0,0,rfl,xZ _,hQ fun j z hj=>absurd hj (by omega),rfl⟩
 case round =>
  obtain ⟨k,n,rfl,hk,hn,rfl⟩:=hrel;have HN:=hn;clear hn;have b0:(w.alloc (arO (x,y))).cell? ⟨w.heap.size,0,none⟩=some (.int .i64 x):=Qaa HX 0 _ rfl;have b1:(w.alloc (arO (x,y))).cell? ⟨w.heap.size,1,none⟩=some (.int .i64 y):=Qaa HX 1 _ rfl
  by_cases hlt:k<l.length
  ·obtain ⟨z,hz⟩:∃ z,l[k]? = some z:=⟨_,xF hlt⟩;obtain ⟨g,rfl,_,gl,c0,c1⟩:=HR.out.at hz;have HZ:=hQ hz;obtain ⟨z1,z2⟩:=z;simp only at c0 c1;have hk0:(0:Int)≤(k:Int):=by omega
   have hk1:(k:Int)<(l.length:Int):=by omega
   have hk2:(k:Int)+1≤1000001:=by omega
   have hG:=fun (w:World) (p q:Operand)=>run_eqGuard_agg w .eql 67 p q #[.int .i64 z1,.int .i64 z2] #[.int .i64 x,.int .i64 y] Qs2
   have hE:=fun (w:World)=>Zby z1 z2 x y w
   clear hz HX
   by_cases he:(z1,z2)=(x,y)
   ·have HM:=hQ (show (x,y)∈l from he ▸ yA HZ.out);have hq:(z1==x && z2==y)=true:=by injection he with e1 e2;subst e1 e2;simp
    clear he;go_wp2_with fail
    go_quiet (fail)
    go_wp2
    go_ret
    exact ⟨by rw [xS HM.out];rfl,Zd1 (Zd1 HBA.out _) _⟩
   ·have HS:=hQ (Qmg HN.out HZ.out he);have hq:(z1==x && z2==y)=false:=Qxb (fun e=>he e.symm);clear he;go_wp2_with fail
    go_quiet (fail)
    go_wp2
    go_roundw
    case rel=>exact ⟨k+1,_,by go_num,by omega,HS,rfl⟩
    case measure=>simp [intOf];omega
  ·obtain rfl:k=l.length:=by omega
   have HM:=hQ (Qpc HN.out);clear HX
   go_wp2
   go_ret
   exact ⟨by rw [xR HM.out];rfl,Zd1 HBA.out _⟩
end Go.Proofs.YtfjpemdejoejbaaGreat
namespace Go.Proofs.YtfjpemdejoejbaaGreat
open Go.RowKit
def Qh4 (c:Tr):Tr:=.mk c.kind c.text [] []
theorem Zbm (n m:Nat) (c:Tr):Qbp n (Qbp m c)=Qbp (n+m) c:=by
 induction n with
 | zero=>rw [Nat.zero_add];rfl
 | succ n ih=>rw [Qbp,ih,show n+1+m=(n+m)+1 from by omega,Qbp]
theorem Qpw (N:Nat):∀ t:Tr,SizeOf.sizeOf t≤N→LsT t→Qgw t=Qbp (Qa6 t) (Qh4 (Qav t)):=by
 induction N with
 | zero=>intro t h;have:=Qf7 t;omega
 | succ N ih =>
  intro t hN h
  rcases Qeu h.1 h.2 with ⟨h8,k,hkk,h1,h2⟩|⟨h8,hk,_⟩
  ·have hj:t.kids[0]? = some k:=by rw [hkk];rfl
   have hi:=ih k (by have:=Qbn hj;omega) ⟨h2,h1⟩;obtain ⟨q1,q2⟩:=Qek h8 hkk
   have hx:t.text=⟨#[]⟩:=by
    have h3:=(Qe2 h.1).2.1;rw [h8] at h3;have e2:Qau (Qae 8) t.text=is t.text []:=rfl;rw [e2] at h3;have h4:=eq_of_beq (show (t.text.data.toList==([]:List UInt8))=true from h3);cases hx:t.text with
    | mk d=>rw [hx] at h4;cases d;simp at h4;subst h4;rfl
   cases t with
   | mk kd x ls ks =>
    have e1:kd=8:=h8;have e2:ks = [k]:=hkk;have e3:x=⟨#[]⟩:=hx;subst e1 e2 e3;rw [Qgw,Qrm,Qrm,hi,q1,q2,Qbp]
  ·obtain ⟨q1,q2⟩:=Qel h8;rw [q1,q2];cases t with
   | mk kd x ls ks =>
    have e2:ks = []:=hk;subst e2;rw [Qgw,Qrm];rfl
end Go.Proofs.YtfjpemdejoejbaaGreat

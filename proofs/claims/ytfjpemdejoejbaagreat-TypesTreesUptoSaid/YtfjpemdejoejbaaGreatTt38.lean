/- Part 38 -/
import Derived.Test.YtfjpemdejoejbaaGreatTt34
set_option maxRecDepth 100000
set_option maxHeartbeats 4000000
namespace Go.Proofs.YtfjpemdejoejbaaGreat
open Go.RowKit
abbrev Tgt:=List Int × Int × Int × Bool
def Qxd (ps:List Tr) (m:Nat) (t:Tr) (p:List Int):List Tgt:=if t.kind=16∨t.kind=9 then [(p,(Qaw ps m t.text).1,(Qaw ps m t.text).2.1,!(Qaw ps m t.text).2.2)] else []
mutual
def Qy7 (ps:List Tr) (m:Nat):Tr→List Int→List Tgt
 | .mk k x ls ks,p=>Qxd ps m (.mk k x ls ks) p ++ Qlc ps m ks 0 p
def Qlc (ps:List Tr) (m:Nat):List Tr→Nat→List Int→List Tgt
 | [],_,_=>[]
 | t :: r,i,p=>Qy7 ps m t (p ++ [(i:Int)]) ++ Qlc ps m r (i+1) p
end
theorem Qld (ps:List Tr) (m:Nat) (t:Tr) (p:List Int):Qy7 ps m t p=Qxd ps m t p ++ Qlc ps m t.kids 0 p:=by cases t;rw [Qy7];rfl
theorem Qpd (ps:List Tr) (m:Nat) (t:Tr) (p:List Int):(l:List Tr)→(i:Nat)→Qlc ps m (l ++ [t]) i p=Qlc ps m l i p ++ Qy7 ps m t (p ++ [((i+l.length:Nat):Int)])
 | [],i=>by simp [Qlc]
 | a :: r,i=>by
  have h:=Qpd ps m t p r (i+1);rw [xV,Qlc,h,Qlc,xT,show i+1+r.length=i+(a :: r).length from by simp;omega]
theorem Qxe (ps:List Tr) (m:Nat) (l:List Tr) (p:List Int) (k:Nat) (t:Tr) (h:l[k]? = some t):Qlc ps m (l.take (k+1)) 0 p=Qlc ps m (l.take k) 0 p ++ Qy7 ps m t (p ++ [(k:Int)]):=by
 have hk:k<l.length:=(xP.1 h).1;rw [List.take_add_one,h,Option.toList_some,Qpd,List.length_take,Nat.min_eq_left (Nat.le_of_lt hk),Nat.zero_add]
theorem Qsl (ps:List Tr) (m:Nat) (t:Tr) (p:List Int):(Qxd ps m t p).length≤1:=by unfold Qxd;split <;> simp
mutual
theorem Qsm (ps:List Tr) (m:Nat):(t:Tr)→(p:List Int)→(Qy7 ps m t p).length≤Qal t
 | .mk k x ls ks,p=>by
  rw [Qy7,xB];have h1:=Qsl ps m (.mk k x ls ks) p;have h2:=Qnn ps m ks 0 p;rw [Qal];omega
theorem Qnn (ps:List Tr) (m:Nat):(l:List Tr)→(i:Nat)→(p:List Int)→(Qlc ps m l i p).length≤Qak l
 | [],_,_=>by rw [Qlc,Qak];simp
 | t :: r,i,p=>by
  rw [Qlc,xB,Qak];have h1:=Qsm ps m t (p ++ [(i:Int)]);have h2:=Qnn ps m r (i+1) p;omega
end
end Go.Proofs.YtfjpemdejoejbaaGreat
namespace Go.Proofs.YtfjpemdejoejbaaGreat
open Go.RowKit Go.Shelf
def Qiv (lv:Value) (a:Nat) (pv:Value) (b:Nat) (sv:Value) (c:Nat):Nat→Option Nat:=fun k=>if lv.ownBlock=some k then some a else if pv.ownBlock=some k then some b else if sv.ownBlock=some k then some c else none
def Qlq (v v':Value):Prop:=∀ g,v.ownBlock=some g→v'.ownBlock≠some g
theorem Quk {w:World} {B B':Nat} {e e':TypeId} {s s':Nat} {v v':Value} {n n':Nat} {xs xs':List Value} (h:w.ownsRow B e s v n xs) (h':w.ownsRow B' e' s' v' n' xs') (hne:e≠e'):Qlq v v':=fun g hg hg'=>by
 rcases h.2 with ⟨rfl,_⟩|⟨a,cap,cur,rfl,_,hh,_⟩
 ·cases hg
 ·rcases h'.2 with ⟨rfl,_⟩|⟨a',cap',cur',rfl,_,hh',_⟩
  ·cases hg'
  ·injection hg with hg;injection hg' with hg';have e1:a=g:=hg;have e2:a'=g:=hg';subst e1 e2;rw [hh] at hh';injection hh' with hh';injection hh' with _ h2;exact hne h2
theorem Qno {lv pv sv:Value} {a b c k:Nat} (h:lv.ownBlock=some k):Qiv lv a pv b sv c k=some a:=xO h
theorem Qrc {lv pv sv:Value} {a b c k:Nat} (h:pv.ownBlock=some k) (hd:Qlq lv pv):Qiv lv a pv b sv c k=some b:=by
 unfold Qiv;rw [xN (fun e=>hd k e h),xO h]
theorem Zdl {lv pv sv:Value} {a b c k:Nat} (h:sv.ownBlock=some k) (hd:Qlq lv sv) (hd':Qlq pv sv):Qiv lv a pv b sv c k=some c:=by
 unfold Qiv;rw [xN (fun e=>hd k e h),xN (fun e=>hd' k e h),xO h]
theorem Qfr {lv pv sv:Value} {a b c k:Nat} (h1:lv.ownBlock≠some k) (h2:pv.ownBlock≠some k) (h3:sv.ownBlock≠some k):Qiv lv a pv b sv c k=none:=by
 unfold Qiv;rw [xN h1,xN h2,xN h3]
theorem Qul {w:World} {lv lv' pv pv' sv sv':Value} {a a' b b' c c':Nat} (hl:Later w lv lv') (hp:Later w pv pv') (hs:Later w sv sv') (ha:a≤a') (hb:b≤b') (hc:c≤c')
  (d1:Qlq lv pv) (d2:Qlq lv sv) (d3:Qlq pv sv):Qhi w.heap.size (Qiv lv a pv b sv c) (Qiv lv' a' pv' b' sv' c'):=fun k hk=>by
 by_cases h1:lv'.ownBlock=some k
 ·rcases hl k h1 with h | h
  ·exact .inr ⟨a,a',Qno h,Qno h1,ha⟩
  ·omega
 ·by_cases h2:pv'.ownBlock=some k
  ·rcases hp k h2 with h | h
   ·exact .inr ⟨b,b',Qrc h d1,by unfold Qiv;rw [xN h1,xO h2],hb⟩
   ·omega
  ·by_cases h3:sv'.ownBlock=some k
   ·rcases hs k h3 with h | h
    ·exact .inr ⟨c,c',Zdl h d2 d3,by unfold Qiv;rw [xN h1,xN h2,xO h3],hc⟩
    ·omega
   ·exact .inl (Qfr h1 h2 h3)
theorem Later.refl (w:World) (v:Value):Later w v v:=fun _ h=>.inl h
theorem Later.trans {w w':World} {a b c:Value} (h:Later w a b) (h':Later w' b c) (hs:w.heap.size≤w'.heap.size):Later w a c:=fun g hg=>by
 rcases h' g hg with h1 | h1
 ·exact h g h1
 ·exact .inr (xQ hs h1)
theorem Zew {lv pv sv:Value} {a b c N:Nat} (d1:Qlq lv pv):Qhi N (Qiv lv a pv b sv c) (pre pv b):=fun k _=>by
 by_cases h:pv.ownBlock=some k
 ·exact .inr ⟨b,b,Qrc h d1,Qka h,xA _⟩
 ·exact .inl (Qb8 h)
theorem Zex {lv pv sv:Value} {a b c N:Nat}:Qhi N (Qiv lv a pv b sv c) (pre lv a):=fun k _=>by
 by_cases h:lv.ownBlock=some k
 ·exact .inr ⟨a,a,Qno h,Qka h,xA _⟩
 ·exact .inl (Qb8 h)
section
variable {B:Nat} {w w':World} {lv pv sv:Value} {ws:List (Value × Value × Bool)} {p:List Int} {us:List (ByteArray × Value)}
theorem Qiw (N:Nat) (P:Nat→Option Nat):Qhi N P P:=fun k _=>by
 cases h:P k with
 | none=>exact .inl rfl
 | some n=>exact .inr ⟨n,n,rfl,rfl,xA _⟩
end
theorem Qga {w:World} {B:Nat} {e:TypeId} {s:Nat} {v:Value} {n:Nat} {xs:List Value} (h:w.ownsRow B e s v n xs):∃ A c,v = .slice A n c:=by
 rcases h.2 with ⟨rfl,rfl⟩|⟨g,cap,cur,rfl,_⟩
 ·exact ⟨_,_,rfl⟩
 ·exact ⟨_,_,rfl⟩
theorem Qd7 (w:World) (o:Obj):Below w.heap.size w (w.alloc o):=(xC w.heap.size w).alloc (xA _) o
theorem Qjj {w:World} {v:Value} {g n c:Nat} (h:v.ownBlock=some g∨w.heap.size≤g):Later w v (.slice (some ⟨g,0,none⟩) n c):=fun k hk=>by
 injection hk with hk;have e:g=k:=hk;subst e;exact h
theorem IRow.intsAt {w:World} {B n c:Nat} {A:Option Addr} {p:List Int} (h:IRow w B (.slice A n c) p):Qwb w A p:=h.ints.2
theorem IRow.app {w:World} {B:Nat} {v:Value} {p:List Int} {P:Nat→Option Nat} {w':World} (h:IRow w B v p) (hk:Keeps P w w') (hp:∀ g,B≤g→g<w.heap.size→P g=none):IRow w' B v p :=
 hk.row h fun g hg=>.inl (hp g (h.lt g hg).1 (h.lt g hg).2)
theorem Qso:(l:List Tr)→(j:Nat)→(k:Tr)→l[j]? = some k→Qal k+l.length≤Qak l+1
 | [],_,_,h=>by simp at h
 | a :: r,0,k,h=>by
  injection h with h;subst h;have:=Qa4 r
  rw [Qak,xD];omega
 | a :: r,j+1,k,h=>by
  have ih:=Qso r j k h;have:=Qa9 a
  rw [Qak,xD];omega
theorem Qpe {t k:Tr} {j:Nat} (h:t.kids[j]? = some k):Qal k+t.kids.length≤Qal t:=by
 have h1:=Qso _ _ _ h;have h2:=Qa9 t;omega
theorem Qpf {w:World} {B:Nat} {v:Value} {p:List Int} {q:Int} (h:w.ownsRow B 3 1 v (p.length+1) (p.map (Value.int .i64) ++ [.int .i64 q])):IRow w B v (p ++ [q]):=by
 unfold IRow;rw [xB,List.length_singleton,List.map_append];exact h
theorem Qfs {w:World} {B:Nat} {e:TypeId} {s:Nat} {v:Value} {n:Nat} {xs:List Value} (h:w.ownsRow B e s v n xs) {g:Nat} {cur:Array Value} {ty:TypeId} {fr:Nat × Nat} (hg:w.heap[g]? = some (.cells cur ty fr)) (ht:ty≠e):v.ownBlock≠some g:=fun k=>by
 rcases h.2 with ⟨rfl,_⟩|⟨g',cap,cur',rfl,_,hh,_⟩
 ·cases k
 ·injection k with k;have k':g'=g:=k;subst k';rw [hg] at hh;injection hh with hh;injection hh with _ h2;exact ht h2
theorem Qjk {w:World} {B:Nat} {v:Value} {p:List Int} {g:Nat} (h:IRow w B v p) (hg:v.ownBlock=some g):∃ cur,w.heap[g]? = some (.cells cur 3 (0,0)):=by
 rcases h.2 with ⟨rfl,_⟩|⟨g',cap,cur,rfl,_,hh,_⟩
 ·cases hg
 ·injection hg with hg;have e:g'=g:=hg;subst e;exact ⟨cur,hh⟩
theorem Zax:(Tryz.prog.info? 103).map (fun i=>(i.zero,i.size,i.bytes))=some (some (.agg #[.int .i64 0,.slice none 0 0,.int .i64 0,.int .i64 0,.bool false]),5,56):=by kernel_rfl
abbrev TgV:=Int × Value × Int × Int × Bool
abbrev Tgm:=Int × Tgt
def tgC (u:TgV):List Value:=[.int .i64 u.1,u.2.1,.int .i64 u.2.2.1,.int .i64 u.2.2.2.1,.bool u.2.2.2.2]
def Qen (ws:List TgV):List Value:=ws.flatMap tgC
theorem Qnp (a b:List TgV):Qen (a ++ b)=Qen a ++ Qen b:=by unfold Qen;rw [List.flatMap_append]
def TRow (w:World) (B:Nat) (v:Value) (ws:List TgV):Prop:=w.ownsRow B 103 5 v ws.length (Qen ws)
def Zdm (w:World) (lo:Nat) (y:TgV) (z:Tgm):Prop:=y.1=z.1∧IRow w lo y.2.1 z.2.1∧y.2.2=z.2.2
def TarsAt (w:World) (lo:Nat) (ws:List TgV) (zs:List Tgm):Prop:=ws.length=zs.length∧∀ (j:Nat) (y:TgV) (z:Tgm),ws[j]? = some y→zs[j]? = some z→Zdm w lo y z
theorem TarsAt.nil (w:World) (lo:Nat):TarsAt w lo [] []:=⟨rfl,fun j y z h=>by simp at h⟩
theorem TarsAt.app {w:World} {lo:Nat} {a b:List TgV} {c d:List Tgm} (h:TarsAt w lo a c) (k:TarsAt w lo b d):TarsAt w lo (a ++ b) (c ++ d):=by
 refine ⟨by rw [xB,xB,h.1,k.1],fun j y z hy hz=>?_⟩
 by_cases hj:j<a.length
 ·rw [yB hj] at hy;rw [yB (by rw [←h.1];exact hj)] at hz;exact h.2 j y z hy hz
 ·rw [xX (by omega)] at hy;rw [xX (by rw [←h.1];omega),←h.1] at hz;exact k.2 _ y z hy hz
theorem TarsAt.one {w:World} {lo:Nat} {y:TgV} {z:Tgm} (h:Zdm w lo y z):TarsAt w lo [y] [z]:=by
 refine ⟨rfl,fun j y' z' hy hz=>?_⟩
 match j,hy,hz with
 | 0,hy,hz =>
  injection hy with hy;injection hz with hz;subst hy hz;exact h
theorem TarsAt.step {w w':World} {lo lo':Nat} {ws:List TgV} {vs:List Tgm} (h:TarsAt w lo ws vs) (hk:∀ v p,IRow w lo v p→IRow w' lo' v p):TarsAt w' lo' ws vs :=
 ⟨h.1,fun j y z hy hz=>⟨(h.2 j y z hy hz).1,hk _ _ (h.2 j y z hy hz).2.1,(h.2 j y z hy hz).2.2⟩⟩
theorem Qpg (v:Value):Qlq v (.slice none 0 0):=fun _ _ h=>by cases h
structure HandT (B:Nat) (w:World) (lv:Value) (ws:List TgV) (pv:Value) (p:List Int):Prop where
 hl:TRow w B lv ws
 hp:IRow w B pv p
 hb:B≤w.heap.size
abbrev Qh1 (lv:Value) (a:Nat) (pv:Value) (b:Nat):Nat→Option Nat:=Qiv lv a pv b (.slice none 0 0) 0
section
variable {B:Nat} {w w':World} {lv pv:Value} {ws:List TgV} {p:List Int}
theorem HandT.apart (h:HandT B w lv ws pv p):Qlq lv pv:=Quk h.hl h.hp (by decide)
theorem HandT.keep (h:HandT B w lv ws pv p) (hk:Keeps (Qh1 lv (ws.length*5) pv p.length) w w'):HandT B w' lv ws pv p :=
 ⟨hk.row h.hl (fun _ hk=>.inr ⟨_,Qno hk,xA _⟩),hk.row h.hp (fun _ hk=>.inr ⟨_,Qrc hk h.apart,by omega⟩),xQ h.hb hk.size⟩
theorem HandT.later (h:HandT B w lv ws pv p) (hb:Below w.heap.size w w'):HandT B w' lv ws pv p:=h.keep (Keeps.of_below hb)
theorem HandT.path (h:HandT B w lv ws pv p) {pv':Value} {q:Int} (hk:Keeps (pre pv (p.length*1)) w w') (hp:IRow w' B pv' (p ++ [q])) :
  HandT B w' lv ws pv' (p ++ [q])∧Keeps (Qh1 lv (ws.length*5) pv p.length) w w':=by
 have hK:Keeps (Qh1 lv (ws.length*5) pv p.length) w w':=by
  refine (Keeps.refl _ w).trans hk ?_;rw [Nat.mul_one];exact Zew h.apart
 exact ⟨⟨(h.keep hK).hl,hp,(h.keep hK).hb⟩,hK⟩
theorem Qgs {a b k:Nat} {v:TV} (h:HandT B w lv ws pv p) (hk:w.heap[k]? = some (trO v)):Qh1 lv a pv b k=none :=
 Qfr (Qfs h.hl hk (by decide)) (Qfs h.hp hk (by decide)) (by intro h;cases h)
theorem Qgt {a b k:Nat} {cur:Array Value} (h:HandT B w lv ws pv p) (hk:w.heap[k]? = some (.cells cur 101 (0,0))):Qh1 lv a pv b k=none :=
 Qfr (Qfs h.hl hk (by decide)) (Qfs h.hp hk (by decide)) (by intro h;cases h)
theorem Qgb {a b k:Nat} (h:HandT B w lv ws pv p) (hk:k<B):Qh1 lv a pv b k=none :=
 Qfr (fun e=>by have:=(h.hl.lt k e).1;omega) (fun e=>by have:=(h.hp.lt k e).1;omega) (by intro h;cases h)
theorem Qix {a b k:Nat} (h:HandT B w lv ws pv p) (hk:w.heap.size≤k):Qh1 lv a pv b k=none :=
 Qfr (fun e=>by have:=(h.hl.lt k e).2;omega) (fun e=>by have:=(h.hp.lt k e).2;omega) (by intro h;cases h)
theorem Qhj {lv' pv':Value} {a a' b b':Nat} (h:HandT B w lv ws pv p) (hl:Later w lv lv') (hp:Later w pv pv') (ha:a≤a') (hb:b≤b'):Qhi w.heap.size (Qh1 lv a pv b) (Qh1 lv' a' pv' b') :=
 Qul hl hp (Later.refl _ _) ha hb (xA _) h.apart (Qpg _) (Qpg _)
end
def Qsp (ps:List Tr) (m:Nat) (t:Tr) (p:List Int):List Tgm:=(Qy7 ps m t p).map fun z=>((m:Int),z)
def Qu0 (ps:List Tr) (m:Nat) (t:Tr) (p:List Int):List Tgm:=(Qxd ps m t p).map fun z=>((m:Int),z)
def Qxj (ps:List Tr) (m:Nat) (l:List Tr) (p:List Int):List Tgm:=(Qlc ps m l 0 p).map fun z=>((m:Int),z)
theorem Qxk (ps:List Tr) (m:Nat) (t:Tr) (p:List Int):Qsp ps m t p=Qu0 ps m t p ++ Qxj ps m t.kids p:=by unfold Qsp Qu0 Qxj;rw [Qld,List.map_append]
theorem Qph {ps:List Tr} {m:Nat} {l:List Tr} {p:List Int} {k:Nat} {t:Tr} (h:l[k]? = some t):Qxj ps m (l.take (k+1)) p=Qxj ps m (l.take k) p ++ Qsp ps m t (p ++ [(k:Int)]):=by unfold Qxj Qsp;rw [Qxe ps m l p k t h,List.map_append]
theorem Zdn {ps:List Tr} {m:Nat} {t:Tr} {p:List Int} (h:¬ (t.kind=16∨t.kind=9)):Qu0 ps m t p = []:=by unfold Qu0 Qxd;rw [xN h];rfl
theorem Zay {ps:List Tr} {m:Nat} {t:Tr} {p:List Int} (h:t.kind=16∨t.kind=9):Qu0 ps m t p = [((m:Int),p,(Qaw ps m t.text).1,(Qaw ps m t.text).2.1,!(Qaw ps m t.text).2.2)]:=by unfold Qu0 Qxd;rw [xO h];rfl
theorem Qsq (ps:List Tr) (m:Nat) (t:Tr) (p:List Int):(Qu0 ps m t p).length≤1:=by unfold Qu0;rw [List.length_map];exact Qsl ps m t p
theorem Qsr (ps:List Tr) (m:Nat) (l:List Tr) (p:List Int):(Qxj ps m l p).length≤Qak l:=by unfold Qxj;rw [List.length_map];exact Qnn ps m l 0 p
def TPost (B:Nat) (lv:Value) (ws:List TgV) (pv:Value) (p:List Int) (ps:List Tr) (m:Nat) (t:Tr) (w:World) (e:Ending) (w':World):Prop :=
 ∃ v' vs',e = .returned v'∧TRow w' B v' (ws ++ vs')∧TarsAt w' w.heap.size vs' (Qsp ps m t p)∧Keeps (Qh1 lv (ws.length*5) pv p.length) w w'∧Later w lv v'
def Zey (B:Nat) (lv:Value) (ws:List TgV) (pv:Value) (p:List Int) (zs:List Tgm) (w0:World) (l:Value) (wr:World):Prop :=
 ∃ vs',TRow wr B l (ws ++ vs')∧TarsAt wr w0.heap.size vs' zs∧Keeps (Qh1 lv (ws.length*5) pv p.length) w0 wr∧Later w0 lv l
theorem Zdo {B:Nat} {lv v' pv:Value} {ws:List TgV} {p:List Int} {w w2 w3:World} {y:TgV} {z:Tgm} {o:Obj}
  (hh:HandT B w lv ws pv p) (hb:Below w.heap.size w w2) (hv:Zdm w2 w.heap.size y z) (hown:w3.ownsRow B 103 5 v' (ws.length+1) (Qen ws ++ tgC y)) (hk:Keeps (pre lv (ws.length*5)) (w2.alloc o) w3)
  (hl:Later (w2.alloc o) lv v'):Zey B lv ws pv p [z] w v' w3:=by
 have hb3:=hb.trans ((Qd7 w2 o).mono hb.size)
 refine ⟨[y],?_,?_,(Keeps.of_below hb3).trans hk Zex,fun g hg=>(hl g hg).imp id fun h=>xQ hb3.size h⟩
 ·unfold TRow;rw [xB,Qnp];exact (show Qen ws ++ tgC y=Qen ws ++ Qen [y] from by simp [Qen]) ▸ hown
 ·refine (TarsAt.one hv).step fun v q h=>?_
  exact (h.keep (Qd7 w2 o)).app hk fun g hg _=>Qb8 fun e=>by
   have:=(hh.hl.lt g e).2
   omega
end Go.Proofs.YtfjpemdejoejbaaGreat

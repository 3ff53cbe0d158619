/- Part 33 -/
import Derived.Test.YtclkilljmdkfaaaGreatTf26
set_option maxRecDepth 100000
set_option maxHeartbeats 4000000
namespace Go.Proofs.YtclkilljmdkfaaaGreat
open Go.RowKit
abbrev Tgt:=List Int × Int × Int × Bool
def Zb7 (ps:List Tr) (m:Nat) (t:Tr) (p:List Int):List Tgt:=if t.kind=16∨t.kind=9 then [(p,(Qby ps m t.text).1,(Qby ps m t.text).2.1,!(Qby ps m t.text).2.2)] else []
mutual
def Zd6 (ps:List Tr) (m:Nat):Tr→List Int→List Tgt
 | .mk k x ls ks,p=>Zb7 ps m (.mk k x ls ks) p ++ Qnh ps m ks 0 p
def Qnh (ps:List Tr) (m:Nat):List Tr→Nat→List Int→List Tgt
 | [],_,_=>[]
 | t :: r,i,p=>Zd6 ps m t (p ++ [(i:Int)]) ++ Qnh ps m r (i+1) p
end
theorem Qni (ps:List Tr) (m:Nat) (t:Tr) (p:List Int):Zd6 ps m t p=Zb7 ps m t p ++ Qnh ps m t.kids 0 p:=by cases t;rw [Zd6];rfl
theorem Qr3 (ps:List Tr) (m:Nat) (t:Tr) (p:List Int):(l:List Tr)→(i:Nat)→Qnh ps m (l ++ [t]) i p=Qnh ps m l i p ++ Zd6 ps m t (p ++ [((i+l.length:Nat):Int)])
 | [],i=>by simp [Qnh]
 | a :: r,i=>by
  have h:=Qr3 ps m t p r (i+1)
  rw [xV,Qnh,h,Qnh,xT,show i+1+r.length=i+(a :: r).length from by simp;omega]
theorem Zb8 (ps:List Tr) (m:Nat) (l:List Tr) (p:List Int) (k:Nat) (t:Tr) (h:l[k]? = some t):Qnh ps m (l.take (k+1)) 0 p=Qnh ps m (l.take k) 0 p ++ Zd6 ps m t (p ++ [(k:Int)]):=by
 have hk:k<l.length:=(xP.1 h).1
 rw [List.take_add_one,h,Option.toList_some,Qr3,List.length_take,Nat.min_eq_left (Nat.le_of_lt hk),Nat.zero_add]
theorem Qvl (ps:List Tr) (m:Nat) (t:Tr) (p:List Int):(Zb7 ps m t p).length≤1:=by unfold Zb7;split <;> simp
mutual
theorem Qvm (ps:List Tr) (m:Nat):(t:Tr)→(p:List Int)→(Zd6 ps m t p).length≤Qah t
 | .mk k x ls ks,p=>by
  rw [Zd6,xB]
  have h1:=Qvl ps m (.mk k x ls ks) p
  have h2:=Qqb ps m ks 0 p
  rw [Qah]
  omega
theorem Qqb (ps:List Tr) (m:Nat):(l:List Tr)→(i:Nat)→(p:List Int)→(Qnh ps m l i p).length≤Qam l
 | [],_,_=>by rw [Qnh,Qam];simp
 | t :: r,i,p=>by
  rw [Qnh,xB,Qam]
  have h1:=Qvm ps m t (p ++ [(i:Int)])
  have h2:=Qqb ps m r (i+1) p
  omega
end
end Go.Proofs.YtclkilljmdkfaaaGreat
namespace Go.Proofs.YtclkilljmdkfaaaGreat
open Go.RowKit Go.Shelf
def Qkp (lv:Value) (a:Nat) (pv:Value) (b:Nat) (sv:Value) (c:Nat):Nat→Option Nat:=fun k=>if lv.ownBlock=some k then some a else if pv.ownBlock=some k then some b else if sv.ownBlock=some k then some c else none
def Qn3 (v v':Value):Prop:=∀ g,v.ownBlock=some g→v'.ownBlock≠some g
theorem Qx5 {w:World} {B B':Nat} {e e':TypeId} {s s':Nat} {v v':Value} {n n':Nat} {xs xs':List Value} (h:w.ownsRow B e s v n xs) (h':w.ownsRow B' e' s' v' n' xs') (hne:e≠e'):Qn3 v v':=fun g hg hg'=>by
 rcases h.2 with ⟨rfl,_⟩|⟨a,cap,cur,rfl,_,hh,_⟩
 ·cases hg
 ·rcases h'.2 with ⟨rfl,_⟩|⟨a',cap',cur',rfl,_,hh',_⟩
  ·cases hg'
  ·injection hg with hg
   injection hg' with hg'
   have e1:a=g:=hg
   have e2:a'=g:=hg'
   subst e1 e2
   rw [hh] at hh'
   injection hh' with hh'
   injection hh' with _ h2
   exact hne h2
theorem Qqc {lv pv sv:Value} {a b c k:Nat} (h:lv.ownBlock=some k):Qkp lv a pv b sv c k=some a:=xO h
theorem Qua {lv pv sv:Value} {a b c k:Nat} (h:pv.ownBlock=some k) (hd:Qn3 lv pv):Qkp lv a pv b sv c k=some b:=by
 unfold Qkp
 rw [xN (fun e=>hd k e h),xO h]
theorem Zjh {lv pv sv:Value} {a b c k:Nat} (h:sv.ownBlock=some k) (hd:Qn3 lv sv) (hd':Qn3 pv sv):Qkp lv a pv b sv c k=some c:=by
 unfold Qkp
 rw [xN (fun e=>hd k e h),xN (fun e=>hd' k e h),xO h]
theorem Qgx {lv pv sv:Value} {a b c k:Nat} (h1:lv.ownBlock≠some k) (h2:pv.ownBlock≠some k) (h3:sv.ownBlock≠some k):Qkp lv a pv b sv c k=none:=by
 unfold Qkp
 rw [xN h1,xN h2,xN h3]
theorem Qx6 {w:World} {lv lv' pv pv' sv sv':Value} {a a' b b' c c':Nat} (hl:Later w lv lv') (hp:Later w pv pv') (hs:Later w sv sv') (ha:a≤a') (hb:b≤b') (hc:c≤c')
  (d1:Qn3 lv pv) (d2:Qn3 lv sv) (d3:Qn3 pv sv):Qi1 w.heap.size (Qkp lv a pv b sv c) (Qkp lv' a' pv' b' sv' c'):=fun k hk=>by
 by_cases h1:lv'.ownBlock=some k
 ·rcases hl k h1 with h | h
  ·exact .inr ⟨a,a',Qqc h,Qqc h1,ha⟩
  ·omega
 ·by_cases h2:pv'.ownBlock=some k
  ·rcases hp k h2 with h | h
   ·exact .inr ⟨b,b',Qua h d1,by unfold Qkp;rw [xN h1,xO h2],hb⟩
   ·omega
  ·by_cases h3:sv'.ownBlock=some k
   ·rcases hs k h3 with h | h
    ·exact .inr ⟨c,c',Zjh h d2 d3,by unfold Qkp;rw [xN h1,xN h2,xO h3],hc⟩
    ·omega
   ·exact .inl (Qgx h1 h2 h3)
theorem Later.refl (w:World) (v:Value):Later w v v:=fun _ h=>.inl h
theorem Later.trans {w w':World} {a b c:Value} (h:Later w a b) (h':Later w' b c) (hs:w.heap.size≤w'.heap.size):Later w a c:=fun g hg=>by
 rcases h' g hg with h1 | h1
 ·exact h g h1
 ·exact .inr (xQ hs h1)
theorem Zky {lv pv sv:Value} {a b c N:Nat} (d1:Qn3 lv pv):Qi1 N (Qkp lv a pv b sv c) (pre pv b):=fun k _=>by
 by_cases h:pv.ownBlock=some k
 ·exact .inr ⟨b,b,Qua h d1,Qmb h,xA _⟩
 ·exact .inl (Qc2 h)
theorem Zkz {lv pv sv:Value} {a b c N:Nat}:Qi1 N (Qkp lv a pv b sv c) (pre lv a):=fun k _=>by
 by_cases h:lv.ownBlock=some k
 ·exact .inr ⟨a,a,Qqc h,Qmb h,xA _⟩
 ·exact .inl (Qc2 h)
section
variable {B:Nat} {w w':World} {lv pv sv:Value} {ws:List (Value × Value × Bool)} {p:List Int} {us:List (ByteArray × Value)}
theorem Qkq (N:Nat) (P:Nat→Option Nat):Qi1 N P P:=fun k _=>by
 cases h:P k with
 | none=>exact .inl rfl
 | some n=>exact .inr ⟨n,n,rfl,rfl,xA _⟩
end
theorem Qhm {w:World} {B:Nat} {e:TypeId} {s:Nat} {v:Value} {n:Nat} {xs:List Value} (h:w.ownsRow B e s v n xs):∃ A c,v = .slice A n c:=by
 rcases h.2 with ⟨rfl,rfl⟩|⟨g,cap,cur,rfl,_⟩
 ·exact ⟨_,_,rfl⟩
 ·exact ⟨_,_,rfl⟩
theorem Qe2 (w:World) (o:Obj):Below w.heap.size w (w.alloc o):=(xC w.heap.size w).alloc (xA _) o
theorem Qlc {w:World} {v:Value} {g n c:Nat} (h:v.ownBlock=some g∨w.heap.size≤g):Later w v (.slice (some ⟨g,0,none⟩) n c):=fun k hk=>by
 injection hk with hk
 have e:g=k:=hk
 subst e
 exact h
theorem IRow.intsAt {w:World} {B n c:Nat} {A:Option Addr} {p:List Int} (h:IRow w B (.slice A n c) p):Qlq w A p:=h.ints.2
theorem IRow.app {w:World} {B:Nat} {v:Value} {p:List Int} {P:Nat→Option Nat} {w':World} (h:IRow w B v p) (hk:Keeps P w w') (hp:∀ g,B≤g→g<w.heap.size→P g=none):IRow w' B v p :=
 hk.row h fun g hg=>.inl (hp g (h.lt g hg).1 (h.lt g hg).2)
theorem Qvn:(l:List Tr)→(j:Nat)→(k:Tr)→l[j]? = some k→Qah k+l.length≤Qam l+1
 | [],_,_,h=>by simp at h
 | a :: r,0,k,h=>by
  injection h with h
  subst h
  have:=Qa0 r
  rw [Qam,xD]
  omega
 | a :: r,j+1,k,h=>by
  have ih:=Qvn r j k h
  have:=Qa3 a
  rw [Qam,xD]
  omega
theorem Qr4 {t k:Tr} {j:Nat} (h:t.kids[j]? = some k):Qah k+t.kids.length≤Qah t:=by
 have h1:=Qvn _ _ _ h
 have h2:=Qa3 t
 omega
theorem Qr5 {w:World} {B:Nat} {v:Value} {p:List Int} {q:Int} (h:w.ownsRow B 3 1 v (p.length+1) (p.map (Value.int .i64) ++ [.int .i64 q])):IRow w B v (p ++ [q]):=by
 unfold IRow
 rw [xB,List.length_singleton,List.map_append]
 exact h
theorem Qgy {w:World} {B:Nat} {e:TypeId} {s:Nat} {v:Value} {n:Nat} {xs:List Value} (h:w.ownsRow B e s v n xs) {g:Nat} {cur:Array Value} {ty:TypeId} {fr:Nat × Nat} (hg:w.heap[g]? = some (.cells cur ty fr)) (ht:ty≠e):v.ownBlock≠some g:=fun k=>by
 rcases h.2 with ⟨rfl,_⟩|⟨g',cap,cur',rfl,_,hh,_⟩
 ·cases k
 ·injection k with k
  have k':g'=g:=k
  subst k'
  rw [hg] at hh
  injection hh with hh
  injection hh with _ h2
  exact ht h2
theorem Qld {w:World} {B:Nat} {v:Value} {p:List Int} {g:Nat} (h:IRow w B v p) (hg:v.ownBlock=some g):∃ cur,w.heap[g]? = some (.cells cur 3 (0,0)):=by
 rcases h.2 with ⟨rfl,_⟩|⟨g',cap,cur,rfl,_,hh,_⟩
 ·cases hg
 ·injection hg with hg
  have e:g'=g:=hg
  subst e
  exact ⟨cur,hh⟩
theorem Zga:(Tryz.prog.info? 121).map (fun i=>(i.zero,i.size,i.bytes))=some (some (.agg #[.int .i64 0,.slice none 0 0,.int .i64 0,.int .i64 0,.bool false]),5,56):=by kernel_rfl
abbrev TgV:=Int × Value × Int × Int × Bool
abbrev Tgm:=Int × Tgt
def tgC (u:TgV):List Value:=[.int .i64 u.1,u.2.1,.int .i64 u.2.2.1,.int .i64 u.2.2.2.1,.bool u.2.2.2.2]
def Qff (ws:List TgV):List Value:=ws.flatMap tgC
theorem Qqd (a b:List TgV):Qff (a ++ b)=Qff a ++ Qff b:=by unfold Qff;rw [List.flatMap_append]
def TRow (w:World) (B:Nat) (v:Value) (ws:List TgV):Prop:=w.ownsRow B 121 5 v ws.length (Qff ws)
def Zji (w:World) (lo:Nat) (y:TgV) (z:Tgm):Prop:=y.1=z.1∧IRow w lo y.2.1 z.2.1∧y.2.2=z.2.2
def TarsAt (w:World) (lo:Nat) (ws:List TgV) (zs:List Tgm):Prop:=ws.length=zs.length∧∀ (j:Nat) (y:TgV) (z:Tgm),ws[j]? = some y→zs[j]? = some z→Zji w lo y z
theorem TarsAt.nil (w:World) (lo:Nat):TarsAt w lo [] []:=⟨rfl,fun j y z h=>by simp at h⟩
theorem TarsAt.app {w:World} {lo:Nat} {a b:List TgV} {c d:List Tgm} (h:TarsAt w lo a c) (k:TarsAt w lo b d):TarsAt w lo (a ++ b) (c ++ d):=by
 refine ⟨by rw [xB,xB,h.1,k.1],fun j y z hy hz=>?_⟩
 by_cases hj:j<a.length
 ·rw [yB hj] at hy
  rw [yB (by rw [←h.1];exact hj)] at hz
  exact h.2 j y z hy hz
 ·rw [xX (by omega)] at hy
  rw [xX (by rw [←h.1];omega),←h.1] at hz
  exact k.2 _ y z hy hz
theorem TarsAt.one {w:World} {lo:Nat} {y:TgV} {z:Tgm} (h:Zji w lo y z):TarsAt w lo [y] [z]:=by
 refine ⟨rfl,fun j y' z' hy hz=>?_⟩
 match j,hy,hz with
 | 0,hy,hz =>
  injection hy with hy
  injection hz with hz
  subst hy hz
  exact h
theorem TarsAt.step {w w':World} {lo lo':Nat} {ws:List TgV} {vs:List Tgm} (h:TarsAt w lo ws vs) (hk:∀ v p,IRow w lo v p→IRow w' lo' v p):TarsAt w' lo' ws vs :=
 ⟨h.1,fun j y z hy hz=>⟨(h.2 j y z hy hz).1,hk _ _ (h.2 j y z hy hz).2.1,(h.2 j y z hy hz).2.2⟩⟩
theorem Qr6 (v:Value):Qn3 v (.slice none 0 0):=fun _ _ h=>by cases h
structure HandT (B:Nat) (w:World) (lv:Value) (ws:List TgV) (pv:Value) (p:List Int):Prop where
 hl:TRow w B lv ws
 hp:IRow w B pv p
 hb:B≤w.heap.size
abbrev Qjv (lv:Value) (a:Nat) (pv:Value) (b:Nat):Nat→Option Nat:=Qkp lv a pv b (.slice none 0 0) 0
section
variable {B:Nat} {w w':World} {lv pv:Value} {ws:List TgV} {p:List Int}
theorem HandT.apart (h:HandT B w lv ws pv p):Qn3 lv pv:=Qx5 h.hl h.hp (by decide)
theorem HandT.keep (h:HandT B w lv ws pv p) (hk:Keeps (Qjv lv (ws.length*5) pv p.length) w w'):HandT B w' lv ws pv p :=
 ⟨hk.row h.hl (fun _ hk=>.inr ⟨_,Qqc hk,xA _⟩),hk.row h.hp (fun _ hk=>.inr ⟨_,Qua hk h.apart,by omega⟩),xQ h.hb hk.size⟩
theorem HandT.later (h:HandT B w lv ws pv p) (hb:Below w.heap.size w w'):HandT B w' lv ws pv p:=h.keep (Keeps.of_below hb)
theorem HandT.path (h:HandT B w lv ws pv p) {pv':Value} {q:Int} (hk:Keeps (pre pv (p.length*1)) w w') (hp:IRow w' B pv' (p ++ [q])) :
  HandT B w' lv ws pv' (p ++ [q])∧Keeps (Qjv lv (ws.length*5) pv p.length) w w':=by
 have hK:Keeps (Qjv lv (ws.length*5) pv p.length) w w':=by
  refine (Keeps.refl _ w).trans hk ?_
  rw [Nat.mul_one]
  exact Zky h.apart
 exact ⟨⟨(h.keep hK).hl,hp,(h.keep hK).hb⟩,hK⟩
theorem Qh6 {a b k:Nat} {v:TV} (h:HandT B w lv ws pv p) (hk:w.heap[k]? = some (trO v)):Qjv lv a pv b k=none :=
 Qgx (Qgy h.hl hk (by decide)) (Qgy h.hp hk (by decide)) (by intro h;cases h)
theorem Qh7 {a b k:Nat} {cur:Array Value} (h:HandT B w lv ws pv p) (hk:w.heap[k]? = some (.cells cur 119 (0,0))):Qjv lv a pv b k=none :=
 Qgx (Qgy h.hl hk (by decide)) (Qgy h.hp hk (by decide)) (by intro h;cases h)
theorem Qhn {a b k:Nat} (h:HandT B w lv ws pv p) (hk:k<B):Qjv lv a pv b k=none :=
 Qgx (fun e=>by have:=(h.hl.lt k e).1;omega) (fun e=>by have:=(h.hp.lt k e).1;omega) (by intro h;cases h)
theorem Qkr {a b k:Nat} (h:HandT B w lv ws pv p) (hk:w.heap.size≤k):Qjv lv a pv b k=none :=
 Qgx (fun e=>by have:=(h.hl.lt k e).2;omega) (fun e=>by have:=(h.hp.lt k e).2;omega) (by intro h;cases h)
theorem Qi2 {lv' pv':Value} {a a' b b':Nat} (h:HandT B w lv ws pv p) (hl:Later w lv lv') (hp:Later w pv pv') (ha:a≤a') (hb:b≤b'):Qi1 w.heap.size (Qjv lv a pv b) (Qjv lv' a' pv' b') :=
 Qx6 hl hp (Later.refl _ _) ha hb (xA _) h.apart (Qr6 _) (Qr6 _)
end
def Qvo (ps:List Tr) (m:Nat) (t:Tr) (p:List Int):List Tgm:=(Zd6 ps m t p).map fun z=>((m:Int),z)
def Qy2 (ps:List Tr) (m:Nat) (t:Tr) (p:List Int):List Tgm:=(Zb7 ps m t p).map fun z=>((m:Int),z)
def Zb9 (ps:List Tr) (m:Nat) (l:List Tr) (p:List Int):List Tgm:=(Qnh ps m l 0 p).map fun z=>((m:Int),z)
theorem Zca (ps:List Tr) (m:Nat) (t:Tr) (p:List Int):Qvo ps m t p=Qy2 ps m t p ++ Zb9 ps m t.kids p:=by unfold Qvo Qy2 Zb9;rw [Qni,List.map_append]
theorem Qr7 {ps:List Tr} {m:Nat} {l:List Tr} {p:List Int} {k:Nat} {t:Tr} (h:l[k]? = some t):Zb9 ps m (l.take (k+1)) p=Zb9 ps m (l.take k) p ++ Qvo ps m t (p ++ [(k:Int)]):=by unfold Zb9 Qvo;rw [Zb8 ps m l p k t h,List.map_append]
theorem Zjj {ps:List Tr} {m:Nat} {t:Tr} {p:List Int} (h:¬ (t.kind=16∨t.kind=9)):Qy2 ps m t p = []:=by unfold Qy2 Zb7;rw [xN h];rfl
theorem Zgb {ps:List Tr} {m:Nat} {t:Tr} {p:List Int} (h:t.kind=16∨t.kind=9):Qy2 ps m t p = [((m:Int),p,(Qby ps m t.text).1,(Qby ps m t.text).2.1,!(Qby ps m t.text).2.2)]:=by unfold Qy2 Zb7;rw [xO h];rfl
theorem Qvp (ps:List Tr) (m:Nat) (t:Tr) (p:List Int):(Qy2 ps m t p).length≤1:=by unfold Qy2;rw [List.length_map];exact Qvl ps m t p
theorem Qvq (ps:List Tr) (m:Nat) (l:List Tr) (p:List Int):(Zb9 ps m l p).length≤Qam l:=by unfold Zb9;rw [List.length_map];exact Qqb ps m l 0 p
def TPost (B:Nat) (lv:Value) (ws:List TgV) (pv:Value) (p:List Int) (ps:List Tr) (m:Nat) (t:Tr) (w:World) (e:Ending) (w':World):Prop :=
 ∃ v' vs',e = .returned v'∧TRow w' B v' (ws ++ vs')∧TarsAt w' w.heap.size vs' (Qvo ps m t p)∧Keeps (Qjv lv (ws.length*5) pv p.length) w w'∧Later w lv v'
def Zk0 (B:Nat) (lv:Value) (ws:List TgV) (pv:Value) (p:List Int) (zs:List Tgm) (w0:World) (l:Value) (wr:World):Prop :=
 ∃ vs',TRow wr B l (ws ++ vs')∧TarsAt wr w0.heap.size vs' zs∧Keeps (Qjv lv (ws.length*5) pv p.length) w0 wr∧Later w0 lv l
theorem Zjk {B:Nat} {lv v' pv:Value} {ws:List TgV} {p:List Int} {w w2 w3:World} {y:TgV} {z:Tgm} {o:Obj}
  (hh:HandT B w lv ws pv p) (hb:Below w.heap.size w w2) (hv:Zji w2 w.heap.size y z) (hown:w3.ownsRow B 121 5 v' (ws.length+1) (Qff ws ++ tgC y)) (hk:Keeps (pre lv (ws.length*5)) (w2.alloc o) w3)
  (hl:Later (w2.alloc o) lv v'):Zk0 B lv ws pv p [z] w v' w3:=by
 have hb3:=hb.trans ((Qe2 w2 o).mono hb.size)
 refine ⟨[y],?_,?_,(Keeps.of_below hb3).trans hk Zkz,fun g hg=>(hl g hg).imp id fun h=>xQ hb3.size h⟩
 ·unfold TRow
  rw [xB,Qqd]
  exact (show Qff ws ++ tgC y=Qff ws ++ Qff [y] from by simp [Qff]) ▸ hown
 ·refine (TarsAt.one hv).step fun v q h=>?_
  exact (h.keep (Qe2 w2 o)).app hk fun g hg _=>Qc2 fun e=>by
   have:=(hh.hl.lt g e).2
   omega
end Go.Proofs.YtclkilljmdkfaaaGreat

import Derived.Test.YtgnnmgfgfihljaaGreatPk02
import Derived.StillTailTactics
namespace Go.Proofs.YtgnnmgfgfihljaaGreat
open Go.RowKit
set_option linter.unusedVariables false
set_option maxHeartbeats 6400000
set_option maxRecDepth 20000
theorem ay {v:World} {p:Nat} {T:TypeId} {a b c:Value} (h:v.heap[p]?=some (.cells #[a,b,c] T (0,0))):
 (v.cell? ⟨p,0,none⟩=some a∧v.cell? ⟨p,1,none⟩=some b∧v.cell? ⟨p,2,none⟩=some c)∧v.frozen? ⟨p,0,none⟩=false∧v.frozen? ⟨p,1,none⟩=false∧v.frozen? ⟨p,2,none⟩=false:=by
 simp [World.cell?,World.frozen?,h]
theorem Bg {v:World} {p:Nat} {T:TypeId} {a b c u:Value} (h:v.heap[p]?=some (.cells #[a,b,c] T (0,0))):(v.setCell ⟨p,0,none⟩ u).heap[p]?=some (.cells #[u,b,c] T (0,0)):=by
 simp [World.setCell,Array.getElem?_modify,h]
theorem BY {v:World} {p:Nat} {T:TypeId} {a b c u:Value} (h:v.heap[p]?=some (.cells #[a,b,c] T (0,0))):(v.setCell ⟨p,2,none⟩ u).heap[p]?=some (.cells #[a,b,u] T (0,0)):=by
 simp [World.setCell,Array.getElem?_modify,h]
theorem gb3 (v:World) (g:Nat) (x y z:Value):v.grownBy (((v.setCell ⟨g,0,none⟩ x).setCell ⟨g,1,none⟩ y).setCell ⟨g,2,none⟩ z) (some g):=
 ak (ak (ak (au v (some g)) 0 x) 1 y) 2 z
theorem fu {B:Nat} {a w:World} {g:Nat} (h:Below B a w) (hg:B<=g) (x y z:Value):Below B a (((w.setCell ⟨g,0,none⟩ x).setCell ⟨g,1,none⟩ y).setCell ⟨g,2,none⟩ z):=
 ((h.setCell (p:=⟨g,0,none⟩) hg x).setCell (p:=⟨g,1,none⟩) hg y).setCell (p:=⟨g,2,none⟩) hg z
theorem aK {e:TypeId} {size:Nat} {w:World} {base base' n:Nat} {v:Value} {cs:List Value} (h:w.ownsRow base e size v n cs) (hb:base'<=base):w.ownsRow base' e size v n cs:=by
 obtain ⟨h1,h2⟩:=h;refine ⟨h1,?_⟩;rcases h2 with h2 | ⟨g,cap,cur,h2,hb',r⟩
 ·exact .inl h2
 ·exact .inr ⟨g,cap,cur,h2,by omega,r⟩
theorem bX {e:TypeId} {size:Nat} {w w':World} {base n r:Nat} {v:Value} {cs:List Value} (h:w.ownsRow base e size v n cs) (hg:w.grownBy w' (some r)) (hr:r<base):w'.ownsRow base e size v n cs:=by
 refine h.kept hg ?_;rcases h.2 with ⟨rfl,_⟩ | ⟨g,cap,cur,rfl,hb',_⟩
 ·exact .inl rfl
 ·refine .inr ?_;simp [Value.ownBlock];omega
theorem ag {e:TypeId} {size:Nat} {w w':World} {base n:Nat} {v:Value} {cs:List Value} (h:w.ownsRow base e size v n cs) (hb:Below w.heap.size w w'):w'.ownsRow base e size v n cs:=by
 obtain ⟨h1,h2⟩:=h;refine ⟨h1,?_⟩;rcases h2 with h2 | ⟨g,cap,cur,h2,hb',hg,r⟩
 ·exact .inl h2
 ·refine .inr ⟨g,cap,cur,h2,hb',?_,r⟩;exact ae hg hb (hpl hg)
theorem uV {P:Program} (w:World) {o:Oper} {a:Act} {K:Act->World->Prop} {Q:Exit->Act->World->Prop} (s x:Operand) (t:TypeId)
 (ho:o.op=.call { callee:=.builtin .append,args:=#[s,x],argTypes:=#[t,t] }) (e:TypeId) (ht:P.underlying t=some (.slice e)) (z:Value) (size bytes:Nat)
 (hi:(P.info? e).map (fun i=>(i.zero,i.size,i.bytes))=some (some z,size,bytes)) (hzs:z.cells.size=size) (hsz:0<size)
 (base n:Nat) (v:Value) (cs:List Value) (hs:a.eval s=v) (hown:w.ownsRow base e size v n cs)
 (b off m c:Nat) (ys:List Value) (hx:a.eval x=.slice (some ⟨b,off,none⟩) m c) (hm:0<m) (hy:RowC w (some ⟨b,off,none⟩) m size ys) (h1:∀u∈ys,u.oneCell'=true)
 (hbd:(n+m)*bytes<=140737488355328) (hbd':n+m<=9223372036854775807)
 (hbw:base<=w.heap.size) (B:Nat) (W:World) (hb:Below B W w) (hB:B<=base)
 (h:∀g' cap' w',w'.ownsRow base e size (.slice (some ⟨g',0,none⟩) (n+m) cap') (n+m) (cs++ys)->Below B W w'->K (a.put o.dst (.slice (some ⟨g',0,none⟩) (n+m) cap')) w'):o.wp P a w K Q:=by
 obtain ⟨i0,hi,hz0,hz1,hz2⟩:=info_parts hi;refine wp_append_own w s x t ho base e i0 z size bytes ht hi hz0 hz1 hz2 hzs hsz v n _ hs hown ⟨b,off,none⟩ m c ys hx hy.1 (xr hy) h1 (by unfold maxLen;omega) hbd (by omega) ?_;intro v' w' h1 h2 h3;have hbl:=hb.grown h2 (by omega) (fun k hk=>by have:=(hown.lt k hk).1;omega);rcases h1.2 with ⟨e1,e2⟩ | ⟨g,cap,cur,e1,r⟩
 ·omega
 ·subst e1;exact h g cap w' h1 hbl
theorem qH {P:Program} (w:World) {ops:Array Oper} {rest:List Oper} {o:Oper} {a:Act} {Q:Exit->Act->World->Prop} (hgd:o.guard=none) (s x:Operand) (t:TypeId)
 (ho:o.op=.call { callee:=.builtin .append,args:=#[s,x],argTypes:=#[t,t] }) (e:TypeId) (ht:P.underlying t=some (.slice e)) (z:Value) (size bytes:Nat)
 (hi:(P.info? e).map (fun i=>(i.zero,i.size,i.bytes))=some (some z,size,bytes)) (hzs:z.cells.size=size) (hsz:0<size)
 (base n:Nat) (v:Value) (cs:List Value) (hs:a.eval s=v) (hown:w.ownsRow base e size v n cs)
 (b off m c:Nat) (ys:List Value) (hx:a.eval x=.slice (some ⟨b,off,none⟩) m c) (hm:0<m) (hy:RowC w (some ⟨b,off,none⟩) m size ys) (h1:∀u∈ys,u.oneCell'=true)
 (hbd:(n+m)*bytes<=140737488355328) (hbd':n+m<=9223372036854775807)
 (hbw:base<=w.heap.size) (B:Nat) (W:World) (hb:Below B W w) (hB:B<=base)
 (h:∀g' cap' w',w'.ownsRow base e size (.slice (some ⟨g',0,none⟩) (n+m) cap') (n+m) (cs++ys)->Below B W w'->wpList P ops Q rest (a.put o.dst (.slice (some ⟨g',0,none⟩) (n+m) cap')) w'):wpList P ops Q (o::rest) a w:=
 wpList_plain hgd fun _ hK=>uV w s x t ho e ht z size bytes hi hzs hsz base n v cs hs hown b off m c ys hx hm hy h1 hbd hbd' hbw B W hb hB fun g' cap' w' h2 h3=>hK _ _ (h g' cap' w' h2 h3)
theorem ka {e:TypeId} {size:Nat} {w:World} {base n:Nat} {v:Value} {cs:List Value} (h:w.ownsRow base e size v n cs):w.drew.ownsRow base e size v n cs:=h
def CurAt (e:TypeId) (w:World) (g m:Nat) (cs:List Value):Prop:=cs.length=m∧∃cur,w.heap[g]?=some (.cells cur e (0,0))∧cur.toList.take m=cs
theorem CurAt.lt {e:TypeId} {w:World} {g m:Nat} {cs:List Value} (h:CurAt e w g m cs):g<w.heap.size:=by
 obtain ⟨_,cur,h2,_⟩:=h;exact (hpl h2)
theorem CurAt.cell {e:TypeId} {w:World} {g m:Nat} {cs:List Value} (h:CurAt e w g m cs) (j:Nat) (u:Value) (hj:cs[j]?=some u):w.cell? ⟨g,j,none⟩=some u:=by
 obtain ⟨h1,cur,h2,h3⟩:=h;subst h3;rw [List.getElem?_take] at hj;split at hj
 ·simp only [World.cell?,h2];simpa using hj
 ·cases hj
theorem CurAt.free {e:TypeId} {w:World} {g m:Nat} {cs:List Value} (h:CurAt e w g m cs) (j:Nat):w.frozen? ⟨g,j,none⟩=false:=by
 obtain ⟨h1,cur,h2,h3⟩:=h;simp [World.frozen?,h2]
theorem CurAt.store {e:TypeId} {w:World} {g m:Nat} {cs:List Value} (h:CurAt e w g m cs) (j:Nat) (u:Value):CurAt e (w.setCell ⟨g,j,none⟩ u) g m (cs.set j u):=by
 obtain ⟨h1,cur,h2,h3⟩:=h;refine ⟨by simpa using h1,cur.setIfInBounds j u,by simp [World.setCell,Array.getElem?_modify,h2],?_⟩;subst h3;rw [Array.toList_setIfInBounds,List.take_set]
theorem CurAt.gb {e:TypeId} {w w':World} {g m r:Nat} {cs:List Value} (h:CurAt e w g m cs) (hg:w.grownBy w' (some r)) (hne:g≠r):CurAt e w' g m cs:=by
 obtain ⟨h1,cur,h2,h3⟩:=h;exact ⟨h1,cur,aQ h2 hg hne,h3⟩
theorem CurAt.of_own {e:TypeId} {size:Nat} {w:World} {base g n cap:Nat} {cs:List Value} (h:w.ownsRow base e size (.slice (some ⟨g,0,none⟩) n cap) n cs):CurAt e w g (n*size) cs∧base<=g:=by
 obtain ⟨h1,h2⟩:=h;rcases h2 with ⟨h2,_⟩ | ⟨g',cap',cur,h2,hb,hg,_,_,_,ht⟩
 ·cases h2
 ·cases h2;exact ⟨⟨h1,cur,hg,ht⟩,hb⟩
theorem dv {e:TypeId} {size:Nat} {w:World} {base n:Nat} {a:Option Addr} {cap:Nat} {cs:List Value} (h:w.ownsRow base e size (.slice a n cap) n cs):RowC w a n size cs:=by
 cases a with
 | none=>
  obtain ⟨h1,h2⟩:=h;rcases h2 with ⟨_,h2⟩ | ⟨g',cap',cur,h2,_⟩
  ·subst h2;exact ⟨h1,.inl rfl⟩
  ·cases h2
 | some q=>
  have hq:q=⟨q.block,0,none⟩:=by
   obtain ⟨h1,h2⟩:=h;rcases h2 with ⟨h2,_⟩ | ⟨g',cap',cur,h2,_⟩
   ·cases h2
   ·cases h2;rfl
  rw [hq] at h |-;have:=CurAt.of_own h;refine ⟨h.1,.inr ⟨q.block,0,rfl,this.1.lt,fun i u hu=>?_⟩⟩;rw [Nat.zero_add];exact this.1.cell i u hu
theorem bC {e:TypeId} {size:Nat} {w:World} {base n cap:Nat} {q:Addr} {cs:List Value} (h:w.ownsRow base e size (.slice (some q) n cap) n cs):q=⟨q.block,0,none⟩∧base<=q.block∧q.block<w.heap.size:=by
 rcases h.2 with ⟨h2,_⟩ | ⟨g',cap',cur,h2,hb,hg,_⟩
 ·cases h2
 ·cases h2;exact ⟨rfl,hb,(hpl hg)⟩
theorem eJ {a b c:World} {r:Option Nat} (h:a.grownBy b r) (k:b.grownBy c r):a.grownBy c r:=
 ⟨k.os.trans h.os,k.tape.trans h.tape,k.output.trans h.output,Nat.le_trans h.size k.size,fun i hi hn=>(k.block i (Nat.lt_of_lt_of_le hi h.size) hn).trans (h.block i hi hn)⟩
theorem ab {w w':World} {b:Nat} {o:Obj} (h:Hid (w.heap[b]?=some o)) (n:Below w.heap.size w w'):Hid (w'.heap[b]?=some o):=ae h.out n (hpl h.out)
theorem ax {e:TypeId} {size:Nat} {w:World} {base g n cap:Nat} {cs:List Value} (h:w.ownsRow base e size (.slice (some ⟨g,0,none⟩) n cap) n cs) (j:Nat) (u:Value):
 (w.setCell ⟨g,j,none⟩ u).ownsRow base e size (.slice (some ⟨g,0,none⟩) n cap) n (cs.set j u):=by
 obtain ⟨h1,h2⟩:=h;refine ⟨by simpa using h1,?_⟩;rcases h2 with ⟨h2,_⟩ | ⟨g',cap',cur,h2,hb,hg,hc1,hc2,hc3,ht⟩
 ·cases h2
 ·cases h2;refine .inr ⟨g,cap,cur.setIfInBounds j u,rfl,hb,by simp [World.setCell,Array.getElem?_modify,hg],hc1,hc2,by simpa using hc3,?_⟩;subst ht;rw [Array.toList_setIfInBounds,List.take_set]
theorem aw {e:TypeId} {size:Nat} {w:World} {base g n cap:Nat} {cs:List Value} (h:w.ownsRow base e size (.slice (some ⟨g,0,none⟩) n cap) n cs) (j:Nat) (u:Value) (hj:cs[j]?=some u):w.cell? ⟨g,j,none⟩=some u:=
 (CurAt.of_own h).1.cell j u hj
theorem aD {e:TypeId} {size:Nat} {w:World} {base g n cap:Nat} {cs:List Value} (h:w.ownsRow base e size (.slice (some ⟨g,0,none⟩) n cap) n cs) (j:Nat):w.frozen? ⟨g,j,none⟩=false:=
 (CurAt.of_own h).1.free j
theorem eW {a b c:World} {r:Option Nat} (h:a.grownBy b r) (k:Below b.heap.size b c):a.grownBy c r:=
 ⟨k.os.trans h.os,k.tape.trans h.tape,k.output.trans h.output,Nat.le_trans h.size k.size,fun i hi hn=>(k.block i (Nat.lt_of_lt_of_le hi h.size)).trans (h.block i hi hn)⟩
theorem mE {a b:World} {r g o:Nat} {x:Option Value} (h:a.grownBy b (some r)) (hc:a.cell? ⟨g,o,none⟩=x) (hg:g<a.heap.size) (hne:g≠r):b.cell? ⟨g,o,none⟩=x:=
 (World.cell?_of_block (h.block g hg (by simpa using hne))).trans hc
theorem zP {a b:World} {r n size:Nat} {q:Option Addr} {cs:List Value} (h:RowC a q n size cs) (hg:a.grownBy b (some r)) (hr:a.heap.size<=r∨∀x,q=some x->x.block≠r):RowC b q n size cs:=by
 obtain ⟨h1,h2⟩:=h;refine ⟨h1,?_⟩;rcases h2 with h2 | ⟨bk,off,rfl,hlt,hc⟩
 ·exact .inl h2
 ·refine .inr ⟨bk,off,rfl,Nat.lt_of_lt_of_le hlt hg.size,fun i u hu=>?_⟩;exact mE hg (hc i u hu) hlt (by
   rcases hr with hr | hr
   ·omega
   ·exact hr _ rfl)
theorem cY {P:Program} {id:Nat} {Q:Exit->Act->World->Prop} {a:Act} {w:World} {l:List Oper} (n:Nat) (hm:P.follows .mixedOrders=true) (hB:Region.lexTailB .any l.toArray n=true)
 (h:wpStill P l.toArray w.drew (fun a'=>wpList P l.toArray Q (l.drop n) a' w.drew) (l.take n) a):(Code.region id l.toArray true).wp P Q a w:=
 wp_region_still_tail n hm hB h
theorem vp (a:Option Addr) (len cap:Nat) (zs:List Int) (va lv n ix rv:Int) (w:World) (hl:len<=1048576) (hc:len<=cap) (hm:cap<=9223372036854775807) (hv0:0<=va) (hv1:va<=18446744073709551615)
 (h0:0<=lv) (h2:lv<=2) (hn0:0<=n) (hn1:n<17592186044416) (hB:Byt w a len zs) (hix:Hid (dk va lv=ix)) (hib:0<=ix∧ix<=7) (hrv:Hid (rdV zs (64*n+8*ix) 8=rv)) (hrb:0<=rv∧rv<=18446744073709551615)
 (hg:Hid (di len (64*n+8*ix) 8=true)) (hk:Hid (bu rv lv=1)) (NX:Int × Int × Int × List dG) (hlen:NX.2.2.2.length<=2) (h1:1<=lv)
 (hnx:Hid (∀w':World,Byt w' a len zs->
   Calls Tryz.prog 154 #[.slice a len cap,.int .u64 (dg rv),.int .i64 (lv-1),.int .u64 va] w' fun e w''=>jN w'.heap.size w'' e NX∧Below w'.heap.size w' w'')):
 Calls Tryz.prog 154 #[.slice a len cap,.int .u64 n,.int .i64 lv,.int .u64 va] w fun e w'=>
  jN w.heap.size w' e (NX.1,NX.2.1,NX.2.2.1,(lv,64*n+8*ix,rv)::NX.2.2.2)∧Below w.heap.size w w':=by
 have hz:=hB.1;have H8:Hid ((w.alloc (Obj.cells #[Value.int .i64 0,Value.int .i64 0,Value.int .u64 0,Value.slice none 0 0] 253)).heap[w.heap.size]?=some (.cells #[Value.int .i64 0,Value.int .i64 0,Value.int .u64 0,Value.slice none 0 0] 253 (0,0))):=heap_alloc_new _ _;have n1:=(Below.refl w.heap.size w).alloc nle (Obj.cells #[Value.int .i64 0,Value.int .i64 0,Value.int .u64 0,Value.slice none 0 0] 253);have l1:w.heap.size<(w.alloc (Obj.cells #[Value.int .i64 0,Value.int .i64 0,Value.int .u64 0,Value.slice none 0 0] 253)).heap.size:=by simp
 go_enter Tryz.func154,Tryz.ntmps154;go_wp2_with fail;generalize w.alloc (Obj.cells #[Value.int .i64 0,Value.int .i64 0,Value.int .u64 0,Value.slice none 0 0] 253)=v1 at H8 n1 l1 |-;refine (jc va lv v1 hv0 hv1 h0 h2).mono ?_;rintro e w' ⟨rfl,nq,rfl⟩;rw [hix.out];have n2:=below_drewN n1 nq;have H9:Hid ((v1.drewN nq).heap[w.heap.size]?=some (.cells #[Value.int .i64 0,Value.int .i64 0,Value.int .u64 0,Value.slice none 0 0] 253 (0,0))):=H8;have l2:w.heap.size<(v1.drewN nq).heap.size:=l1;generalize v1.drewN nq=v2 at n2 H9 l2 |-;clear H8 l1 n1;go_wp2_with fail;refine (fM a len cap zs (64*n+8*ix) 8 v2 (hB.keep n2) hl hc hm (by omega) (by omega) (by omega)).mono ?_;rintro e v3 ⟨rfl,n3⟩;rw [hrv.out,hg.out];have n13:=bst n2 n3;have H10:Hid (v3.heap[w.heap.size]?=some (.cells #[Value.int .i64 0,Value.int .i64 0,Value.int .u64 0,Value.slice none 0 0] 253 (0,0))):=ae H9.out n3 l2;have l3:w.heap.size<v3.heap.size:=Nat.lt_of_lt_of_le l2 n3.size;clear H9 n2 n3 l2;go_wp2_with fail;have a4:=eY v3 #[Value.bool true,Value.int IntKind.u64 rv] 160;generalize v3.alloc (Obj.cells #[Value.bool true,Value.int IntKind.u64 rv] 160)=v4 at a4 |-;obtain ⟨l4,c4,n4⟩:=a4;have c41:v4.cell? ⟨v3.heap.size,1,none⟩=some (.int .u64 rv):=c4 1;have n14:=bst n13 n4;have H11:Hid (v4.heap[w.heap.size]?=some (.cells #[Value.int .i64 0,Value.int .i64 0,Value.int .u64 0,Value.slice none 0 0] 253 (0,0))):=ae H10.out n4 l3;clear c4 n13 n4 H10;refine (fj rv lv v4 hrb.1 hrb.2 (by omega) (by omega)).mono ?_;rintro e w' ⟨rfl,nk,rfl⟩;rw [hk.out];have n15:Below w.heap.size w (v4.drewN nk):=below_drewN n14 nk;have c51:(v4.drewN nk).cell? ⟨v3.heap.size,1,none⟩=some (.int .u64 rv):=c41;have H12:Hid ((v4.drewN nk).heap[w.heap.size]?=some (.cells #[Value.int .i64 0,Value.int .i64 0,Value.int .u64 0,Value.slice none 0 0] 253 (0,0))):=H11;have l5:v3.heap.size<(v4.drewN nk).heap.size:=l4;generalize v4.drewN nk=v5 at n15 c51 H12 l5 |-;clear n14 c41 H11 l4;go_wp2_with fail;refine (de rv v5 hrb.1 hrb.2).mono ?_;rintro e w' ⟨rfl,np,rfl⟩;have n16:Below w.heap.size w (v5.drewN np):=below_drewN n15 np;have c61:(v5.drewN np).cell? ⟨v3.heap.size,1,none⟩=some (.int .u64 rv):=c51;have H13:Hid ((v5.drewN np).heap[w.heap.size]?=some (.cells #[Value.int .i64 0,Value.int .i64 0,Value.int .u64 0,Value.slice none 0 0] 253 (0,0))):=H12;have l6:v3.heap.size<(v5.drewN np).heap.size:=l5;generalize v5.drewN np=v6 at n16 c61 H13 l6 |-;clear n15 c51 H12 l5;go_wp2_with fail;refine (hnx.out v6 (hB.keep n16)).mono ?_;rintro e v7 ⟨⟨a7,c7,rfl,r7,na7,sp7,nc7⟩,n7⟩;obtain ⟨x1,x2,x3,rs⟩:=NX;simp only at r7 na7 nc7 hlen |-;have n17:=bst n16 n7;have c71:=Below.cell2 n7 c61 l6;have H14:Hid (v7.heap[w.heap.size]?=some (.cells #[Value.int .i64 0,Value.int .i64 0,Value.int .u64 0,Value.slice none 0 0] 253 (0,0))):=ae H13.out n7 (by omega);have l7:v3.heap.size<v7.heap.size:=Nat.lt_of_lt_of_le l6 n7.size;clear n16 n7 c61 H13 l6;have l8:w.heap.size<v7.heap.size:=Nat.lt_trans l3 l7;go_wp2_with fail;have H15:Hid ((v7.alloc (Obj.cells #[Value.int .i64 x1,Value.int .i64 x2,Value.int .u64 x3,Value.slice a7 rs.length c7] 253)).heap[v7.heap.size]?=some (.cells #[Value.int .i64 x1,Value.int .i64 x2,Value.int .u64 x3,Value.slice a7 rs.length c7] 253 (0,0))):=heap_alloc_new _ _;have n8:=(Below.refl v7.heap.size v7).alloc nle (Obj.cells #[Value.int .i64 x1,Value.int .i64 x2,Value.int .u64 x3,Value.slice a7 rs.length c7] 253);have l9:v7.heap.size<(v7.alloc (Obj.cells #[Value.int .i64 x1,Value.int .i64 x2,Value.int .u64 x3,Value.slice a7 rs.length c7] 253)).heap.size:=by simp
 generalize v7.alloc (Obj.cells #[Value.int .i64 x1,Value.int .i64 x2,Value.int .u64 x3,Value.slice a7 rs.length c7] 253)=v8 at H15 n8 l9 |-;have n18:=bst n17 n8;have c81:=Below.cell2 n8 c71 l7;have H16:Hid (v8.heap[w.heap.size]?=some (.cells #[Value.int .i64 0,Value.int .i64 0,Value.int .u64 0,Value.slice none 0 0] 253 (0,0))):=ae H14.out n8 l8;have HR:Hid (RowC v8 a7 rs.length 3 (cj rs)):=r7.keep n8;have HN:Hid (a7=none->rs.length=0∧c7=0):=na7;have HSp:Hid (∀q,a7=some q->q.spot=none∧v6.heap.size<=q.block):=sp7;clear r7 na7 sp7 n17 n8 c71 H14;have q3:=(av H15.out).1.2.2.2;have p3:=(av H15.out).2.2.2.2;have ne1:v8.heap.size≠v3.heap.size:=by omega
 have ne2:v8.heap.size≠v7.heap.size:=by omega
 have ne4:v7.heap.size≠v8.heap.size:=by omega
 go_region_law (first
  | (refine kX _ (by rfl) (.tmp 59) (.tmp 61) 251 (by rfl) 261 Tryz.underlying251 (.agg #[.int .i64 0,.int .u64 0,.int .u64 0]) 3 24 Tryz.infoRec (by rfl) (by decide) v8.heap.size v8.heap.size 1 1 (cj [(lv,64*n+8*ix,rv)]) (by rfl) (OwnC.new 261 3 v8.drew (cj [(lv,64*n+8*ix,rv)]) 1 (by rfl) (by decide)) a7 rs.length c7 (cj rs) (by rfl) HN.out (fun q hq=>(HSp.out q hq).1) (RowC.keep (w:=v8) HR.out ((Below.refl _ _).drew.alloc nle _)) (kC rs) (by omega) (by omega) v8.heap.size v8 ((Below.refl _ _).drew.alloc nle _) nle ?_;intro g9 c9 v9 o9 n9;have q9:=Below.cell2 n9 q3 l9;have p9:=Below.froz2 n9 p3 l9)
  | (go_simp;go_at_call 175;refine (so _ _ _ _).mono ?_;rintro e w' ⟨rfl,rfl⟩))
 all_goals
  have k9:=ae H15.out n9 l9;have k9':=Cq (u:=.slice (some ⟨g9,0,none⟩) (1+rs.length) c9) k9;have m9:=ak (au v9 (some v7.heap.size)) 3 (.slice (some ⟨g9,0,none⟩) (1+rs.length) c9);have f9:=o9.facts;have n19:Below w.heap.size w v9:=bst n18 n9;have n110:=Below.gb n19 m9 (by omega) (Nat.lt_of_lt_of_le l9 n9.size);have b9:=aQ (ae H16.out n9 (by omega)) m9 (by omega);have r9:=o9.row.gb m9 (by omega);generalize v9.setCell ⟨v7.heap.size,3,none⟩ (.slice (some ⟨g9,0,none⟩) (1+rs.length) c9)=v10 at k9' m9 n110 b9 r9 |-;obtain ⟨⟨d0,d1,d2,d3⟩,e0,e1,e2,e3⟩:=av b9;obtain ⟨⟨t0,t1,t2,t3⟩,_⟩:=av k9';have HR9:Hid (RowC v10 (some ⟨g9,0,none⟩) (1+rs.length) 3 (cj [(lv,64*n+8*ix,rv)]++cj rs)):=r9;clear k9 k9' m9 q9 p9 o9 n9 n19 b9 r9 q3 p3 c81;go_wp2_with fail;refine bodyPost_ret (v:=.agg #[.int .i64 x1,.int .i64 x2,.int .u64 x3,.slice (some ⟨g9,0,none⟩) (1+rs.length) c9]) (by simp [results,Tryz.results154,go_sem,d0,d1,d2,d3]) rfl ?_;have e10:1+rs.length=rs.length+1:=Nat.add_comm _ _;rw [e10] at HR9 f9 |-;exact ⟨⟨some ⟨g9,0,none⟩,c9,rfl,RowC.gb HR9.out (gb4 v10 w.heap.size _ _ _ _) (by omega),(by intro h;cases h),(by intro q hq;cases hq;exact ⟨rfl,by show w.heap.size<=g9;omega⟩),f9.2.2.2.1⟩,nu n110 nle _ _ _ _⟩
theorem kK (zs:List Int) (va:Int):∀(l:Nat) (n:Int),(cE zs va l n).2.2.2.length<=l+1
 | 0,n=>by
  unfold cE;split
  ·simp
  ·split
   ·simp
   ·split <;> simp
 | l+1,n=>by
  unfold cE;split
  ·simp
  ·split
   ·simp
   ·split
    ·simp
    ·have:=kK zs va l (dg (rdV zs (64*n+8*dk va ((l+1:Nat):Int)) 8));simp only [List.length_cons];omega
theorem qF (a:Option Addr) (len cap:Nat) (zs:List Int) (va:Int) (hl:len<=1048576) (hc:len<=cap) (hm:cap<=9223372036854775807) (hv0:0<=va) (hv1:va<=18446744073709551615) (l:Nat):
 ∀(n lv:Int) (w:World),lv=l->l<=2->0<=n->n<17592186044416->Byt w a len zs->
 Calls Tryz.prog 154 #[.slice a len cap,.int .u64 n,.int .i64 lv,.int .u64 va] w fun e w'=>jN w.heap.size w' e (cE zs va l n)∧Below w.heap.size w w':=by
 induction l with
 | zero=>
  intro n lv w e hl2 hn0 hn1 hB;subst e;have hz:=hB.1;have hib:=pw va ((0:Nat):Int);have hrb:=lN zs (64*n+8*dk va ((0:Nat):Int)) 8 (by omega) hB.2.1;unfold cE;rw [hz];cases hg:di len (64*n+8*dk va ((0:Nat):Int)) 8
  ·rw [if_pos rfl];exact qf a len cap zs va _ n _ _ w hl hc hm hv0 hv1 (by omega) (by omega) hn0 hn1 hB rfl hib rfl hrb hg
  ·rw [if_neg (by simp)];rcases kD (rdV zs (64*n+8*dk va ((0:Nat):Int)) 8) ((0:Nat):Int) with hk | hk | hk
   ·rw [if_pos hk];exact qg a len cap zs va _ n _ _ w hl hc hm hv0 hv1 (by omega) (by omega) hn0 hn1 hB rfl hib rfl hrb hg hk
   ·exact absurd hk (ia _)
   ·rw [if_neg (by rw [hk];decide),if_pos hk];exact oG a len cap zs va _ n _ _ w hl hc hm hv0 hv1 (by omega) (by omega) hn0 hn1 hB rfl hib rfl hrb hg hk
 | succ l ih=>
  intro n lv w e hl2 hn0 hn1 hB;subst e;have hz:=hB.1;have hib:=pw va ((l+1:Nat):Int);have hrb:=lN zs (64*n+8*dk va ((l+1:Nat):Int)) 8 (by omega) hB.2.1;unfold cE;rw [hz];cases hg:di len (64*n+8*dk va ((l+1:Nat):Int)) 8
  ·rw [if_pos rfl];exact qf a len cap zs va _ n _ _ w hl hc hm hv0 hv1 (by omega) (by omega) hn0 hn1 hB rfl hib rfl hrb hg
  ·rw [if_neg (by simp)];rcases kD (rdV zs (64*n+8*dk va ((l+1:Nat):Int)) 8) ((l+1:Nat):Int) with hk | hk | hk
   ·rw [if_pos hk];exact qg a len cap zs va _ n _ _ w hl hc hm hv0 hv1 (by omega) (by omega) hn0 hn1 hB rfl hib rfl hrb hg hk
   ·rw [if_neg (by rw [hk];decide),if_neg (by rw [hk];decide)];have hp:=py (rdV zs (64*n+8*dk va ((l+1:Nat):Int)) 8);exact vp a len cap zs va _ n _ _ w hl hc hm hv0 hv1 (by omega) (by omega) hn0 hn1 hB rfl hib rfl hrb hg hk
     (cE zs va l (dg (rdV zs (64*n+8*dk va ((l+1:Nat):Int)) 8))) (by have:=kK zs va l (dg (rdV zs (64*n+8*dk va ((l+1:Nat):Int)) 8));omega) (by omega)
     (fun w' hB'=>ih _ _ w' (by omega) (by omega) hp.1 hp.2 hB')
   ·rw [if_neg (by rw [hk];decide),if_pos hk];exact oG a len cap zs va _ n _ _ w hl hc hm hv0 hv1 (by omega) (by omega) hn0 hn1 hB rfl hib rfl hrb hg hk
theorem mF (a:Option Addr) (len cap:Nat) (zs:List Int) (root va:Int) (w:World) (hl:len<=1048576) (hc:len<=cap) (hm:cap<=9223372036854775807) (hr0:0<=root) (hr1:root<=18446744073709551615) (hv0:0<=va) (hv1:va<=18446744073709551615) (hB:Byt w a len zs):
 Calls Tryz.prog 148 #[.slice a len cap,.int .u64 root,.int .u64 va] w fun e w'=>jN w.heap.size w' e (ce zs root va)∧Below w.heap.size w w':=by
 have H8:Hid ((w.alloc (Obj.cells #[Value.int .i64 0,Value.int .i64 0,Value.int .u64 0,Value.slice none 0 0] 253)).heap[w.heap.size]?=some (.cells #[Value.int .i64 0,Value.int .i64 0,Value.int .u64 0,Value.slice none 0 0] 253 (0,0))):=heap_alloc_new _ _;have n1:=(Below.refl w.heap.size w).alloc nle (Obj.cells #[Value.int .i64 0,Value.int .i64 0,Value.int .u64 0,Value.slice none 0 0] 253);have l1:w.heap.size<(w.alloc (Obj.cells #[Value.int .i64 0,Value.int .i64 0,Value.int .u64 0,Value.slice none 0 0] 253)).heap.size:=by simp
 unfold ce;cases hcn:cP va
 ·rw [if_pos rfl];have HC:Hid (cP va=false):=hcn;clear hcn;go_enter Tryz.func148,Tryz.ntmps148;go_wp2_with fail;generalize w.alloc (Obj.cells #[Value.int .i64 0,Value.int .i64 0,Value.int .u64 0,Value.slice none 0 0] 253)=v1 at H8 n1 l1 |-;refine (dQ va v1 hv0 hv1).mono ?_;rintro e w' ⟨rfl,nq,rfl⟩;rw [HC.out];have n2:Below w.heap.size w (v1.drewN nq):=below_drewN n1 nq;have H9:Hid ((v1.drewN nq).heap[w.heap.size]?=some (.cells #[Value.int .i64 0,Value.int .i64 0,Value.int .u64 0,Value.slice none 0 0] 253 (0,0))):=H8;generalize v1.drewN nq=v2 at n2 H9 |-;obtain ⟨⟨d0,d1,d2,d3⟩,e0,e1,e2,e3⟩:=av H9.out;go_wp2_with fail;refine bodyPost_ret (v:=.agg #[.int .i64 2,.int .i64 2,.int .u64 0,.slice none 0 0]) (by simp [results,Tryz.results148,go_sem,d0,d1,d2,d3]) rfl ⟨⟨none,0,rfl,RowC.nil _ _ _,fun _=>⟨rfl,rfl⟩,(by intro q hq;cases hq),Nat.zero_le _⟩,nu n2 nle _ _ _ _⟩
 ·rw [if_neg (by simp)];have HC:Hid (cP va=true):=hcn;clear hcn;obtain ⟨X,hX⟩:∃X,cE zs va 2 (root%17592186044416)=X:=⟨_,rfl⟩;have HX:Hid (cE zs va 2 (root%17592186044416)=X):=hX;rw [hX];clear hX;obtain ⟨x1,x2,x3,rs⟩:=X;go_enter Tryz.func148,Tryz.ntmps148;go_wp2_with fail;generalize w.alloc (Obj.cells #[Value.int .i64 0,Value.int .i64 0,Value.int .u64 0,Value.slice none 0 0] 253)=v1 at H8 n1 l1 |-;refine (dQ va v1 hv0 hv1).mono ?_;rintro e w' ⟨rfl,nq,rfl⟩;rw [HC.out];have n2:Below w.heap.size w (v1.drewN nq):=below_drewN n1 nq;have H9:Hid ((v1.drewN nq).heap[w.heap.size]?=some (.cells #[Value.int .i64 0,Value.int .i64 0,Value.int .u64 0,Value.slice none 0 0] 253 (0,0))):=H8;have l2:w.heap.size<(v1.drewN nq).heap.size:=l1;generalize v1.drewN nq=v2 at n2 H9 l2 |-;clear n1 H8 l1;go_wp2_with fail;refine (bJ root 0 43 1 17592186044416 v2 hr0 hr1 (by omega) (by omega) (by omega) (by omega) rfl rfl).mono ?_;rintro e w' ⟨rfl,nr,rfl⟩;have n3:Below w.heap.size w (v2.drewN nr):=below_drewN n2 nr;have H10:Hid ((v2.drewN nr).heap[w.heap.size]?=some (.cells #[Value.int .i64 0,Value.int .i64 0,Value.int .u64 0,Value.slice none 0 0] 253 (0,0))):=H9;have l3:w.heap.size<(v2.drewN nr).heap.size:=l2;generalize v2.drewN nr=v3 at n3 H10 l3 |-;clear n2 H9 l2;rw [Int.ediv_one];have hb0:0<=root%17592186044416∧root%17592186044416<17592186044416:=⟨Int.emod_nonneg _ (by omega),Int.emod_lt_of_pos _ (by omega)⟩;go_wp2_with fail;refine (qF a len cap zs va hl hc hm hv0 hv1 2 _ 2 v3 rfl (by omega) hb0.1 hb0.2 (hB.keep n3)).mono ?_;rintro e v4 ⟨hw,n4⟩;rw [HX.out] at hw;obtain ⟨a4,c4,rfl,r4,na4,sp4,nc4⟩:=hw;simp only at r4 na4 nc4 |-;have n14:=bst n3 n4;have H11:Hid _:=ae H10.out n4 l3;have l4:w.heap.size<v4.heap.size:=Nat.lt_of_lt_of_le l3 n4.size;obtain ⟨⟨d0,d1,d2,d3⟩,e0,e1,e2,e3⟩:=av (ae H10.out n4 l3);have HR4:Hid (RowC v4 a4 rs.length 3 (cj rs)):=r4;have HN4:Hid (a4=none->rs.length=0∧c4=0):=na4;have HS4:Hid (∀q,a4=some q->q.spot=none∧v3.heap.size<=q.block):=sp4;clear r4 na4 sp4 H10 H11 n3 n4;go_wp2_with fail;refine bodyPost_ret (v:=.agg #[.int .i64 x1,.int .i64 x2,.int .u64 x3,.slice a4 rs.length c4]) (by simp [results,Tryz.results148,go_sem,d0,d1,d2,d3]) rfl ⟨⟨a4,c4,rfl,RowC.gb' HR4.out (gb4 v4 w.heap.size _ _ _ _) (fun q hq=>by have:=(HS4.out q hq).2;omega),HN4.out,(fun q hq=>⟨(HS4.out q hq).1,by have:=(HS4.out q hq).2;omega⟩),nc4⟩,nu n14 nle _ _ _ _⟩
section
attribute [local go_sem ↓] Go.wp_at_zero Go.wp_at_succ
def dK (mode:Int) (sum mxr:Bool) (satp:Int):Value:=.agg #[.int .i64 mode,.bool sum,.bool mxr,.int .u64 satp]
theorem kH (mode:Int) (sum mxr:Bool) (satp:Int) (w:World) (h0:0<=satp) (h1:satp<=18446744073709551615):
 Calls Tryz.prog 146 #[dK mode sum mxr satp] w fun e w'=>e=.returned (.bool (onM mode satp))∧Below w.heap.size w w':=by
 unfold dK;have a1:=eY w #[.int .i64 mode,.bool sum,.bool mxr,.int .u64 satp] 205;go_enter Tryz.func146,Tryz.ntmps146;go_wp2_with fail;generalize w.alloc (Obj.cells #[.int .i64 mode,.bool sum,.bool mxr,.int .u64 satp] 205)=v1 at a1 |-;obtain ⟨l1,c1,n1⟩:=a1;have c10:=c1 0;clear c1;refine (bJ satp 60 63 1152921504606846976 16 v1 h0 h1 (by omega) (by omega) (by omega) (by omega) rfl rfl).mono ?_;rintro e w' ⟨rfl,nq,rfl⟩;cases hs:(satp/1152921504606846976%16 == 8)
 ·go_wp2_with fail;go_ret;exact ⟨aB (by simp [onM,hs]),below_drewN n1 nq⟩
 ·cases hm0:(mode == 0)
  ·go_wp2_with fail;go_ret;exact ⟨aB (by simp [onM,hs,hm0]),below_drewN n1 nq⟩
  ·go_wp2_with fail;go_ret;exact ⟨aB (by simp [onM,hs,hm0]),below_drewN n1 nq⟩
theorem nP (satp:Int) (w:World) (h0:0<=satp) (h1:satp<=18446744073709551615):
 Calls Tryz.prog 152 #[.int .u64 satp] w fun e w'=>e=.returned (.int .u64 (aG satp))∧∃n,w'=w.drewN n:=by
 go_enter Tryz.func152,Tryz.ntmps152;go_wp2_with fail;refine (bJ satp 44 59 17592186044416 65536 w h0 h1 (by omega) (by omega) (by omega) (by omega) rfl rfl).mono ?_;rintro e w' ⟨rfl,nq,rfl⟩;go_wp2_with fail;go_ret;exact ⟨rfl,nq,rfl⟩
theorem ig (kind:Int) (w:World):Calls Tryz.prog 150 #[.int .i64 kind] w fun e w'=>e=.returned (.int .i64 (dL kind))∧w'=w:=by
 by_cases k0:kind=0
 ·subst k0;go_enter Tryz.func150,Tryz.ntmps150;go_wp2_with fail;go_ret;exact ⟨rfl,rfl⟩
 by_cases k1:kind=1
 ·subst k1;go_enter Tryz.func150,Tryz.ntmps150;go_wp2_with fail;go_ret;exact ⟨rfl,rfl⟩
 have k0':(kind == 0)=false:=by simpa using k0
 have k1':(kind == 1)=false:=by simpa using k1
 go_enter Tryz.func150,Tryz.ntmps150;go_wp2_with fail;go_ret;exact ⟨cw (by simp [dL,k0,k1]),rfl⟩
theorem iU (kind:Int) (w:World):Calls Tryz.prog 159 #[.int .i64 kind] w fun e w'=>e=.returned (.int .i64 (bE kind))∧w'=w:=by
 by_cases k0:kind=0
 ·subst k0;go_enter Tryz.func159,Tryz.ntmps159;go_wp2_with fail;go_ret;exact ⟨rfl,rfl⟩
 by_cases k1:kind=1
 ·subst k1;go_enter Tryz.func159,Tryz.ntmps159;go_wp2_with fail;go_ret;exact ⟨rfl,rfl⟩
 have k0':(kind == 0)=false:=by simpa using k0
 have k1':(kind == 1)=false:=by simpa using k1
 go_enter Tryz.func159,Tryz.ntmps159;go_wp2_with fail;go_ret;exact ⟨cw (by simp [bE,k0,k1]),rfl⟩
def ez (r:Int × Int):Value:=.agg #[.int .i64 r.1,.int .u64 r.2]
theorem kJ {w:World} {g:Nat} {T:TypeId} {a b:Value} (h:w.heap[g]?=some (.cells #[a,b] T (0,0))):
 (w.cell? ⟨g,0,none⟩=some a∧w.cell? ⟨g,1,none⟩=some b)∧w.frozen? ⟨g,0,none⟩=false∧w.frozen? ⟨g,1,none⟩=false:=by
 simp [World.cell?,World.frozen?,h]
theorem zM {B:Nat} {a w:World} {g:Nat} (h:Below B a w) (hg:B<=g) (x y:Value):Below B a ((w.setCell ⟨g,0,none⟩ x).setCell ⟨g,1,none⟩ y):=
 (h.setCell (p:=⟨g,0,none⟩) hg x).setCell (p:=⟨g,1,none⟩) hg y
theorem lU (pte level mode:Int) (sum mxr:Bool) (satp kind va:Int) (w:World) (h0:0<=pte) (h1:pte<=18446744073709551615) (hv:0<=va) (hv':va<=18446744073709551615) (hl: -9223372036854775808<=level) (hl':level<=9223372036854775807):
 Calls Tryz.prog 153 #[.int .u64 pte,.int .i64 level,dK mode sum mxr satp,.int .i64 kind,.int .u64 va] w fun e w'=>e=.returned (ez (er pte level mode sum mxr kind va))∧Below w.heap.size w w':=by
 unfold dK er;cases hg:cF pte kind mode sum mxr
 ·rw [if_neg (by simp)];have HG:=hid hg;clear hg;go_enter Tryz.func153,Tryz.ntmps153;go_wp2_with fail;refine (jX pte kind mode sum mxr _ h0 h1).mono ?_;rintro e w' ⟨rfl,nq,rfl⟩;rw [HG.out];go_wp2_with (go_at_call 150;refine (ig kind _).mono ?_;rintro e w' ⟨rfl,rfl⟩);exact bodyPost_ret (v:=.agg #[.int .i64 (dL kind),.int .u64 0]) (by simp [results,Tryz.results153,go_sem]) rfl ⟨rfl,zM (below_drewN (((Below.refl _ _).alloc nle _).alloc (by simp) _) nq) (Nat.le_succ _) _ _⟩
 ·rw [if_pos rfl];have HG:=hid hg;clear hg;go_enter Tryz.func153,Tryz.ntmps153;go_wp2_with fail;refine (jX pte kind mode sum mxr _ h0 h1).mono ?_;rintro e w' ⟨rfl,nq,rfl⟩;rw [HG.out];go_wp2_with (go_at_call 173;refine (rE pte level va _ h0 h1 hv hv' hl hl').mono ?_;rintro e w' ⟨rfl,nr,rfl⟩);exact bodyPost_ret (v:=.agg #[.int .i64 0,.int .u64 (eX pte level va)]) (by simp [results,Tryz.results153,go_sem]) rfl ⟨rfl,zM (below_drewN (((Below.refl _ _).alloc nle _).alloc (by simp) _) (nq+nr)) (Nat.le_succ _) _ _⟩
theorem jg (r:Int × Int × Int × List dG) (v:Value) (mode:Int) (sum mxr:Bool) (satp kind va:Int) (w:World) (h0:0<=r.2.2.1) (h1:r.2.2.1<=18446744073709551615) (hv:0<=va) (hv':va<=18446744073709551615) (hl:0<=r.2.1) (hl':r.2.1<=2) (ho:v.oneCell'=true):
 Calls Tryz.prog 147 #[.agg #[.int .i64 r.1,.int .i64 r.2.1,.int .u64 r.2.2.1,v],dK mode sum mxr satp,.int .i64 kind,.int .u64 va] w fun e w'=>e=.returned (ez (cK r mode sum mxr kind va))∧Below w.heap.size w w':=by
 obtain ⟨c,l,p,rs⟩:=r;simp only at h0 h1 hl hl' |-;unfold cK;simp only;by_cases c2:c=2
 ·subst c2;rw [if_pos rfl];unfold dK;go_enter Tryz.func147,Tryz.ntmps147;go_wp2_with (go_at_call 150;refine (ig kind _).mono ?_;rintro e w' ⟨rfl,rfl⟩);exact bodyPost_ret (v:=.agg #[.int .i64 (dL kind),.int .u64 0]) (by simp [results,Tryz.results147,go_sem]) rfl ⟨rfl,(((Below.refl _ _).alloc nle _).alloc (by simp) _).alloc (by simp;omega) _⟩
 rw [if_neg c2];have c2':(c == 2)=false:=by simpa using c2
 by_cases c3:c=3
 ·subst c3;rw [if_pos rfl];clear c2 c2';unfold dK;go_enter Tryz.func147,Tryz.ntmps147;go_wp2_with (go_at_call 159;refine (iU kind _).mono ?_;rintro e w' ⟨rfl,rfl⟩);exact bodyPost_ret (v:=.agg #[.int .i64 (bE kind),.int .u64 0]) (by simp [results,Tryz.results147,go_sem]) rfl ⟨rfl,(((Below.refl _ _).alloc nle _).alloc (by simp) _).alloc (by simp;omega) _⟩
 rw [if_neg c3];have c3':(c == 3)=false:=by simpa using c3
 clear c2 c3;obtain ⟨⟨x1,x2⟩,hX⟩:∃X,er p l mode sum mxr kind va=X:=⟨_,rfl⟩;rw [hX];have HX:=hid hX;clear hX;have n1:=(((Below.refl w.heap.size w).alloc nle (Obj.cells #[.int .i64 c,.int .i64 l,.int .u64 p,v] 253)).alloc (by simp) (Obj.cells #[.int .i64 mode,.bool sum,.bool mxr,.int .u64 satp] 205)).alloc (by simp;omega) (Obj.cells #[.int .i64 0,.int .u64 0] 156);have H1:Hid (((((w.alloc (Obj.cells #[.int .i64 c,.int .i64 l,.int .u64 p,v] 253)).alloc (Obj.cells #[.int .i64 mode,.bool sum,.bool mxr,.int .u64 satp] 205)).alloc (Obj.cells #[.int .i64 0,.int .u64 0] 156))).heap[w.heap.size+1+1]?=some (.cells #[.int .i64 0,.int .u64 0] 156 (0,0))):=by
  have:=heap_alloc_new ((w.alloc (Obj.cells #[.int .i64 c,.int .i64 l,.int .u64 p,v] 253)).alloc (Obj.cells #[.int .i64 mode,.bool sum,.bool mxr,.int .u64 satp] 205)) (Obj.cells #[.int .i64 0,.int .u64 0] 156);simp only [World.size_alloc] at this;exact this
 have l1:w.heap.size+1+1<((((w.alloc (Obj.cells #[.int .i64 c,.int .i64 l,.int .u64 p,v] 253)).alloc (Obj.cells #[.int .i64 mode,.bool sum,.bool mxr,.int .u64 satp] 205)).alloc (Obj.cells #[.int .i64 0,.int .u64 0] 156))).heap.size:=by simp
 unfold dK;go_enter Tryz.func147,Tryz.ntmps147;go_wp2_with fail;generalize ((w.alloc (Obj.cells #[.int .i64 c,.int .i64 l,.int .u64 p,v] 253)).alloc (Obj.cells #[.int .i64 mode,.bool sum,.bool mxr,.int .u64 satp] 205)).alloc (Obj.cells #[.int .i64 0,.int .u64 0] 156)=v1 at n1 H1 l1 |-;refine (lU p l mode sum mxr satp kind va v1 h0 h1 hv hv' (by omega) (by omega)).mono ?_;rw [HX.out];rintro e v2 ⟨rfl,n2⟩;have n12:=bst n1 n2;obtain ⟨⟨d0,d1⟩,e0,e1⟩:=kJ (ae H1.out n2 l1);unfold ez;simp only;clear n1 n2 H1;go_wp2_with fail;exact bodyPost_ret (v:=.agg #[.int .i64 x1,.int .u64 x2]) (by simp [results,Tryz.results147,go_sem,d0,d1]) rfl ⟨rfl,zM n12 (by omega) _ _⟩
theorem qx (zs:List Int) (va:Int) (h:∀i:Nat,0<=zs[i]?.getD 0∧zs[i]?.getD 0<=255):∀(l:Nat) (n:Int),l<=2->
 0<=(cE zs va l n).2.2.1∧(cE zs va l n).2.2.1<=18446744073709551615∧0<=(cE zs va l n).2.1∧(cE zs va l n).2.1<=2
 | 0,n,hl=>by
  unfold cE;have hb:=lN zs (64*n+8*dk va ((0:Nat):Int)) 8 (by omega) h;split
  ·simp
  ·split
   ·simp
   ·split
    ·exact ⟨hb.1,hb.2,by simp,by simp⟩
    ·simp
 | l+1,n,hl=>by
  unfold cE;have hb:=lN zs (64*n+8*dk va ((l+1:Nat):Int)) 8 (by omega) h;split
  ·exact ⟨by simp,by simp,by show (0:Int)<=((l+1:Nat):Int);omega,by show ((l+1:Nat):Int)<=2;omega⟩
  ·split
   ·exact ⟨by simp,by simp,by show (0:Int)<=((l+1:Nat):Int);omega,by show ((l+1:Nat):Int)<=2;omega⟩
   ·split
    ·exact ⟨hb.1,hb.2,by show (0:Int)<=((l+1:Nat):Int);omega,by show ((l+1:Nat):Int)<=2;omega⟩
    ·exact qx zs va h l _ (by omega)
theorem qy (zs:List Int) (root va:Int) (h:∀i:Nat,0<=zs[i]?.getD 0∧zs[i]?.getD 0<=255):
 0<=(ce zs root va).2.2.1∧(ce zs root va).2.2.1<=18446744073709551615∧0<=(ce zs root va).2.1∧(ce zs root va).2.1<=2:=by
 unfold ce;split
 ·simp
 ·exact qx zs va h 2 _ (by omega)
theorem rG (a:Option Addr) (len cap:Nat) (zs:List Int) (mode:Int) (sum mxr:Bool) (satp kind va:Int) (w:World) (hl:len<=1048576) (hc:len<=cap) (hm:cap<=9223372036854775807) (hs0:0<=satp) (hs1:satp<=18446744073709551615) (hv0:0<=va) (hv1:va<=18446744073709551615) (hB:Byt w a len zs):
 Calls Tryz.prog 116 #[.slice a len cap,dK mode sum mxr satp,.int .i64 kind,.int .u64 va] w fun e w'=>e=.returned (ez (gM zs mode sum mxr satp kind va))∧Below w.heap.size w w':=by
 by_cases hbad:kind<0∨2<kind∨mode<0∨2<mode
 ·have hp:gM zs mode sum mxr satp kind va=(63,0):=by unfold gM;rw [if_pos hbad]
  rw [hp];unfold dK ez;clear hp;rcases (show kind<0∨(0<=kind∧2<kind)∨(0<=kind∧kind<=2∧mode<0)∨(0<=kind∧kind<=2∧0<=mode∧2<mode) by omega) with h | ⟨h,h'⟩ | ⟨h,h',h''⟩ | ⟨h,h',h'',h3⟩;all_goals
   clear hbad;go_enter Tryz.func116,Tryz.ntmps116;go_wp2_with fail;exact bodyPost_ret (v:=.agg #[.int .i64 63,.int .u64 0]) (by simp [results,Tryz.results116,go_sem]) rfl ⟨rfl,((Below.refl _ _).alloc nle _).alloc (by simp) _⟩
 ·have hk0:0<=kind:=by omega
  have hk2:kind<=2:=by omega
  have hm0:0<=mode:=by omega
  have hm2:mode<=2:=by omega
  unfold gM;rw [if_neg hbad];clear hbad;cases hon:onM mode satp
  ·rw [if_pos rfl];have n1:=((Below.refl w.heap.size w).alloc nle (Obj.cells #[.int .i64 mode,.bool sum,.bool mxr,.int .u64 satp] 205)).alloc (by simp) (Obj.cells #[.int .i64 0,.int .u64 0] 156);have H1:Hid (((w.alloc (Obj.cells #[.int .i64 mode,.bool sum,.bool mxr,.int .u64 satp] 205)).alloc (Obj.cells #[.int .i64 0,.int .u64 0] 156)).heap[w.heap.size+1]?=some (.cells #[.int .i64 0,.int .u64 0] 156 (0,0))):=by
    have:=heap_alloc_new (w.alloc (Obj.cells #[.int .i64 mode,.bool sum,.bool mxr,.int .u64 satp] 205)) (Obj.cells #[.int .i64 0,.int .u64 0] 156);simp only [World.size_alloc] at this;exact this
   have H2:Hid (((w.alloc (Obj.cells #[.int .i64 mode,.bool sum,.bool mxr,.int .u64 satp] 205)).alloc (Obj.cells #[.int .i64 0,.int .u64 0] 156)).heap[w.heap.size]?=some (.cells #[.int .i64 mode,.bool sum,.bool mxr,.int .u64 satp] 205 (0,0))):=by
    show _=_;rw [Below.heap_alloc _ _ _ (by simp)];exact heap_alloc_new _ _
   have l1:w.heap.size+1<((w.alloc (Obj.cells #[.int .i64 mode,.bool sum,.bool mxr,.int .u64 satp] 205)).alloc (Obj.cells #[.int .i64 0,.int .u64 0] 156)).heap.size:=by simp
   have HO:=hid hon;clear hon;unfold dK;go_enter Tryz.func116,Tryz.ntmps116;go_wp2_with fail;generalize (w.alloc (Obj.cells #[.int .i64 mode,.bool sum,.bool mxr,.int .u64 satp] 205)).alloc (Obj.cells #[.int .i64 0,.int .u64 0] 156)=v1 at n1 H1 H2 l1 |-;refine (kH mode sum mxr satp v1 hs0 hs1).mono ?_;rintro e v2 ⟨rfl,n2⟩;rw [HO.out];have n12:=bst n1 n2;obtain ⟨⟨d0,d1⟩,e0,e1⟩:=kJ (ae H1.out n2 l1);have H3:=hid (ae H2.out n2 (by omega));have H4:=hid (ae H1.out n2 l1);have l2:=Nat.lt_of_lt_of_le l1 n2.size;clear n1 n2 H1 H2 l1;go_wp2_with fail;exact bodyPost_ret (v:=.agg #[.int .i64 0,.int .u64 va]) (by simp [results,Tryz.results116,go_sem,d0,d1]) rfl ⟨rfl,zM n12 (by omega) _ _⟩
  ·rw [if_neg (by simp)];obtain ⟨⟨x1,x2⟩,hX⟩:∃X,cK (ce zs satp va) mode sum mxr kind va=X:=⟨_,rfl⟩;rw [hX];have HX:=hid hX;clear hX;have n1:=((Below.refl w.heap.size w).alloc nle (Obj.cells #[.int .i64 mode,.bool sum,.bool mxr,.int .u64 satp] 205)).alloc (by simp) (Obj.cells #[.int .i64 0,.int .u64 0] 156);have H1:Hid (((w.alloc (Obj.cells #[.int .i64 mode,.bool sum,.bool mxr,.int .u64 satp] 205)).alloc (Obj.cells #[.int .i64 0,.int .u64 0] 156)).heap[w.heap.size+1]?=some (.cells #[.int .i64 0,.int .u64 0] 156 (0,0))):=by
    have:=heap_alloc_new (w.alloc (Obj.cells #[.int .i64 mode,.bool sum,.bool mxr,.int .u64 satp] 205)) (Obj.cells #[.int .i64 0,.int .u64 0] 156);simp only [World.size_alloc] at this;exact this
   have H2:Hid (((w.alloc (Obj.cells #[.int .i64 mode,.bool sum,.bool mxr,.int .u64 satp] 205)).alloc (Obj.cells #[.int .i64 0,.int .u64 0] 156)).heap[w.heap.size]?=some (.cells #[.int .i64 mode,.bool sum,.bool mxr,.int .u64 satp] 205 (0,0))):=by
    show _=_;rw [Below.heap_alloc _ _ _ (by simp)];exact heap_alloc_new _ _
   have l1:w.heap.size+1<((w.alloc (Obj.cells #[.int .i64 mode,.bool sum,.bool mxr,.int .u64 satp] 205)).alloc (Obj.cells #[.int .i64 0,.int .u64 0] 156)).heap.size:=by simp
   have HO:=hid hon;clear hon;unfold dK;go_enter Tryz.func116,Tryz.ntmps116;go_wp2_with fail;generalize (w.alloc (Obj.cells #[.int .i64 mode,.bool sum,.bool mxr,.int .u64 satp] 205)).alloc (Obj.cells #[.int .i64 0,.int .u64 0] 156)=v1 at n1 H1 H2 l1 |-;refine (kH mode sum mxr satp v1 hs0 hs1).mono ?_;rintro e v2 ⟨rfl,n2⟩;rw [HO.out];have n12:=bst n1 n2;obtain ⟨⟨d0,d1⟩,e0,e1⟩:=kJ (ae H1.out n2 l1);have H3:=hid (ae H2.out n2 (by omega));have H4:=hid (ae H1.out n2 l1);have l2:=Nat.lt_of_lt_of_le l1 n2.size;clear n1 n2 H1 H2 l1;obtain ⟨⟨q0,q1,q2,q3⟩,_⟩:=av H3.out;have HBy:=hid fun (v:World) (hv:Below v2.heap.size v2 v)=>(hB.keep n12).keep hv;have HC:Hid (∀v:World,Below v2.heap.size v2 v->v.cell? ⟨w.heap.size,0,none⟩=some (.int .i64 mode)∧v.cell? ⟨w.heap.size,1,none⟩=some (.bool sum)∧v.cell? ⟨w.heap.size,2,none⟩=some (.bool mxr)∧v.cell? ⟨w.heap.size,3,none⟩=some (.int .u64 satp)):=
    fun v hv=>(av (ae H3.out hv (by omega))).1
   have hwb:=qy zs satp va (hB.2.1);clear hB d0 d1 e0 e1;obtain ⟨W,hW⟩:∃W,ce zs satp va=W:=⟨_,rfl⟩;rw [hW] at hwb;have HW:=hid hW;clear hW;go_wp2_with fail;go_region_held3 (fun w'=>w'.cell? ⟨w.heap.size,0,none⟩=some (.int .i64 mode)∧w'.cell? ⟨w.heap.size,1,none⟩=some (.bool sum)∧w'.cell? ⟨w.heap.size,2,none⟩=some (.bool mxr)∧w'.cell? ⟨w.heap.size,3,none⟩=some (.int .u64 satp)) (go_keep)
    (first
     | (go_at_call 148;refine (mF a len cap zs satp va _ hl hc hm hs0 hs1 hv0 hv1 (HBy.out _ (Below.refl _ _).drew)).mono ?_;rw [HW.out];rintro e v3 ⟨⟨a3,c3,rfl,r3,na3,sp3,nc3⟩,n3⟩;have m3:Below v2.heap.size v2 v3:=(Below.refl v2.heap.size v2).drew.trans n3;obtain ⟨g0,g1,g2,g3⟩:=HC.out v3 m3;clear r3 na3 sp3 nc3 n3)
     | (go_at_call 147;refine (jg W (.slice a3 W.2.2.2.length c3) mode sum mxr satp kind va _ hwb.1 hwb.2.1 hv0 hv1 hwb.2.2.1 hwb.2.2.2 rfl).mono ?_;rw [<-HW.out,HX.out];unfold ez;rintro e v4 ⟨rfl,n4⟩;have m4:Below v2.heap.size v2 v4:=bst m3 n4;obtain ⟨j0,j1,j2,j3⟩:=HC.out v4 m4;obtain ⟨⟨d0,d1⟩,e0,e1⟩:=kJ (ae H4.out m4 l2);clear n4))
   go_wp2_with fail;exact bodyPost_ret (v:=.agg #[.int .i64 x1,.int .u64 x2]) (by simp [results,Tryz.results116,go_sem,d0,d1]) rfl ⟨rfl,zM (bst n12 m4) (by omega) _ _⟩
end
structure EntM where
 valid:Bool
 level:Int
 tag:Int
 asid:Int
 glob:Bool
 pte:Int
def cO:EntM:=⟨false,0,0,0,false,0⟩
structure TlbM where
 sets:Int
 ways:Int
 es:List EntM
def eF (va level:Int):Int:=if level=0 then va/64%512 else if level=1 then va/512%64 else va/4096%8
def jR (level:Int):Int:=if level=0 then 512 else if level=1 then 64 else 8
def gD (p:Bool):Int:=if p=true then 1 else 2
def aW (e:EntM) (p:Bool):Bool:=
 e.valid && decide (0<=e.level) && decide (e.level<=2) && decide (e.tag<jR e.level) && decide (e.asid<=65535) && (e.glob == bj e.pte 32) && (bu e.pte e.level == gD p)
def dS (e:EntM):Prop:=
 (-9223372036854775808<=e.level∧e.level<=9223372036854775807)∧(0<=e.tag∧e.tag<=18446744073709551615)∧(0<=e.asid∧e.asid<=18446744073709551615)∧(0<=e.pte∧e.pte<=18446744073709551615)
end Go.Proofs.YtgnnmgfgfihljaaGreat

import Derived.Test.YthdgiakgepmabaaGreatDk03
import Derived.StillTailTactics
namespace Go.Proofs.YthdgiakgepmabaaGreat
open Go.RowKit
set_option linter.unusedVariables false
set_option maxHeartbeats 6400000
set_option maxRecDepth 20000
theorem aF {v:World} {p:Nat} {T:TypeId} {a b c:Value} (h:v.heap[p]?=some (.cells #[a,b,c] T (0,0))):
 (v.cell? (AD p 0)=some a∧v.cell? (AD p 1)=some b∧v.cell? (AD p 2)=some c)∧v.frozen? (AD p 0)=false∧v.frozen? (AD p 1)=false∧v.frozen? (AD p 2)=false:=by
 simp [World.cell?,World.frozen?,h]
theorem FQ {v:World} {p:Nat} {T:TypeId} {a b c u:Value} (h:v.heap[p]?=some (.cells #[a,b,c] T (0,0))):(v.setCell (AD p 0) u).heap[p]?=some (.cells #[u,b,c] T (0,0)):=by
 simp [World.setCell,Array.getElem?_modify,h]
theorem FR {v:World} {p:Nat} {T:TypeId} {a b c u:Value} (h:v.heap[p]?=some (.cells #[a,b,c] T (0,0))):(v.setCell (AD p 2) u).heap[p]?=some (.cells #[a,b,u] T (0,0)):=by
 simp [World.setCell,Array.getElem?_modify,h]
theorem gb3 (v:World) (g:Nat) (x y z:Value):v.grownBy (((v.setCell (AD g 0) x).setCell (AD g 1) y).setCell (AD g 2) z) (some g):=
 au (au (au (ao v (some g)) 0 x) 1 y) 2 z
theorem kz {B:Nat} {a w:World} {g:Nat} (h:Below B a w) (hg:B<=g) (x y z:Value):Below B a (((w.setCell (AD g 0) x).setCell (AD g 1) y).setCell (AD g 2) z):=
 ((h.setCell (p:=(AD g 0)) hg x).setCell (p:=(AD g 1)) hg y).setCell (p:=(AD g 2)) hg z
theorem bS {e:TypeId} {size:Nat} {w:World} {base base' n:Nat} {v:Value} {cs:List Value} (h:w.ownsRow base e size v n cs) (hb:base'<=base):w.ownsRow base' e size v n cs:=by
 obtain ⟨h1,h2⟩:=h;refine ⟨h1,?_⟩;rcases h2 with h2 | ⟨g,cap,cur,h2,hb',r⟩
 ·exact .inl h2
 ·exact .inr ⟨g,cap,cur,h2,by omega,r⟩
theorem aE {e:TypeId} {size:Nat} {w w':World} {base n r:Nat} {v:Value} {cs:List Value} (h:w.ownsRow base e size v n cs) (hg:w.grownBy w' (some r)) (hr:r<base):w'.ownsRow base e size v n cs:=by
 refine h.kept hg ?_;rcases h.2 with ⟨rfl,_⟩ | ⟨g,cap,cur,rfl,hb',_⟩
 ·exact .inl rfl
 ·refine .inr ?_;simp [Value.ownBlock];omega
theorem aq {e:TypeId} {size:Nat} {w w':World} {base n:Nat} {v:Value} {cs:List Value} (h:w.ownsRow base e size v n cs) (hb:Bw w w'):w'.ownsRow base e size v n cs:=by
 obtain ⟨h1,h2⟩:=h;refine ⟨h1,?_⟩;rcases h2 with h2 | ⟨g,cap,cur,h2,hb',hg,r⟩
 ·exact .inl h2
 ·refine .inr ⟨g,cap,cur,h2,hb',?_,r⟩;exact ae hg hb (hpl hg)
theorem qK {P:Program} (w:World) {o:Oper} {a:Act} {K:Act->World->Prop} {Q:Exit->Act->World->Prop} (s x:Operand) (t:TypeId)
 (ho:o.op=.call { callee:=.builtin .append,args:=#[s,x],argTypes:=#[t,t] }) (e:TypeId) (ht:P.underlying t=some (.slice e)) (z:Value) (size bytes:Nat)
 (hi:(P.info? e).map (fun i=>(i.zero,i.size,i.bytes))=some (some z,size,bytes)) (hzs:z.cells.size=size) (hsz:0<size)
 (base n:Nat) (v:Value) (cs:List Value) (hs:a.eval s=v) (hown:w.ownsRow base e size v n cs)
 (b off m c:Nat) (ys:List Value) (hx:a.eval x=.slice (some (AD b off)) m c) (hm:0<m) (hy:RowC w (some (AD b off)) m size ys) (h1:∀u∈ys,u.oneCell'=true)
 (hbd:(n+m)*bytes<=140737488355328) (hbd':n+m<=9223372036854775807)
 (hbw:base<=w.heap.size) (B:Nat) (W:World) (hb:Below B W w) (hB:B<=base)
 (h:∀g' cap' w',w'.ownsRow base e size (SL g' (n+m) cap') (n+m) (cs++ys)->Below B W w'->K (a.put o.dst (SL g' (n+m) cap')) w'):o.wp P a w K Q:=by
 obtain ⟨i0,hi,hz0,hz1,hz2⟩:=info_parts hi;refine wp_append_own w s x t ho base e i0 z size bytes ht hi hz0 hz1 hz2 hzs hsz v n _ hs hown (AD b off) m c ys hx hy.1 (uJ hy) h1 (by unfold maxLen;omega) hbd (by omega) ?_;intro v' w' h1 h2 h3;have hbl:=hb.grown h2 (by omega) (fun k hk=>by have:=(hown.lt k hk).1;omega);rcases h1.2 with ⟨e1,e2⟩ | ⟨g,cap,cur,e1,r⟩
 ·omega
 ·subst e1;exact h g cap w' h1 hbl
theorem me {P:Program} (w:World) {ops:Array Oper} {rest:List Oper} {o:Oper} {a:Act} {Q:Exit->Act->World->Prop} (hgd:o.guard=none) (s x:Operand) (t:TypeId)
 (ho:o.op=.call { callee:=.builtin .append,args:=#[s,x],argTypes:=#[t,t] }) (e:TypeId) (ht:P.underlying t=some (.slice e)) (z:Value) (size bytes:Nat)
 (hi:(P.info? e).map (fun i=>(i.zero,i.size,i.bytes))=some (some z,size,bytes)) (hzs:z.cells.size=size) (hsz:0<size)
 (base n:Nat) (v:Value) (cs:List Value) (hs:a.eval s=v) (hown:w.ownsRow base e size v n cs)
 (b off m c:Nat) (ys:List Value) (hx:a.eval x=.slice (some (AD b off)) m c) (hm:0<m) (hy:RowC w (some (AD b off)) m size ys) (h1:∀u∈ys,u.oneCell'=true)
 (hbd:(n+m)*bytes<=140737488355328) (hbd':n+m<=9223372036854775807)
 (hbw:base<=w.heap.size) (B:Nat) (W:World) (hb:Below B W w) (hB:B<=base)
 (h:∀g' cap' w',w'.ownsRow base e size (SL g' (n+m) cap') (n+m) (cs++ys)->Below B W w'->wpList P ops Q rest (a.put o.dst (SL g' (n+m) cap')) w'):wpList P ops Q (o::rest) a w:=
 wpList_plain hgd fun _ hK=>qK w s x t ho e ht z size bytes hi hzs hsz base n v cs hs hown b off m c ys hx hm hy h1 hbd hbd' hbw B W hb hB fun g' cap' w' h2 h3=>hK _ _ (h g' cap' w' h2 h3)
theorem sW {e:TypeId} {size:Nat} {w:World} {base n:Nat} {v:Value} {cs:List Value} (h:w.ownsRow base e size v n cs):w.drew.ownsRow base e size v n cs:=h
def CurAt (e:TypeId) (w:World) (g m:Nat) (cs:List Value):Prop:=cs.length=m∧∃cur,w.heap[g]?=some (.cells cur e (0,0))∧cur.toList.take m=cs
theorem CurAt.lt {e:TypeId} {w:World} {g m:Nat} {cs:List Value} (h:CurAt e w g m cs):g<w.heap.size:=by
 obtain ⟨_,cur,h2,_⟩:=h;exact (hpl h2)
theorem CurAt.cell {e:TypeId} {w:World} {g m:Nat} {cs:List Value} (h:CurAt e w g m cs) (j:Nat) (u:Value) (hj:cs[j]?=some u):w.cell? (AD g j)=some u:=by
 obtain ⟨h1,cur,h2,h3⟩:=h;subst h3;rw [List.getElem?_take] at hj;split at hj
 ·simp only [World.cell?,h2];simpa using hj
 ·cases hj
theorem CurAt.free {e:TypeId} {w:World} {g m:Nat} {cs:List Value} (h:CurAt e w g m cs) (j:Nat):w.frozen? (AD g j)=false:=by
 obtain ⟨h1,cur,h2,h3⟩:=h;simp [World.frozen?,h2]
theorem CurAt.store {e:TypeId} {w:World} {g m:Nat} {cs:List Value} (h:CurAt e w g m cs) (j:Nat) (u:Value):CurAt e (w.setCell (AD g j) u) g m (cs.set j u):=by
 obtain ⟨h1,cur,h2,h3⟩:=h;refine ⟨by simpa using h1,cur.setIfInBounds j u,by simp [World.setCell,Array.getElem?_modify,h2],?_⟩;subst h3;rw [Array.toList_setIfInBounds,List.take_set]
theorem CurAt.gb {e:TypeId} {w w':World} {g m r:Nat} {cs:List Value} (h:CurAt e w g m cs) (hg:w.grownBy w' (some r)) (hne:g≠r):CurAt e w' g m cs:=by
 obtain ⟨h1,cur,h2,h3⟩:=h;exact ⟨h1,cur,aA h2 hg hne,h3⟩
theorem CurAt.of_own {e:TypeId} {size:Nat} {w:World} {base g n cap:Nat} {cs:List Value} (h:w.ownsRow base e size (SL g n cap) n cs):CurAt e w g (n*size) cs∧base<=g:=by
 obtain ⟨h1,h2⟩:=h;rcases h2 with ⟨h2,_⟩ | ⟨g',cap',cur,h2,hb,hg,_,_,_,ht⟩
 ·cases h2
 ·cases h2;exact ⟨⟨h1,cur,hg,ht⟩,hb⟩
theorem eC {e:TypeId} {size:Nat} {w:World} {base n:Nat} {a:Option Addr} {cap:Nat} {cs:List Value} (h:w.ownsRow base e size (.slice a n cap) n cs):RowC w a n size cs:=by
 cases a with
 | none=>
  obtain ⟨h1,h2⟩:=h;rcases h2 with ⟨_,h2⟩ | ⟨g',cap',cur,h2,_⟩
  ·subst h2;exact ⟨h1,.inl rfl⟩
  ·cases h2
 | some q=>
  have hq:q=(AD q.block 0):=by
   obtain ⟨h1,h2⟩:=h;rcases h2 with ⟨h2,_⟩ | ⟨g',cap',cur,h2,_⟩
   ·cases h2
   ·cases h2;rfl
  rw [hq] at h |-;have:=CurAt.of_own h;refine ⟨h.1,.inr ⟨q.block,0,rfl,this.1.lt,fun i u hu=>?_⟩⟩;rw [Nat.zero_add];exact this.1.cell i u hu
theorem cQ {e:TypeId} {size:Nat} {w:World} {base n cap:Nat} {q:Addr} {cs:List Value} (h:w.ownsRow base e size (.slice (some q) n cap) n cs):q=(AD q.block 0)∧base<=q.block∧q.block<w.heap.size:=by
 rcases h.2 with ⟨h2,_⟩ | ⟨g',cap',cur,h2,hb,hg,_⟩
 ·cases h2
 ·cases h2;exact ⟨rfl,hb,(hpl hg)⟩
theorem dY {a b c:World} {r:Option Nat} (h:a.grownBy b r) (k:b.grownBy c r):a.grownBy c r:=
 ⟨k.os.trans h.os,k.tape.trans h.tape,k.output.trans h.output,Nat.le_trans h.size k.size,fun i hi hn=>(k.block i (ltl hi h.size) hn).trans (h.block i hi hn)⟩
theorem ah {w w':World} {b:Nat} {o:Obj} (h:Hid (w.heap[b]?=some o)) (n:Bw w w'):Hid (w'.heap[b]?=some o):=ae h.out n (hpl h.out)
theorem br {e:TypeId} {size:Nat} {w:World} {base g n cap:Nat} {cs:List Value} (h:w.ownsRow base e size (SL g n cap) n cs) (j:Nat) (u:Value):
 (w.setCell (AD g j) u).ownsRow base e size (SL g n cap) n (cs.set j u):=by
 obtain ⟨h1,h2⟩:=h;refine ⟨by simpa using h1,?_⟩;rcases h2 with ⟨h2,_⟩ | ⟨g',cap',cur,h2,hb,hg,hc1,hc2,hc3,ht⟩
 ·cases h2
 ·cases h2;refine .inr ⟨g,cap,cur.setIfInBounds j u,rfl,hb,by simp [World.setCell,Array.getElem?_modify,hg],hc1,hc2,by simpa using hc3,?_⟩;subst ht;rw [Array.toList_setIfInBounds,List.take_set]
theorem aQ {e:TypeId} {size:Nat} {w:World} {base g n cap:Nat} {cs:List Value} (h:w.ownsRow base e size (SL g n cap) n cs) (j:Nat) (u:Value) (hj:cs[j]?=some u):w.cell? (AD g j)=some u:=
 (CurAt.of_own h).1.cell j u hj
theorem bL {e:TypeId} {size:Nat} {w:World} {base g n cap:Nat} {cs:List Value} (h:w.ownsRow base e size (SL g n cap) n cs) (j:Nat):w.frozen? (AD g j)=false:=
 (CurAt.of_own h).1.free j
theorem lX {a b c:World} {r:Option Nat} (h:a.grownBy b r) (k:Bw b c):a.grownBy c r:=
 ⟨k.os.trans h.os,k.tape.trans h.tape,k.output.trans h.output,Nat.le_trans h.size k.size,fun i hi hn=>(k.block i (ltl hi h.size)).trans (h.block i hi hn)⟩
theorem rl {a b:World} {r g o:Nat} {x:Option Value} (h:a.grownBy b (some r)) (hc:a.cell? (AD g o)=x) (hg:g<a.heap.size) (hne:g≠r):b.cell? (AD g o)=x:=
 (World.cell?_of_block (h.block g hg (by simpa using hne))).trans hc
theorem DJ {a b:World} {r n size:Nat} {q:Option Addr} {cs:List Value} (h:RowC a q n size cs) (hg:a.grownBy b (some r)) (hr:a.heap.size<=r∨∀x,q=some x->x.block≠r):RowC b q n size cs:=by
 obtain ⟨h1,h2⟩:=h;refine ⟨h1,?_⟩;rcases h2 with h2 | ⟨bk,off,rfl,hlt,hc⟩
 ·exact .inl h2
 ·refine .inr ⟨bk,off,rfl,ltl hlt hg.size,fun i u hu=>?_⟩;exact rl hg (hc i u hu) hlt (by
   rcases hr with hr | hr
   ·omega
   ·exact hr _ rfl)
theorem dl {P:Program} {id:Nat} {Q:Exit->Act->World->Prop} {a:Act} {w:World} {l:List Oper} (n:Nat) (hm:P.follows .mixedOrders=true) (hB:Region.lexTailB .any l.toArray n=true)
 (h:wpStill P l.toArray w.drew (fun a'=>wpList P l.toArray Q (l.drop n) a' w.drew) (l.take n) a):(Code.region id l.toArray true).wp P Q a w:=
 wp_region_still_tail n hm hB h
theorem yc (a k:Nat):(a &&& 2^k != 0)=(a/2^k%2 == 1):=by
 have e:(a/2^k%2 == 1)=a.testBit k:=by rw [Nat.testBit_eq_decide_div_mod_eq];rfl
 rw [e];cases h:a.testBit k
 ·have:a &&& 2^k=0:=by
   apply Nat.eq_of_testBit_eq;intro i;rw [Nat.testBit_and,Nat.testBit_two_pow,Nat.zero_testBit];by_cases hi:k=i
   ·subst hi;simp [h]
   ·simp [hi]
  simp [this]
 ·have:a &&& 2^k≠0:=by
   intro h0;have:=congrArg (fun n=>n.testBit k) h0;simp [Nat.testBit_and,h] at this
  simpa using this
theorem kR (a m n:Nat):(a &&& (m ||| n) != 0)=((a &&& m != 0) || (a &&& n != 0)):=by
 rw [Nat.and_or_distrib_left];cases h:(a &&& m != 0) <;> cases h':(a &&& n != 0) <;> simp_all [Nat.or_eq_zero_iff]
def ye (x m:Int):Bool:=bits .and .u64 x m != 0
theorem gU (a m:Nat) (ha:a<18446744073709551616) (hm:m<18446744073709551616):ye a m=(a &&& m != 0):=by
 rw [ye,u64_and_nat a m ha hm];cases h:(a &&& m != 0)
 ·simp at h;simp [h]
 ·simp at h;simp;omega
theorem dI (k:Nat) (x p:Int) (hp:p=2^k) (hk:p<18446744073709551616) (h0:0<=x) (h1:x<=18446744073709551615):ye x p=bJ x p:=by
 obtain ⟨a,rfl⟩:=Int.eq_ofNat_of_zero_le h0;have e:p=((2^k:Nat):Int):=by rw [hp];push_cast;rfl
 rw [e] at hk |-;rw [gU a (2^k) (by omega) (by omega),yc,bJ];rw [show ((a:Int)/((2^k:Nat):Int)%2)=((a/2^k%2:Nat):Int) by omega];generalize a/2^k%2=t;rw [Bool.eq_iff_iff];simp only [beq_iff_eq];omega
theorem DM (x:Int) (h0:0<=x) (h1:x<=18446744073709551615):ye x 14=(bJ x 2 || bJ x 4 || bJ x 8):=by
 rw [<-dI 1 x 2 rfl (by omega) h0 h1,<-dI 2 x 4 rfl (by omega) h0 h1,<-dI 3 x 8 rfl (by omega) h0 h1];obtain ⟨a,rfl⟩:=Int.eq_ofNat_of_zero_le h0;rw [show (14:Int)=((14:Nat):Int) from rfl,show (2:Int)=((2:Nat):Int) from rfl,show (4:Int)=((4:Nat):Int) from rfl,show (8:Int)=((8:Nat):Int) from rfl];rw [gU a 14 (by omega) (by omega),gU a 2 (by omega) (by omega),gU a 4 (by omega) (by omega),gU a 8 (by omega) (by omega)];rw [<-kR,<-kR];rfl
theorem DN (x:Int) (h0:0<=x) (h1:x<=18446744073709551615):ye x 208=(bJ x 16 || bJ x 64 || bJ x 128):=by
 rw [<-dI 4 x 16 rfl (by omega) h0 h1,<-dI 6 x 64 rfl (by omega) h0 h1,<-dI 7 x 128 rfl (by omega) h0 h1];obtain ⟨a,rfl⟩:=Int.eq_ofNat_of_zero_le h0;rw [show (208:Int)=((208:Nat):Int) from rfl,show (16:Int)=((16:Nat):Int) from rfl,show (64:Int)=((64:Nat):Int) from rfl,show (128:Int)=((128:Nat):Int) from rfl];rw [gU a 208 (by omega) (by omega),gU a 16 (by omega) (by omega),gU a 64 (by omega) (by omega),gU a 128 (by omega) (by omega)];rw [<-kR,<-kR];rfl
theorem uq (k:Nat) (x m P:Int) (hP:P=2^k) (hm:m=P-1) (hk:m<18446744073709551616) (h0:0<=x) (h1:x<=18446744073709551615):bits .andNot .u64 x m=x/P*P:=by
 obtain ⟨a,rfl⟩:=Int.eq_ofNat_of_zero_le h0;have hp:1<=(2^k:Nat):=Nat.one_le_two_pow;have eP:P=((2^k:Nat):Int):=by rw [hP];push_cast;rfl
 have e:m=((2^k-1:Nat):Int):=by rw [hm,eP];omega
 rw [e] at hk |-;rw [eP,u64_andNot_nat a (2^k-1) (by omega) (by omega)];rw [show ((a:Int)/((2^k:Nat):Int)*((2^k:Nat):Int))=((a/2^k*2^k:Nat):Int) by push_cast;rfl];congr 1;apply Nat.eq_of_testBit_eq;intro i;have hk64:k<=64:=by
  rcases Nat.lt_or_ge 64 k with h | h
  ·have:2^65<=2^k:=Nat.pow_le_pow_right (by omega) h;omega
  ·exact h
 rw [Nat.testBit_and,Nat.testBit_mul_two_pow,Nat.testBit_div_two_pow];by_cases hi:k<=i
 ·by_cases hi':i<64
  ·have:(18446744073709551615-(2^k-1)).testBit i=true:=by
    rw [show 18446744073709551615-(2^k-1)=2^64-(2^k-1+1) by omega,Nat.testBit_two_pow_sub_succ (by omega),Nat.testBit_two_pow_sub_one];simp;omega
   rw [this];simp [hi,show i-k+k=i by omega]
  ·have:a.testBit i=false:=Nat.testBit_lt_two_pow (ltl (by omega:a<2^64) (Nat.pow_le_pow_right (by omega) (by omega)));simp [this,show i-k+k=i by omega]
 ·have:(18446744073709551615-(2^k-1)).testBit i=false:=by
   rw [show 18446744073709551615-(2^k-1)=2^64-(2^k-1+1) by omega,Nat.testBit_two_pow_sub_succ (by omega),Nat.testBit_two_pow_sub_one];simp;omega
  simp [this,hi]
theorem ot (k:Nat) (x y m P:Int) (hP:P=2^k) (hm:m=P-1) (hk:m<18446744073709551616) (h0:0<=x) (h1:x<=18446744073709551615) (g0:0<=y) (g1:y<=18446744073709551615):
 bits .or .u64 (bits .andNot .u64 x m) (bits .and .u64 y m)=x/P*P+y%P:=by
 have hp:1<=P:=by rw [hP];exact Int.pow_pos (by omega:(0:Int)<2)
 rw [uq k x m P hP hm hk h0 h1,eJ k y m (by rw [hm,hP]) hk g0 g1,<-hP];have a1:0<=y%P:=Int.emod_nonneg _ (by omega);have a2:y%P<P:=Int.emod_lt_of_pos _ (by omega);have a3:0<=x/P:=Int.ediv_nonneg h0 (by omega);have a4:x/P*P<=x:=Int.ediv_mul_le _ (by omega);have a5:0<=x/P*P:=Int.mul_nonneg a3 (by omega);have hc:bits .or .u64 (x/P*P) (y%P)=bits .or .u64 (y%P) (x/P*P):=by
  rw [u64_or _ _ a5 (by omega) a1 (by omega),u64_or _ _ a1 (by omega) a5 (by omega),Nat.or_comm]
 rw [hc,eV k P (y%P) (x/P) hP a1 a2 a3 (by omega) (by omega)];omega
theorem dy (n m:Int) (w:World) (h:(n=0∧m=0)∨(n=3∧m=7)∨(n=6∧m=63)∨(n=9∧m=511)∨(n=12∧m=4095)∨(n=44∧m=17592186044415)∨(n=50∧m=1125899906842623)∨(n=15∧m=32767)∨(n=16∧m=65535)):
 Calls Tryz.prog 88 #[VI n] w fun e w'=>e=.returned (VU m)∧w'=w:=by
 rcases h with ⟨rfl,rfl⟩ | ⟨rfl,rfl⟩ | ⟨rfl,rfl⟩ | ⟨rfl,rfl⟩ | ⟨rfl,rfl⟩ | ⟨rfl,rfl⟩ | ⟨rfl,rfl⟩ | ⟨rfl,rfl⟩ | ⟨rfl,rfl⟩;all_goals
  go_enter Tryz.func88,Tryz.ntmps88;go_wp2;go_ret;exact ⟨rfl,rfl⟩
theorem dB (x m:Int) (w:World):
 Calls Tryz.prog 129 #[VU x,VU m] w fun e w'=>e=.returned (.bool (ye x m))∧w'=w:=by
 go_enter Tryz.func129,Tryz.ntmps129;go_wp2;go_ret;exact ⟨rfl,rfl⟩
theorem gN (x:Int) (w:World) (h0:0<=x) (h1:x<=18446744073709551615):
 Calls Tryz.prog 111 #[VU x] w fun e w'=>e=.returned (.bool (cR x))∧w'=w:=by
 have hm:x/16384%1125899906842624=x/16384:=Int.emod_eq_of_lt (Int.ediv_nonneg h0 (by omega)) (by omega);rw [cR,hm];clear hm;by_cases ht:x/16384=0
 ·have ht':(x/16384 == 0)=true:=by simp [ht]
  clear ht;go_enter Tryz.func111,Tryz.ntmps111;go_wp2;go_ret;exact ⟨by simp [ht'],rfl⟩
 ·have ht':(x/16384 == 0)=false:=by simpa using ht
  clear ht;go_enter Tryz.func111,Tryz.ntmps111;go_wp2_with (go_at_call 88;refine (dy 50 1125899906842623 _ (by omega)).mono ?_;rintro e w' ⟨rfl,rfl⟩);go_ret;exact ⟨by simp [ht'],rfl⟩
theorem vi (x:Int) (w:World) (h0:0<=x) (h1:x<=18446744073709551615):
 Calls Tryz.prog 179 #[VU x] w fun e w'=>e=.returned (VU (dA x))∧w'=w:=by
 have H:=hid (eJ 44 (x/1024) 17592186044415 rfl (by omega) (by omega) (by omega));go_enter Tryz.func179,Tryz.ntmps179;go_wp2_with (go_at_call 88;refine (dy 44 17592186044415 _ (by omega)).mono ?_;rintro e w' ⟨rfl,rfl⟩);go_ret;exact ⟨dN H.out,rfl⟩
theorem vj (x:Int) (w:World) (h0:0<=x) (h1:x<=18446744073709551615):
 Calls Tryz.prog 186 #[VU x] w fun e w'=>e=.returned (VU (x/18014398509481984%1024))∧w'=w:=by
 have H:Hid (x/18014398509481984=x/18014398509481984%1024):=show _=_ by omega
 go_enter Tryz.func186,Tryz.ntmps186;go_wp2;go_ret;exact ⟨dN H.out,rfl⟩
def sw (x:Int):Bool:=bJ x 1 && (x/18014398509481984%1024 == 0) && !(bJ x 4 && !bJ x 2)
theorem kq (x:Int) (w:World) (h0:0<=x) (h1:x<=18446744073709551615):
 Calls Tryz.prog 183 #[VU x] w fun e w'=>e=.returned (.bool (sw x))∧w'=w:=by
 have HV:=hid (dI 0 x 1 rfl (by omega) h0 h1);have HR:=hid (dI 1 x 2 rfl (by omega) h0 h1);have HW:=hid (dI 2 x 4 rfl (by omega) h0 h1);cases hw:bJ x 4 <;> cases hr:bJ x 2 <;> cases hv:bJ x 1;all_goals
  go_enter Tryz.func183,Tryz.ntmps183;go_wp2_with (first
   | (go_at_call 129;refine (dB x _ _).mono ?_;rintro e w' ⟨rfl,rfl⟩;first | rw [HW.out,hw] | rw [HR.out,hr] | rw [HV.out,hv])
   | (go_at_call 186;refine (vj x _ h0 h1).mono ?_;rintro e w' ⟨rfl,rfl⟩))
  all_goals
   go_ret;exact ⟨aL (by simp [sw,hw,hr,hv];try assumption),rfl⟩
theorem sy (x level:Int) (w:World) (h0:0<=x) (h1:x<=18446744073709551615) (hl:level=0∨level=1∨level=2):
 Calls Tryz.prog 184 #[VU x,VI level] w fun e w'=>e=.returned (.bool (dA x%iK level == 0))∧w'=w:=by
 have hpp:0<=dA x∧dA x<17592186044416:=⟨Int.emod_nonneg _ (by omega),Int.emod_lt_of_pos _ (by omega)⟩;have HP:∀w,Hid (Calls Tryz.prog 179 #[VU x] w fun e w'=>e=.returned (VU (dA x))∧w'=w):=fun w=>vi x w h0 h1;generalize dA x=p at *;rcases hl with rfl | rfl | rfl
 ·have H:Hid ((bits .and .u64 p 0 == 0)=(p%iK 0 == 0)):=by
   show _=_;rw [eJ 0 p 0 rfl (by omega) hpp.1 (by omega)];rfl
  go_enter Tryz.func184,Tryz.ntmps184;go_wp2_with (first
   | (go_at_call 179;refine ((HP _).out).mono ?_;rintro e w' ⟨rfl,rfl⟩)
   | (go_at_call 88;refine (dy 0 0 _ (by omega)).mono ?_;rintro e w' ⟨rfl,rfl⟩))
  go_ret;exact ⟨aL H.out,rfl⟩
 ·have H:Hid ((bits .and .u64 p 7 == 0)=(p%iK 1 == 0)):=by
   show _=_;rw [eJ 3 p 7 rfl (by omega) hpp.1 (by omega)];rfl
  go_enter Tryz.func184,Tryz.ntmps184;go_wp2_with (first
   | (go_at_call 179;refine ((HP _).out).mono ?_;rintro e w' ⟨rfl,rfl⟩)
   | (go_at_call 88;refine (dy 3 7 _ (by omega)).mono ?_;rintro e w' ⟨rfl,rfl⟩))
  go_ret;exact ⟨aL H.out,rfl⟩
 ·have H:Hid ((bits .and .u64 p 63 == 0)=(p%iK 2 == 0)):=by
   show _=_;rw [eJ 6 p 63 rfl (by omega) hpp.1 (by omega)];rfl
  go_enter Tryz.func184,Tryz.ntmps184;go_wp2_with (first
   | (go_at_call 179;refine ((HP _).out).mono ?_;rintro e w' ⟨rfl,rfl⟩)
   | (go_at_call 88;refine (dy 6 63 _ (by omega)).mono ?_;rintro e w' ⟨rfl,rfl⟩))
  go_ret;exact ⟨aL H.out,rfl⟩
theorem dF (l:Int) (w:World):
 Calls Tryz.prog 127 #[VI l] w fun e w'=>e=.returned (.bool (decide (0<=l∧l<=2)))∧w'=w:=by
 by_cases h:0<=l
 ·go_enter Tryz.func127,Tryz.ntmps127;go_wp2;go_ret;exact ⟨aL (by simp [h]),rfl⟩
 ·go_enter Tryz.func127,Tryz.ntmps127;go_wp2;go_ret;exact ⟨aL (by simp;omega),rfl⟩
theorem oV (x level:Int) (w:World) (h0:0<=x) (h1:x<=18446744073709551615):
 Calls Tryz.prog 178 #[VU x,VI level] w fun e w'=>e=.returned (VI (aU x level))∧w'=w:=by
 by_cases hlev:0<=level∧level<=2
 ·have hk:decide (0<=level∧level<=2)=true:=by simpa using hlev
  have HK:=hid hk;have hl:level=0∨level=1∨level=2:=by omega
  clear hk hlev;have HR:=hid (DM x h0 h1);have HU:=hid (DN x h0 h1);cases hs:sw x
  ·have HE:Hid (aU x level=0):=by
    show _=_;simp only [aU];rw [if_pos];simp only [sw] at hs;cases hv:bJ x 1
    ·simp
    ·rw [hv] at hs;by_cases hb:0<x/18014398509481984%1024
     ·simp [hb]
     ·have hb':x/18014398509481984%1024=0:=by omega
      rw [hb'] at hs |-;simp at hs;simp [hs]
   go_enter Tryz.func178,Tryz.ntmps178;go_wp2_with (first
    | (go_at_call 127;refine (dF level _).mono ?_;rintro e w' ⟨rfl,rfl⟩;rw [HK.out])
    | (go_at_call 183;refine (kq x _ h0 h1).mono ?_;rintro e w' ⟨rfl,rfl⟩;rw [hs]))
   go_ret;exact ⟨cx HE.out.symm,rfl⟩
  ·have hn:¬(level<0∨2<level∨bJ x 1=false∨0<x/18014398509481984%1024∨(bJ x 4=true∧bJ x 2=false)):=by
    simp only [sw,Bool.and_eq_true,beq_iff_eq,Bool.not_eq_true',Bool.and_eq_false_iff,Bool.not_eq_false'] at hs;obtain ⟨⟨a1,a2⟩,a3⟩:=hs;rw [a1,a2];rcases a3 with a3 | a3
    ·simp [a3];omega
    ·simp [a3];omega
   have HE:Hid (aU x level=if bJ x 2=false∧bJ x 4=false∧bJ x 8=false then (if level=0∨bJ x 16=true∨bJ x 64=true∨bJ x 128=true then 0 else 1) else if 0<dA x%iK level then 0 else 2):=by
    show _=_;rw [aU,if_neg hn]
   clear hn;cases hr:(bJ x 2 || bJ x 4 || bJ x 8)
   ·simp only [Bool.or_eq_false_iff] at hr;have HE2:Hid (aU x level=if level=0∨bJ x 16=true∨bJ x 64=true∨bJ x 128=true then 0 else 1):=by
     show _=_;rw [HE.out,if_pos ⟨hr.1.1,hr.1.2,hr.2⟩]
    clear HE;have HR':Hid (ye x 14=false):=by show _=_;rw [HR.out,hr.1.1,hr.1.2,hr.2];rfl
    clear HR hr;by_cases hz:level=0
    ·subst hz;go_enter Tryz.func178,Tryz.ntmps178;go_wp2_with (first
      | (go_at_call 127;refine (dF 0 _).mono ?_;rintro e w' ⟨rfl,rfl⟩;rw [HK.out])
      | (go_at_call 183;refine (kq x _ h0 h1).mono ?_;rintro e w' ⟨rfl,rfl⟩;rw [hs])
      | (go_at_call 129;refine (dB x _ _).mono ?_;rintro e w' ⟨rfl,rfl⟩;rw [HR'.out]))
     go_ret;exact ⟨cx (by rw [HE2.out];simp),rfl⟩
    ·have hz':(level == 0)=false:=by simpa using hz
     cases hu:(bJ x 16 || bJ x 64 || bJ x 128)
     ·have HE3:Hid (aU x level=1):=by
       show _=_;simp only [Bool.or_eq_false_iff] at hu;rw [HE2.out,hu.1.1,hu.1.2,hu.2];simp [hz]
      go_enter Tryz.func178,Tryz.ntmps178;go_wp2_with (first
       | (go_at_call 127;refine (dF level _).mono ?_;rintro e w' ⟨rfl,rfl⟩;rw [HK.out])
       | (go_at_call 183;refine (kq x _ h0 h1).mono ?_;rintro e w' ⟨rfl,rfl⟩;rw [hs])
       | (go_at_call 129;refine (dB x _ _).mono ?_;rintro e w' ⟨rfl,rfl⟩;first | rw [HR'.out] | rw [HU.out,hu]))
      go_ret;exact ⟨cx HE3.out.symm,rfl⟩
     ·have HE3:Hid (aU x level=0):=by
       show _=_;simp only [Bool.or_eq_true] at hu;rw [HE2.out,if_pos];rcases hu with (hu | hu) | hu <;> simp [hu]
      go_enter Tryz.func178,Tryz.ntmps178;go_wp2_with (first
       | (go_at_call 127;refine (dF level _).mono ?_;rintro e w' ⟨rfl,rfl⟩;rw [HK.out])
       | (go_at_call 183;refine (kq x _ h0 h1).mono ?_;rintro e w' ⟨rfl,rfl⟩;rw [hs])
       | (go_at_call 129;refine (dB x _ _).mono ?_;rintro e w' ⟨rfl,rfl⟩;first | rw [HR'.out] | rw [HU.out,hu]))
      go_ret;exact ⟨cx HE3.out.symm,rfl⟩
   ·have HR':Hid (ye x 14=true):=by show _=_;rw [HR.out,hr]
    have HE2:Hid (aU x level=if 0<dA x%iK level then 0 else 2):=by
     show _=_;rw [HE.out,if_neg];rintro ⟨q1,q2,q3⟩;rw [q1,q2,q3] at hr;cases hr
    clear HE HR hr;have hnn:0<=dA x%iK level:=by
     apply Int.emod_nonneg;rcases hl with rfl | rfl | rfl <;> decide
    cases ha:(dA x%iK level == 0)
    ·have HE3:Hid (aU x level=0):=by
      show _=_;have:dA x%iK level≠0:=by simpa using ha
      rw [HE2.out,if_pos (by omega)]
     clear hnn;go_enter Tryz.func178,Tryz.ntmps178;go_wp2_with (first
      | (go_at_call 127;refine (dF level _).mono ?_;rintro e w' ⟨rfl,rfl⟩;rw [HK.out])
      | (go_at_call 183;refine (kq x _ h0 h1).mono ?_;rintro e w' ⟨rfl,rfl⟩;rw [hs])
      | (go_at_call 129;refine (dB x _ _).mono ?_;rintro e w' ⟨rfl,rfl⟩;rw [HR'.out])
      | (go_at_call 184;refine (sy x level _ h0 h1 hl).mono ?_;rintro e w' ⟨rfl,rfl⟩;rw [ha]))
     go_ret;exact ⟨cx HE3.out.symm,rfl⟩
    ·have HE3:Hid (aU x level=2):=by
      show _=_;have:dA x%iK level=0:=by simpa using ha
      rw [HE2.out,if_neg (by omega)]
     clear hnn;go_enter Tryz.func178,Tryz.ntmps178;go_wp2_with (first
      | (go_at_call 127;refine (dF level _).mono ?_;rintro e w' ⟨rfl,rfl⟩;rw [HK.out])
      | (go_at_call 183;refine (kq x _ h0 h1).mono ?_;rintro e w' ⟨rfl,rfl⟩;rw [hs])
      | (go_at_call 129;refine (dB x _ _).mono ?_;rintro e w' ⟨rfl,rfl⟩;rw [HR'.out])
      | (go_at_call 184;refine (sy x level _ h0 h1 hl).mono ?_;rintro e w' ⟨rfl,rfl⟩;rw [ha]))
     go_ret;exact ⟨cx HE3.out.symm,rfl⟩
 ·have HK:Hid (decide (0<=level∧level<=2)=false):=by show _=_;simpa using hlev
  have HE:Hid (aU x level=0):=by
   show _=_;rw [aU,if_pos (by omega)]
  clear hlev;go_enter Tryz.func178,Tryz.ntmps178;go_wp2_with (go_at_call 127;refine (dF level _).mono ?_;rintro e w' ⟨rfl,rfl⟩;rw [HK.out]);go_ret;exact ⟨cx HE.out.symm,rfl⟩
def fI (x kind:Int) (mxr:Bool):Bool:=if kind=0 then bJ x 8 else if kind=1 then bJ x 2 || (mxr && bJ x 8) else if kind=2 then bJ x 4 else false
theorem jX (x kind:Int) (mxr:Bool) (w:World) (h0:0<=x) (h1:x<=18446744073709551615):
 Calls Tryz.prog 173 #[VU x,VI kind,.bool mxr] w fun e w'=>e=.returned (.bool (fI x kind mxr))∧w'=w:=by
 have HR:=hid (dI 1 x 2 rfl (by omega) h0 h1);have HW:=hid (dI 2 x 4 rfl (by omega) h0 h1);have HX:=hid (dI 3 x 8 rfl (by omega) h0 h1);by_cases k0:kind=0
 ·subst k0;go_enter Tryz.func173,Tryz.ntmps173;go_wp2_with (go_at_call 129;refine (dB x _ _).mono ?_;rintro e w' ⟨rfl,rfl⟩;rw [HX.out]);go_ret;exact ⟨rfl,rfl⟩
 have k0':(kind == 0)=false:=by simpa using k0
 by_cases k1:kind=1
 ·subst k1;cases hr:bJ x 2 <;> cases mxr;all_goals
   go_enter Tryz.func173,Tryz.ntmps173;go_wp2_with (go_at_call 129;refine (dB x _ _).mono ?_;rintro e w' ⟨rfl,rfl⟩;first | rw [HR.out,hr] | rw [HX.out]);go_ret;exact ⟨aL (by simp [fI,hr]),rfl⟩
 have k1':(kind == 1)=false:=by simpa using k1
 by_cases k2:kind=2
 ·subst k2;go_enter Tryz.func173,Tryz.ntmps173;go_wp2_with (go_at_call 129;refine (dB x _ _).mono ?_;rintro e w' ⟨rfl,rfl⟩;rw [HW.out]);go_ret;exact ⟨rfl,rfl⟩
 have k2':(kind == 2)=false:=by simpa using k2
 have HE:Hid (fI x kind mxr=false):=by show _=_;rw [fI,if_neg k0,if_neg k1,if_neg k2]
 clear k0 k1 k2;go_enter Tryz.func173,Tryz.ntmps173;go_wp2;go_ret;exact ⟨aL HE.out.symm,rfl⟩
def fJ (x kind mode:Int) (sum:Bool):Bool:=if mode=0 then bJ x 16 else if mode=1 then !bJ x 16 || (sum && kind != 0) else false
theorem nj (x kind mode:Int) (sum:Bool) (w:World) (h0:0<=x) (h1:x<=18446744073709551615):
 Calls Tryz.prog 174 #[VU x,VI kind,VI mode,.bool sum] w fun e w'=>e=.returned (.bool (fJ x kind mode sum))∧w'=w:=by
 have HU:=hid (dI 4 x 16 rfl (by omega) h0 h1);by_cases k0:mode=0
 ·subst k0;go_enter Tryz.func174,Tryz.ntmps174;go_wp2_with (go_at_call 129;refine (dB x _ _).mono ?_;rintro e w' ⟨rfl,rfl⟩;rw [HU.out]);go_ret;exact ⟨rfl,rfl⟩
 have k0':(mode == 0)=false:=by simpa using k0
 by_cases k1:mode=1
 ·subst k1;cases hu:bJ x 16 <;> cases sum;all_goals
   go_enter Tryz.func174,Tryz.ntmps174;go_wp2_with (go_at_call 129;refine (dB x _ _).mono ?_;rintro e w' ⟨rfl,rfl⟩;rw [HU.out,hu]);all_goals
    go_ret;exact ⟨aL (by simp_all [fJ]),rfl⟩
 have k1':(mode == 1)=false:=by simpa using k1
 have HE:Hid (fJ x kind mode sum=false):=by show _=_;rw [fJ,if_neg k0,if_neg k1]
 clear k0 k1;go_enter Tryz.func174,Tryz.ntmps174;go_wp2;go_ret;exact ⟨aL HE.out.symm,rfl⟩
def kZ (x kind:Int):Bool:=bJ x 64 && (kind != 2 || bJ x 128)
theorem Cm (x kind:Int) (w:World) (h0:0<=x) (h1:x<=18446744073709551615):
 Calls Tryz.prog 175 #[VU x,VI kind] w fun e w'=>e=.returned (.bool (kZ x kind))∧w'=w:=by
 have HA:=hid (dI 6 x 64 rfl (by omega) h0 h1);have HD:=hid (dI 7 x 128 rfl (by omega) h0 h1);cases ha:bJ x 64
 ·go_enter Tryz.func175,Tryz.ntmps175;go_wp2_with (go_at_call 129;refine (dB x _ _).mono ?_;rintro e w' ⟨rfl,rfl⟩;rw [HA.out,ha]);go_ret;exact ⟨aL (by simp [kZ,ha]),rfl⟩
 ·cases hk:(kind != 2)
  ·go_enter Tryz.func175,Tryz.ntmps175;go_wp2_with (go_at_call 129;refine (dB x _ _).mono ?_;rintro e w' ⟨rfl,rfl⟩;first | rw [HA.out,ha] | rw [HD.out]);go_ret;exact ⟨aL (by simp [kZ,ha,hk]),rfl⟩
  ·go_enter Tryz.func175,Tryz.ntmps175;go_wp2_with (go_at_call 129;refine (dB x _ _).mono ?_;rintro e w' ⟨rfl,rfl⟩;first | rw [HA.out,ha] | rw [HD.out]);go_ret;exact ⟨aL (by simp [kZ,ha,hk]),rfl⟩
theorem qQ (x kind mode:Int) (sum mxr:Bool):cG x kind mode sum mxr=(fI x kind mxr && fJ x kind mode sum && kZ x kind):=by
 simp only [cG,fI,fJ,kZ];by_cases k0:kind=0
 ·subst k0;simp only [if_pos];cases bJ x 8 <;> cases bJ x 64 <;> simp <;> split <;> simp
 by_cases k1:kind=1
 ·subst k1;simp only [if_neg k0,if_pos];by_cases m0:mode=0
  ·subst m0;simp
  by_cases m1:mode=1
  ·subst m1;simp
  ·simp [m0,m1]
 by_cases k2:kind=2
 ·subst k2;by_cases m0:mode=0
  ·subst m0;simp;cases bJ x 64 <;> cases bJ x 128 <;> cases bJ x 4 <;> simp
  by_cases m1:mode=1
  ·subst m1;simp;cases bJ x 64 <;> cases bJ x 128 <;> cases bJ x 4 <;> cases bJ x 16 <;> cases sum <;> simp
  ·simp [m0,m1]
 ·simp [k0,k1,k2]
theorem jF (x kind mode:Int) (sum mxr:Bool) (w:World) (h0:0<=x) (h1:x<=18446744073709551615):
 Calls Tryz.prog 167 #[VU x,VI kind,VI mode,.bool sum,.bool mxr] w fun e w'=>e=.returned (.bool (cG x kind mode sum mxr))∧w'=w:=by
 rw [qQ];cases hk:fI x kind mxr
 ·go_enter Tryz.func167,Tryz.ntmps167;go_wp2_with (first
   | (go_at_call 173;refine (jX x kind mxr _ h0 h1).mono ?_;rintro e w' ⟨rfl,rfl⟩;rw [hk]))
  go_ret;exact ⟨aL (by simp),rfl⟩
 cases hm:fJ x kind mode sum
 ·go_enter Tryz.func167,Tryz.ntmps167;go_wp2_with (first
   | (go_at_call 173;refine (jX x kind mxr _ h0 h1).mono ?_;rintro e w' ⟨rfl,rfl⟩;rw [hk])
   | (go_at_call 174;refine (nj x kind mode sum _ h0 h1).mono ?_;rintro e w' ⟨rfl,rfl⟩;rw [hm]))
  go_ret;exact ⟨aL (by simp),rfl⟩
 ·go_enter Tryz.func167,Tryz.ntmps167;go_wp2_with (first
   | (go_at_call 173;refine (jX x kind mxr _ h0 h1).mono ?_;rintro e w' ⟨rfl,rfl⟩;rw [hk])
   | (go_at_call 174;refine (nj x kind mode sum _ h0 h1).mono ?_;rintro e w' ⟨rfl,rfl⟩;rw [hm])
   | (go_at_call 175;refine (Cm x kind _ h0 h1).mono ?_;rintro e w' ⟨rfl,rfl⟩))
  go_ret;exact ⟨aL (by simp),rfl⟩
theorem ld (level m:Int) (w:World) (h:(level=0∧m=63)∨(level=1∧m=511)∨(level=2∧m=4095)):
 Calls Tryz.prog 185 #[VI level] w fun e w'=>e=.returned (VU m)∧w'=w:=by
 rcases h with ⟨rfl,rfl⟩ | ⟨rfl,rfl⟩ | ⟨rfl,rfl⟩
 ·go_enter Tryz.func185,Tryz.ntmps185;go_wp2_with (go_at_call 88;refine (dy 6 63 _ (by omega)).mono ?_;rintro e w' ⟨rfl,rfl⟩);go_ret;exact ⟨rfl,rfl⟩
 ·go_enter Tryz.func185,Tryz.ntmps185;go_wp2_with (go_at_call 88;refine (dy 9 511 _ (by omega)).mono ?_;rintro e w' ⟨rfl,rfl⟩);go_ret;exact ⟨rfl,rfl⟩
 ·go_enter Tryz.func185,Tryz.ntmps185;go_wp2_with (go_at_call 88;refine (dy 12 4095 _ (by omega)).mono ?_;rintro e w' ⟨rfl,rfl⟩);go_ret;exact ⟨rfl,rfl⟩
theorem FL (x level va:Int) (w:World) (h0:0<=x) (h1:x<=18446744073709551615) (hl:level=0∨level=1∨level=2) (hv0:0<=va) (hv1:va<=18446744073709551615):
 Calls Tryz.prog 181 #[VU x,VI level,VU va] w fun e w'=>e=.returned (VU (fH x level va))∧w'=w:=by
 have hpp:0<=dA x∧dA x<17592186044416:=⟨Int.emod_nonneg _ (by omega),Int.emod_lt_of_pos _ (by omega)⟩;have HP:∀w,Hid (Calls Tryz.prog 179 #[VU x] w fun e w'=>e=.returned (VU (dA x))∧w'=w):=fun w=>vi x w h0 h1;have HE:Hid (fH x level va=dA x*64/gV level*gV level+va%gV level):=by
  show _=_;rw [fH,if_neg (by omega)]
 rw [HE.out];clear HE;generalize dA x=p at *;rcases hl with rfl | rfl | rfl
 ·have H:Hid (bits .or .u64 (bits .andNot .u64 (p*64) 63) (bits .and .u64 va 63)=p*64/gV 0*gV 0+va%gV 0):=
   ot 6 (p*64) va 63 64 rfl rfl (by omega) (by omega) (by omega) hv0 hv1
  go_enter Tryz.func181,Tryz.ntmps181;go_wp2_with (first
   | (go_at_call 179;refine ((HP _).out).mono ?_;rintro e w' ⟨rfl,rfl⟩)
   | (go_at_call 185;refine (ld 0 63 _ (by omega)).mono ?_;rintro e w' ⟨rfl,rfl⟩))
  go_ret;exact ⟨dN H.out,rfl⟩
 ·have H:Hid (bits .or .u64 (bits .andNot .u64 (p*64) 511) (bits .and .u64 va 511)=p*64/gV 1*gV 1+va%gV 1):=
   ot 9 (p*64) va 511 512 rfl rfl (by omega) (by omega) (by omega) hv0 hv1
  go_enter Tryz.func181,Tryz.ntmps181;go_wp2_with (first
   | (go_at_call 179;refine ((HP _).out).mono ?_;rintro e w' ⟨rfl,rfl⟩)
   | (go_at_call 185;refine (ld 1 511 _ (by omega)).mono ?_;rintro e w' ⟨rfl,rfl⟩))
  go_ret;exact ⟨dN H.out,rfl⟩
 ·have H:Hid (bits .or .u64 (bits .andNot .u64 (p*64) 4095) (bits .and .u64 va 4095)=p*64/gV 2*gV 2+va%gV 2):=
   ot 12 (p*64) va 4095 4096 rfl rfl (by omega) (by omega) (by omega) hv0 hv1
  go_enter Tryz.func181,Tryz.ntmps181;go_wp2_with (first
   | (go_at_call 179;refine ((HP _).out).mono ?_;rintro e w' ⟨rfl,rfl⟩)
   | (go_at_call 185;refine (ld 2 4095 _ (by omega)).mono ?_;rintro e w' ⟨rfl,rfl⟩))
  go_ret;exact ⟨dN H.out,rfl⟩
theorem Ee (va level:Int) (w:World) (hv0:0<=va) (hv1:va<=18446744073709551615) (hl:level=0∨level=1∨level=2):
 Calls Tryz.prog 182 #[VU va,VI level] w fun e w'=>e=.returned (VU (da va level))∧∃n,w'=w.drewN n:=by
 rcases hl with rfl | rfl | rfl
 ·have H:=hid (eJ 3 (va/64) 7 rfl (by omega) (by omega) (by omega));go_enter Tryz.func182,Tryz.ntmps182;go_wp2;go_quiet ((go_at_call 88;exact Calls.quiet_of_same (dy 3 7 _ (by omega))));go_wp2;go_ret;exact ⟨dN H.out,nq,rfl⟩
 ·have H:=hid (eJ 3 (va/512) 7 rfl (by omega) (by omega) (by omega));go_enter Tryz.func182,Tryz.ntmps182;go_wp2;go_quiet ((go_at_call 88;exact Calls.quiet_of_same (dy 3 7 _ (by omega))));go_wp2;go_ret;exact ⟨dN H.out,nq,rfl⟩
 ·have H:=hid (eJ 3 (va/4096) 7 rfl (by omega) (by omega) (by omega));go_enter Tryz.func182,Tryz.ntmps182;go_wp2;go_quiet ((go_at_call 88;exact Calls.quiet_of_same (dy 3 7 _ (by omega))));go_wp2;go_ret;exact ⟨dN H.out,nq,rfl⟩
theorem xW (n:Nat):∀(x:Int) (w:World),n<=8->0<=x->x<=18446744073709551615->
 Calls Tryz.prog 124 #[VU x,VI n] w fun e w'=>
  ∃g cap,e=.returned (SL g n cap)∧OwnB 5 w' w.heap.size g n cap (bM x n)∧Bw w w':=by
 induction n with
 | zero=>
  intro x w hn h0 h1;go_enter Tryz.func124,Tryz.ntmps124;go_wp2;go_ret;exact ⟨_,_,rfl,OwnB.new _ _ [] 0 rfl (by decide),(brf).alloc nle _⟩
 | succ n ih=>
  intro x w hn h0 h1;have hp:(((n+1:Nat):Int) == 0)=false:=by simp;omega
  have IH:Hid (∀(x:Int) (w:World),n<=8->0<=x->x<=18446744073709551615->
   Calls Tryz.prog 124 #[VU x,VI n] w fun e w'=>
    ∃g cap,e=.returned (SL g n cap)∧OwnB 5 w' w.heap.size g n cap (bM x n)∧Bw w w'):=ih
  clear ih;go_enter Tryz.func124,Tryz.ntmps124;go_wp2_with fail;have o1:=OwnB.new 5 w [x%256] 1 rfl (by decide);have n1:Bw w (w.alloc (Obj.cells #[Value.int IntKind.u8 (x%256)] 5)):=(brf).alloc nle _;simp only [List.map_cons,List.map_nil] at o1;generalize w.alloc (Obj.cells #[Value.int IntKind.u8 (x%256)] 5)=v1 at o1 n1 |-;refine (IH.out (x/256) v1 (by omega) (by omega) (by omega)).mono ?_;rintro e v2 ⟨g,cap,rfl,o2,n2⟩;have o3:=o1.keep n2 o1.facts.2.2.1;have f2:=o2.facts;have n3:=bst n1 n2;have hlt:=o3.facts.2.2.1;have b2:=o2.byt (bU (eB n _));clear o1 n1 n2 IH;go_wp2_with (at_builtin;refine dC _ rfl (.tmp 11) (.tmp 16) 22 rfl 5 Tryz.underlying22 Tryz.infoB w.heap.size _ _ _ _ rfl o3 g 0 n cap (bM (x/256) n) rfl b2 (by omega) _ _ n3 nle ?_;intro g' cap' v4 o4 n4);go_ret;rw [Nat.add_comm 1 n] at o4;exact ⟨g',cap',zP (Nat.add_comm 1 n),o4,n4⟩
theorem BJ (b off len cap k g o n capb:Nat) (zs ys:List Int) (w:World) (hz:Byt w (some (AD b off)) len zs) (hy:Byt w (some (AD g o)) n ys) (hl:len<=1048576) (hk:k+n<=len) (hc:len<=cap) (hm:cap<=9223372036854775807):
 Calls Tryz.prog 125 #[.slice (some (AD b off)) len cap,VI k,.slice (some (AD g o)) n capb] w fun e w'=>
  ∃g' cap',e=.returned (SL g' len cap')∧OwnB 5 w' w.heap.size g' len cap' (zs.take k++ys++zs.drop (k+n))∧Bw w w':=by
 have hzl:=hz.1;have hyl:=hy.1;have o1:=OwnB.new 5 w [] 0 rfl (by decide);have n1:Bw w (w.alloc (Obj.cells #[] 5)):=(brf).alloc nle _;simp only [List.map_nil] at o1;have x1:=(hz.take k (by omega)).keep n1;have fin:∀(a:Option Addr),(k+n<len->a=some ⟨b,off+(k+n),none⟩)->∀v:World,Bw w v->Byt v a (len-(k+n)) (zs.drop (k+n)):=fun a ha v hv=>
  (hz.drop (k+n) (len-(k+n)) hk rfl a ha).keep hv
 have FIN:Hid _:=fin;have hlen:k+n+(len-(k+n))=len:=by omega
 have HL:=hid hlen;clear fin hlen;by_cases hcc:cap=k+n
 ·subst hcc;go_enter Tryz.func125,Tryz.ntmps125;go_wp2_with (first
   | (at_builtin;refine dC _ rfl (.tmp 8) (.tmp 11) 22 rfl 5 Tryz.underlying22 Tryz.infoB w.heap.size _ _ _ _ rfl o1 b off k _ (zs.take k) rfl x1 (by omega) _ _ n1 nle ?_;intro g2 cap2 v2 o2 n2;rw [Nat.zero_add] at o2 |-;have y2:=hy.keep n2;clear o1 n1 x1)
   | (at_builtin;refine dC _ rfl (.tmp 13) (.tmp 14) 22 rfl 5 Tryz.underlying22 Tryz.infoB w.heap.size _ _ _ _ rfl o2 g o n _ ys rfl y2 (by omega) _ _ n2 nle ?_;intro g3 cap3 v3 o3 n3;clear o2 n2 y2 hz hy)
   | (at_builtin;refine dC _ rfl (.tmp 16) (.tmp 22) 22 rfl 5 Tryz.underlying22 Tryz.infoB w.heap.size _ _ _ _ rfl o3 b (off) (len-(k+n)) _ (zs.drop (k+n)) rfl (FIN.out _ (fun h=>by omega) _ n3) (by omega) _ _ n3 nle ?_;intro g4 cap4 v4 o4 n4;clear o3 n3))
  go_ret;rw [HL.out] at o4;exact ⟨g4,cap4,zP (by omega),o4,n4⟩
 ·have hcl:k+n<cap:=by omega
  clear hcc;go_enter Tryz.func125,Tryz.ntmps125;go_wp2_with (first
   | (at_builtin;refine dC _ rfl (.tmp 8) (.tmp 11) 22 rfl 5 Tryz.underlying22 Tryz.infoB w.heap.size _ _ _ _ rfl o1 b off k _ (zs.take k) rfl x1 (by omega) _ _ n1 nle ?_;intro g2 cap2 v2 o2 n2;rw [Nat.zero_add] at o2 |-;have y2:=hy.keep n2;clear o1 n1 x1)
   | (at_builtin;refine dC _ rfl (.tmp 13) (.tmp 14) 22 rfl 5 Tryz.underlying22 Tryz.infoB w.heap.size _ _ _ _ rfl o2 g o n _ ys rfl y2 (by omega) _ _ n2 nle ?_;intro g3 cap3 v3 o3 n3;clear o2 n2 y2 hz hy)
   | (at_builtin;refine dC _ rfl (.tmp 16) (.tmp 22) 22 rfl 5 Tryz.underlying22 Tryz.infoB w.heap.size _ _ _ _ rfl o3 b (off+(k+n)) (len-(k+n)) _ (zs.drop (k+n)) rfl (FIN.out _ (fun _=>rfl) _ n3) (by omega) _ _ n3 nle ?_;intro g4 cap4 v4 o4 n4;clear o3 n3))
  go_ret;rw [HL.out] at o4;exact ⟨g4,cap4,zP (by omega),o4,n4⟩
theorem qZ (a:Option Addr) (len cap:Nat) (addr n:Int) (w:World) (hl:len<=1048576) (h0:0<=addr) (h1:addr<=18446744073709551615) (h2:0<=n) (h3:n<=18446744073709551615):
 Calls Tryz.prog 75 #[.slice a len cap,VU addr,VU n] w fun e w'=>e=.returned (.bool (fD len addr n))∧w'=w:=by
 by_cases hh:n<=(len:Int);all_goals
  go_enter Tryz.func75,Tryz.ntmps75;go_wp2;all_goals
   go_ret;exact ⟨by simp [fD];try omega,rfl⟩
theorem tZ (a:Option Addr) (len cap:Nat) (addr n:Int) (w:World) (hl:len<=1048576) (h0:0<=addr) (h1:addr<=18446744073709551615) (h3:n<=9223372036854775807):
 Calls Tryz.prog 189 #[.slice a len cap,VU addr,VI n] w fun e w'=>e=.returned (.bool (dO len addr n))∧w'=w:=by
 by_cases hn:n=1∨n=2∨n=4∨n=8
 ·rw [<-mx len addr n hn];rcases hn with rfl | rfl | rfl | rfl;all_goals
   go_enter Tryz.func189,Tryz.ntmps189;go_wp2_with (go_at_call 75;refine (qZ _ _ _ _ _ _ hl h0 h1 (by omega) (by omega)).mono ?_;rintro e w' ⟨rfl,rfl⟩);go_ret;exact ⟨rfl,rfl⟩
 ·have n1:(n == 1)=false:=by simp;omega
  have n2:(n == 2)=false:=by simp;omega
  have n4:(n == 4)=false:=by simp;omega
  have n8:(n == 8)=false:=by simp;omega
  have hg:dO len addr n=false:=by simp [dO];omega
  rw [hg];clear hn hg;go_enter Tryz.func189,Tryz.ntmps189;go_wp2;go_ret;exact ⟨rfl,rfl⟩
theorem mz (b off len cap k:Nat) (zs:List Int) (w:World) (h:Cel w b off len zs) (hk:k<len) (hl:len<=1048576):
 Calls Tryz.prog 108 #[.slice (some (AD b off)) len cap,VU k] w fun e w'=>e=.returned (VU (zs[k]?.getD 0))∧w'=w:=by
 have hcell:=h.2.2 k hk;have hb:=h.2.1 k;obtain ⟨z,hz'⟩:∃z,z=zs[k]?.getD 0:=⟨_,rfl⟩;rw [<-hz'] at hcell hb |-;clear hz' h;go_enter Tryz.func108,Tryz.ntmps108;go_wp2;go_ret;exact ⟨rfl,rfl⟩
theorem ua (b off len cap k:Nat) (zs:List Int) (w:World) (h:Cel w b off len zs) (hk:k+2<=len) (hl:len<=1048576):
 Calls Tryz.prog 192 #[.slice (some (AD b off)) len cap,VU k] w fun e w'=>e=.returned (VU (num ((zs.drop k).take 2)))∧w'=w:=by
 have hb1:=h.2.1 k;have hb2:=h.2.1 (k+1);have HF:Hid (bits .or .u64 (zs[k]?.getD 0) (zs[k+1]?.getD 0*256)=num ((zs.drop k).take 2)):=by
  rw [EN zs k (by have:=h.1;omega)];exact eV 8 256 _ _ rfl hb1.1 (by omega) hb2.1 (by omega) (by omega)
 go_enter Tryz.func192,Tryz.ntmps192;go_wp2_with fail;refine (mz b off len cap k zs w h (by omega) hl).mono ?_;rintro e w' ⟨rfl,rfl⟩;go_wp2_with fail;rw [show ((k:Int)+1)=((k+1:Nat):Int) by omega];refine (mz b off len cap (k+1) zs _ h (by omega) hl).mono ?_;rintro e w' ⟨rfl,rfl⟩;go_wp2;go_ret;exact ⟨dN HF.out,rfl⟩
theorem ub (b off len cap k:Nat) (zs:List Int) (w:World) (h:Cel w b off len zs) (hk:k+4<=len) (hl:len<=1048576):
 Calls Tryz.prog 191 #[.slice (some (AD b off)) len cap,VU k] w fun e w'=>e=.returned (VU (num ((zs.drop k).take 4)))∧w'=w:=by
 have hb1:=fY zs k 2 h.2.1;have hb2:=fY zs (k+2) 2 h.2.1;simp at hb1 hb2;have HF:Hid (bits .or .u64 (num ((zs.drop k).take 2)) (num ((zs.drop (k+2)).take 2)*65536)=num ((zs.drop k).take 4)):=by
  rw [xg zs k 2 (by have:=h.1;omega)];exact eV 16 65536 _ _ rfl hb1.1 (by omega) hb2.1 (by omega) (by omega)
 go_enter Tryz.func191,Tryz.ntmps191;go_wp2_with fail;refine (ua b off len cap k zs w h (by omega) hl).mono ?_;rintro e w' ⟨rfl,rfl⟩;go_wp2_with fail;rw [show ((k:Int)+2)=((k+2:Nat):Int) by omega];refine (ua b off len cap (k+2) zs _ h (by omega) hl).mono ?_;rintro e w' ⟨rfl,rfl⟩;go_wp2;go_ret;exact ⟨dN HF.out,rfl⟩
theorem Bk (b off len cap k:Nat) (zs:List Int) (w:World) (h:Cel w b off len zs) (hk:k+8<=len) (hl:len<=1048576):
 Calls Tryz.prog 190 #[.slice (some (AD b off)) len cap,VU k] w fun e w'=>e=.returned (VU (num ((zs.drop k).take 8)))∧w'=w:=by
 have hb1:=fY zs k 4 h.2.1;have hb2:=fY zs (k+4) 4 h.2.1;simp at hb1 hb2;have HF:Hid (bits .or .u64 (num ((zs.drop k).take 4)) (num ((zs.drop (k+4)).take 4)*4294967296)=num ((zs.drop k).take 8)):=by
  rw [xg zs k 4 (by have:=h.1;omega)];exact eV 32 4294967296 _ _ rfl hb1.1 (by omega) hb2.1 (by omega) (by omega)
 go_enter Tryz.func190,Tryz.ntmps190;go_wp2_with fail;refine (ub b off len cap k zs w h (by omega) hl).mono ?_;rintro e w' ⟨rfl,rfl⟩;go_wp2_with fail;rw [show ((k:Int)+4)=((k+4:Nat):Int) by omega];refine (ub b off len cap (k+4) zs _ h (by omega) hl).mono ?_;rintro e w' ⟨rfl,rfl⟩;go_wp2;go_ret;exact ⟨dN HF.out,rfl⟩
end Go.Proofs.YthdgiakgepmabaaGreat

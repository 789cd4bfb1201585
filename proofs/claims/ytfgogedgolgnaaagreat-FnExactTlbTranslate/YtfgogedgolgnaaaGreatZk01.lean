import Derived.WalkKit
import Derived.OpenShut
import Derived.Laws.BitsAllLaws
import Derived.Laws.AppendOwnNone
import Derived.Laws.CopyOwn
import Derived.Deep.QuietTactic
import Derived.BigQuiet
import Derived.WalkSmall
import Derived.Test.YtfgogedgolgnaaaGreatRows
namespace Go.Proofs.YtfgogedgolgnaaaGreat
open Go.RowKit
set_option linter.unusedVariables false
set_option maxHeartbeats 6400000
set_option maxRecDepth 20000
def Byt (w:World) (a:Option Addr) (len:Nat) (zs:List Int):Prop:=
 zs.length=len∧(∀i:Nat,0<=zs[i]?.getD 0∧zs[i]?.getD 0<=255)∧
 (len=0∨∃b off,a=some ⟨b,off,none⟩∧b<w.heap.size∧∀i,i<len->w.cell? ⟨b,off+i,none⟩=some (.int .u8 (zs[i]?.getD 0)))
def Blk (e:TypeId) (w:World) (g:Nat) (zs:List Int):Prop:=
 w.heap[g]?=some (.cells (zs.map (Value.int .u8)).toArray e (0,0))
theorem Byt.keep {w w':World} {a:Option Addr} {len:Nat} {zs:List Int} (h:Byt w a len zs) (hb:Below w.heap.size w w'):Byt w' a len zs:=by
 obtain ⟨h1,h2,h3⟩:=h;refine ⟨h1,h2,?_⟩;rcases h3 with h3 | ⟨b,off,rfl,hlt,hc⟩
 ·exact .inl h3
 ·exact .inr ⟨b,off,rfl,Nat.lt_of_lt_of_le hlt hb.size,fun i hi=>(hb.cell (p:=⟨b,off+i,none⟩) hlt).trans (hc i hi)⟩
theorem Blk.lt {e:TypeId} {w:World} {g:Nat} {zs:List Int} (h:Blk e w g zs):g<w.heap.size:=by
 unfold Blk at h;exact (Array.getElem?_eq_some_iff.1 h).1
theorem Blk.keep {e:TypeId} {B:Nat} {w w':World} {g:Nat} {zs:List Int} (h:Blk e w g zs) (hb:Below B w w') (hg:g<B):Blk e w' g zs:=by
 unfold Blk at *;rw [hb.block g hg,h]
theorem Blk.gb {e:TypeId} {w w':World} {g r:Nat} {zs:List Int} (h:Blk e w g zs) (hg:w.grownBy w' (some r)) (hne:g≠r):Blk e w' g zs:=by
 have hlt:=h.lt;unfold Blk at *;rw [hg.block g hlt (by simpa using hne),h]
theorem Below.gb {B:Nat} {a w w':World} {r:Nat} (h:Below B a w) (hg:w.grownBy w' (some r)) (hB:B<=r) (hr:r<w.heap.size):Below B a w':=
 h.grown hg (by omega) (fun k hk=>by cases hk;exact hB)
theorem Blk.cell {e:TypeId} {w:World} {g:Nat} {zs:List Int} (h:Blk e w g zs) (i:Nat) (hi:i<zs.length):w.cell? ⟨g,i,none⟩=some (.int .u8 (zs[i]?.getD 0)):=by
 unfold Blk at h;simp [World.cell?,h,hi]
theorem Blk.free {e:TypeId} {w:World} {g:Nat} {zs:List Int} (h:Blk e w g zs) (i:Nat):w.frozen? ⟨g,i,none⟩=false:=by
 unfold Blk at h;simp [World.frozen?,h]
theorem Blk.byt {e:TypeId} {w:World} {g:Nat} {zs:List Int} (h:Blk e w g zs) (hz:∀i:Nat,0<=zs[i]?.getD 0∧zs[i]?.getD 0<=255):Byt w (some ⟨g,0,none⟩) zs.length zs:=
 ⟨rfl,hz,.inr ⟨g,0,rfl,h.lt,fun i hi=>by simpa using h.cell i hi⟩⟩
theorem Blk.store {e:TypeId} {w:World} {g:Nat} {zs:List Int} (h:Blk e w g zs) (i:Nat) (z:Int):Blk e (w.setCell ⟨g,i,none⟩ (.int .u8 z)) g (zs.set i z):=by
 have hlt:=h.lt;unfold Blk at *;simp [World.setCell,Array.getElem?_modify,h]
theorem Blk.of_own {e:TypeId} {w:World} {base g n:Nat} {zs:List Int} {cap:Nat} (h:w.ownsRow base e 1 (.slice (some ⟨g,0,none⟩) n cap) n (zs.map (Value.int .u8))) (hc:cap=n):Blk e w g zs:=by
 obtain ⟨h1,h2⟩:=h;rcases h2 with ⟨h2,_⟩ | ⟨g',cap',cur,h2,hb,hh,hn,hm,hs,ht⟩
 ·simp at h2
 ·simp at h2;obtain ⟨rfl,rfl⟩:=h2;unfold Blk;rw [hh];have:cur=(zs.map (Value.int .u8)).toArray:=by
   rw [<-ht,List.take_of_length_le (by simp;omega)]
  rw [this]
theorem bm (v:World) (cs:Array Value) (t:TypeId):v.heap.size<(v.alloc (.cells cs t)).heap.size∧(∀i,(v.alloc (.cells cs t)).cell? ⟨v.heap.size,i,none⟩=cs[i]?)∧Below v.heap.size v (v.alloc (.cells cs t)):=
 ⟨by simp,fun i=>World.cell?_alloc_at _ _ _ _ rfl,(Below.refl _ _).alloc (Nat.le_refl _) _⟩
theorem Below.step {B:Nat} {a b c:World} (h:Below B a b) (k:Below b.heap.size b c) (hB:B<=a.heap.size):Below B a c:=h.trans (k.mono (Nat.le_trans hB h.size))
theorem Below.cell2 {w w':World} (h:Below w.heap.size w w') {b o:Nat} {x:Option Value} (hc:w.cell? ⟨b,o,none⟩=x) (hb:b<w.heap.size):w'.cell? ⟨b,o,none⟩=x:=(h.cell (p:=⟨b,o,none⟩) hb).trans hc
def OwnB (e:TypeId) (w:World) (base g n cap:Nat) (zs:List Int):Prop:=
 w.ownsRow base e 1 (.slice (some ⟨g,0,none⟩) n cap) n (zs.map (Value.int .u8))
theorem OwnB.new (e:TypeId) (w:World) (zs:List Int) (n:Nat) (hn:zs.length=n) (hm:n<=maxLen):OwnB e (w.alloc (.cells (zs.map (Value.int .u8)).toArray e)) w.heap.size w.heap.size n n zs:=
 ⟨by simp [hn],.inr ⟨w.heap.size,n,_,rfl,Nat.le_refl _,heap_alloc_new w _,Nat.le_refl _,hm,by simp [hn],List.take_of_length_le (by simp [hn])⟩⟩
theorem OwnB.facts {e:TypeId} {w:World} {base g n cap:Nat} {zs:List Int} (h:OwnB e w base g n cap zs):
 zs.length=n∧base<=g∧g<w.heap.size∧n<=cap∧cap<=maxLen:=by
 obtain ⟨h1,h2⟩:=h;rcases h2 with ⟨h2,_⟩ | ⟨g',cap',cur,h2,hb,hh,hn,hm,hs,ht⟩
 ·simp at h2
 ·simp at h2;obtain ⟨rfl,rfl⟩:=h2;exact ⟨by simpa using h1,hb,(Array.getElem?_eq_some_iff.1 hh).1,hn,hm⟩
theorem OwnB.cell {e:TypeId} {w:World} {base g n cap:Nat} {zs:List Int} (h:OwnB e w base g n cap zs) (i:Nat) (hi:i<n):w.cell? ⟨g,i,none⟩=some (.int .u8 (zs[i]?.getD 0)):=by
 have hl:=h.facts.1;have:=World.ownsRow.cellAt h i (by omega);rw [this];simp [show i<zs.length by omega]
theorem OwnB.byt {e:TypeId} {w:World} {base g n cap:Nat} {zs:List Int} (h:OwnB e w base g n cap zs) (hz:∀i:Nat,0<=zs[i]?.getD 0∧zs[i]?.getD 0<=255):Byt w (some ⟨g,0,none⟩) n zs:=
 ⟨h.facts.1,hz,.inr ⟨g,0,rfl,h.facts.2.2.1,fun i hi=>by simpa using h.cell i hi⟩⟩
theorem OwnB.keep {e:TypeId} {B:Nat} {w w':World} {base g n cap:Nat} {zs:List Int} (h:OwnB e w base g n cap zs) (hb:Below B w w') (hg:g<B):OwnB e w' base g n cap zs:=by
 obtain ⟨h1,h2⟩:=h;refine ⟨h1,?_⟩;rcases h2 with ⟨h2,_⟩ | ⟨g',cap',cur,h2,hb',hh,r⟩
 ·simp at h2
 ·have hh':=h2;simp at hh';obtain ⟨rfl,rfl⟩:=hh';exact .inr ⟨_,_,cur,h2,hb',by rw [hb.block _ hg];exact hh,r⟩
theorem OwnB.of_append {e:TypeId} {w':World} {base g n cap m:Nat} {v':Value} {xs ys:List Int} (h:w'.ownsRow base e 1 v' (n+m) (xs.map (Value.int .u8)++ys.map (Value.int .u8)))
 (hv:v'=.slice none 0 0↔(Value.slice (some ⟨g,0,none⟩) n cap)=.slice none 0 0∧m=0):∃g' cap',v'=.slice (some ⟨g',0,none⟩) (n+m) cap'∧OwnB e w' base g' (n+m) cap' (xs++ys):=by
 rcases h.2 with ⟨h2,_⟩ | ⟨g',cap',cur,h2,r⟩
 ·have:=hv.1 h2;simp at this
 ·refine ⟨g',cap',h2,?_⟩;subst h2;unfold OwnB;rw [List.map_append];exact h
theorem OwnB.grown {e:TypeId} {B:Nat} {a w w':World} {base g n cap:Nat} {zs:List Int} (h:Below B a w) (o:OwnB e w base g n cap zs) (hg:w.grownBy w' (Value.slice (some ⟨g,0,none⟩) n cap).ownBlock) (hB:B<=base):Below B a w':=by
 have f:=o.facts;exact h.grown hg (by omega) (fun k hk=>by cases hk;show B<=g;omega)
theorem Byt.of_row {w:World} {a:Option Addr} {len cap:Nat} {zs:List Int}
 (h:(a=none∧len=0∧cap=0∧zs=[])∨
   ∃x,a=some x∧len<=cap∧cap<=maxLen∧zs.length=cap∧(∀i,i<zs.length->w.cell? (x.add i)=some (.int .u8 (zs.getD i 0)))∧∀n∈zs,(Lit.int .u8 n).wf=true):
 Byt w a len (zs.take len)∧len<=cap∧cap<=9223372036854775807:=by
 rcases h with ⟨rfl,rfl,rfl,rfl⟩ | ⟨x,rfl,hl,hm,hz,hcell,hwz⟩
 ·exact ⟨⟨rfl,fun i=>by simp,.inl rfl⟩,by omega,by omega⟩
 ·refine ⟨⟨by simp;omega,fun i=>?_,?_⟩,hl,by unfold maxLen at hm;omega⟩
  ·by_cases hi:i<len
   ·have:=bounds_u8 (hwz (zs[i]'(by omega)) (List.getElem_mem _));simp [hi,show i<zs.length by omega];omega
   ·simp [List.getElem?_take,hi]
  ·by_cases h0:len=0
   ·exact .inl h0
   ·obtain ⟨b,off,spot⟩:=x;have hc:=hcell 0 (by omega);have hspot:spot=none:=by simpa [Addr.add] using World.cell?_spot hc
    subst hspot;refine .inr ⟨b,off,rfl,?_,fun i hi=>?_⟩
    ·have hc0:w.cell? ⟨b,off,none⟩=some (.int .u8 (zs.getD 0 0)):=by simpa [Addr.add] using hc
     unfold World.cell? at hc0;split at hc0
     ·next he=>exact (Array.getElem?_eq_some_iff.1 he).1
     ·cases hc0
    ·have hci:=hcell i (by omega);have e:Addr.add ⟨b,off,none⟩ i=⟨b,off+i,none⟩:=by
      unfold Addr.add;split
      ·next h=>subst h;rfl
      ·rfl
     rw [e] at hci;simpa [List.getElem?_take,hi] using hci
theorem ku (k:Nat) (ys zs:List Int) (hy:k<ys.length) (hz:k<zs.length) (h:∀j,j<k->ys[j]?=zs[j]?):∀j,j<k+1->(ys.set k zs[k])[j]?=zs[j]?:=by
 intro j hj;by_cases e:j=k
 ·subst e;simp [hy,hz]
 ·rw [List.getElem?_set_ne (by omega)];exact h j (by omega)
def jL (len:Nat) (addr n:Int):Bool:=decide (n<=len∧addr<=len-n)
def bw (len:Nat) (addr n:Int):Bool:=decide ((n=1∨n=2∨n=4∨n=8)∧n<=len∧addr<=len-n)
def num:List Int->Int
 | []=>0
 | b::r=>b+256*num r
theorem gV (len:Nat) (addr n:Int) (h:n=1∨n=2∨n=4∨n=8):jL len addr n=bw len addr n:=by
 simp [jL,bw,h]
theorem jM:∀(zs:List Int) (k:Nat),(∀z∈zs,0<=z∧z<=255)->zs.length<=k->0<=num zs∧num zs<256^k
 | [],k,_,_=>by simp [num];exact Int.pow_pos (by omega)
 | b::r,0,_,h=>by simp at h
 | b::r,k+1,hz,h=>by
  have ih:=jM r k (fun z hz'=>hz z (by simp [hz'])) (by simpa using h);have hb:=hz b (by simp);have e:(256:Int)^(k+1)=256^k*256:=Int.pow_succ _ _;simp only [num];omega
theorem lC {z:Int} {r:List Int} (h:∀i:Nat,0<=(z::r)[i]?.getD 0∧(z::r)[i]?.getD 0<=255):∀x∈r,0<=x∧x<=255:=by
 intro x hx;obtain ⟨i,hi,rfl⟩:=List.getElem_of_mem hx;simpa [hi] using h (i+1)
theorem jN (xs ys:List Int):num (xs++ys)=num xs+256^xs.length*num ys:=by
 induction xs with
 | nil=>simp [num]
 | cons x r ih=>
  simp only [List.cons_append,num,ih,List.length_cons,Int.pow_succ];rw [Int.mul_add,Int.add_assoc,Int.mul_comm (256^r.length) 256,Int.mul_assoc]
theorem lD (zs:List Int) (k:Nat) (h:k+2<=zs.length):num ((zs.drop k).take 2)=zs[k]?.getD 0+zs[k+1]?.getD 0*256:=by
 rw [List.drop_eq_getElem_cons (by omega),List.take_succ_cons,List.drop_eq_getElem_cons (by omega),List.take_succ_cons];simp [num,show k<zs.length by omega,show k+1<zs.length by omega,Int.mul_comm]
theorem ja (zs:List Int) (k m:Nat) (h:k+2*m<=zs.length):num ((zs.drop k).take (2*m))=num ((zs.drop k).take m)+num ((zs.drop (k+m)).take m)*256^m:=by
 have e:(zs.drop k).take (2*m)=(zs.drop k).take m++(zs.drop (k+m)).take m:=by
  rw [show 2*m=m+m by omega,List.take_add,List.drop_drop]
 rw [e,jN,List.length_take,List.length_drop,Nat.min_eq_left (by omega),Int.mul_comm]
theorem cZ (zs:List Int) (k m:Nat) (h2:∀i:Nat,0<=zs[i]?.getD 0∧zs[i]?.getD 0<=255):0<=num ((zs.drop k).take m)∧num ((zs.drop k).take m)<256^m:=by
 refine jM _ m (fun z hz=>?_) (by simp;omega);have hz':=List.mem_of_mem_drop (List.mem_of_mem_take hz);obtain ⟨i,hi,rfl⟩:=List.getElem_of_mem hz';simpa [hi] using h2 i
def rdV (zs:List Int) (addr n:Int):Int:=if bw zs.length addr n then num ((zs.drop addr.toNat).take n.toNat) else 0
def put (zs:List Int) (k:Nat) (ys:List Int):List Int:=zs.take k++ys++zs.drop (k+ys.length)
def mks (k:Int):Nat->List Int
 | 0=>[]
 | n+1=>mks k n++[(k+n)%256]
theorem eO (k:Int):∀n,(mks k n).length=n
 | 0=>rfl
 | n+1=>by simp [mks,eO k n]
theorem kP (k:Int):∀(n i:Nat),i<n->(mks k n)[i]?=some ((k+i)%256)
 | 0,i,h=>by omega
 | n+1,i,h=>by
  by_cases e:i<n
  ·rw [mks,List.getElem?_append_left (by rw [eO];exact e)];exact kP k n i e
  ·have e':i=n:=by omega
   subst e';rw [mks,List.getElem?_append_right (by rw [eO];exact Nat.le_refl _),eO];simp
theorem kv (k0:Int) (len j:Nat) (ys:List Int) (hy:ys.length=len) (hj:j<len) (h:∀t,t<j->ys[t]?=(mks k0 len)[t]?):∀t,t<j+1->(ys.set j ((k0+j)%256))[t]?=(mks k0 len)[t]?:=by
 intro t ht;by_cases e:t=j
 ·subst e;rw [kP k0 len t hj];simp [hy,hj]
 ·rw [List.getElem?_set_ne (by omega)];exact h t (by omega)
theorem lT (n:Nat):(madeCells #[Value.int .u8 0] n).toList=(List.replicate n (0:Int)).map (Value.int .u8):=by
 apply List.ext_getElem
 ·simp [madeCells]
 ·intro i h1 h2;simp [madeCells,Nat.mod_one]
theorem le {w:World} {a:Option Addr} {b off len:Nat} {z:Int} {r:List Int} (h2:∀i:Nat,0<=(z::r)[i]?.getD 0∧(z::r)[i]?.getD 0<=255) (hr:r.length=len) (hb:b<w.heap.size)
 (hc:∀i,i<len+1->w.cell? ⟨b,off+i,none⟩=some (.int .u8 ((z::r)[i]?.getD 0))) (ha:0<len->a=some ⟨b,off+1,none⟩):Byt w a len r:=by
 refine ⟨hr,fun i=>by simpa using h2 (i+1),?_⟩;by_cases h:len=0
 ·exact .inl h
 ·refine .inr ⟨b,off+1,ha (by omega),hb,fun i hi=>?_⟩;have:=hc (i+1) (by omega);simpa [Nat.add_assoc,Nat.add_comm 1 i] using this
theorem lU {w:World} {a:Option Addr} {b off len k n:Nat} {zs:List Int} (h2:∀i:Nat,0<=zs[i]?.getD 0∧zs[i]?.getD 0<=255) (hz:zs.length=len) (hb:b<w.heap.size) (hk:k+n<=len)
 (hc:∀i,i<len->w.cell? ⟨b,off+i,none⟩=some (.int .u8 (zs[i]?.getD 0))) (ha:0<n->a=some ⟨b,off+k,none⟩):Byt w a n ((zs.drop k).take n):=by
 refine ⟨by simp;omega,fun i=>?_,?_⟩
 ·by_cases h:i<n
  ·simpa [List.getElem?_take,h] using h2 (k+i)
  ·simp [List.getElem?_take,h]
 ·by_cases h:n=0
  ·exact .inl h
  ·refine .inr ⟨b,off+k,ha (by omega),hb,fun i hi=>?_⟩;have:=hc (k+i) (by omega);simpa [List.getElem?_take,hi,Nat.add_assoc] using this
theorem Byt.take {w:World} {a:Option Addr} {len:Nat} {zs:List Int} (h:Byt w a len zs) (k:Nat) (hk:k<=len):Byt w a k (zs.take k):=by
 obtain ⟨h1,h2,h3⟩:=h;refine ⟨by simp;omega,fun i=>?_,?_⟩
 ·by_cases hi:i<k
  ·simpa [List.getElem?_take,hi] using h2 i
  ·simp [List.getElem?_take,hi]
 ·rcases h3 with h3 | ⟨b,off,rfl,hb,hc⟩
  ·exact .inl (by omega)
  ·exact .inr ⟨b,off,rfl,hb,fun i hi=>by simpa [List.getElem?_take,hi] using hc i (by omega)⟩
theorem Byt.drop {w:World} {b off len:Nat} {zs:List Int} (h:Byt w (some ⟨b,off,none⟩) len zs) (k m:Nat) (hk:k<=len) (hm:m=len-k) (a:Option Addr) (ha:k<len->a=some ⟨b,off+k,none⟩):Byt w a m (zs.drop k):=by
 obtain ⟨h1,h2,h3⟩:=h;refine ⟨by clear h3;simp;omega,fun i=>by simpa using h2 (k+i),?_⟩;by_cases h0:m=0
 ·exact .inl h0
 ·rcases h3 with h3 | ⟨b',off',e,hb,hc⟩
  ·omega
  ·simp at e;obtain ⟨rfl,rfl⟩:=e;exact .inr ⟨b,off+k,ha (by omega),hb,fun i hi=>by simpa [Nat.add_assoc] using hc (k+i) (by omega)⟩
def Cel (w:World) (b off len:Nat) (zs:List Int):Prop:=
 zs.length=len∧(∀i:Nat,0<=zs[i]?.getD 0∧zs[i]?.getD 0<=255)∧∀i,i<len->w.cell? ⟨b,off+i,none⟩=some (.int .u8 (zs[i]?.getD 0))
theorem eZ (s:Nat) (P x y:Int) (hP:P=2^s) (h0:0<=x) (h1:x<P) (h2:0<=y) (h3:y*P<18446744073709551616) (h4:x<18446744073709551616):bits .or .u64 x (y*P)=x+y*P:=by
 obtain ⟨a,rfl⟩:=Int.eq_ofNat_of_zero_le h0;obtain ⟨b,rfl⟩:=Int.eq_ofNat_of_zero_le h2;have e:(b:Int)*P=((2^s*b:Nat):Int):=by rw [hP];push_cast;rw [Int.mul_comm]
 rw [e] at h3 |-;rw [u64_or_nat a (2^s*b) (by omega) (by omega),Nat.or_comm,<-Nat.two_pow_add_eq_or_of_lt (by rw [hP] at h1;exact_mod_cast h1)]
 push_cast
 omega
theorem br {a b:Int} (h:a=b):Ending.returned (.int .u64 a)=.returned (.int .u64 b):=by rw [h]
theorem Cel.of_byt {w:World} {b off len:Nat} {zs:List Int} (h:Byt w (some ⟨b,off,none⟩) len zs):Cel w b off len zs:=by
 obtain ⟨h1,h2,h3⟩:=h;refine ⟨h1,h2,fun i hi=>?_⟩;rcases h3 with h3 | ⟨b',off',e,hb,hc⟩
 ·omega
 ·simp at e;obtain ⟨rfl,rfl⟩:=e;exact hc i hi
theorem aO (w:World) (r:Option Nat):w.grownBy w r:=⟨rfl,rfl,rfl,Nat.le_refl _,fun _ _ _=>rfl⟩
theorem aj {w v:World} {g:Nat} (h:w.grownBy v (some g)) (i:Nat) (u:Value):w.grownBy (v.setCell ⟨g,i,none⟩ u) (some g):=
 ⟨h.os,h.tape,h.output,by simpa [World.setCell] using h.size,fun k hk hn=>by
  rw [Below.heap_setCell _ _ _ _ (by intro e;exact hn (by rw [e]))];exact h.block k hk hn⟩
theorem Byt.gb {w w':World} {b off len g:Nat} {zs:List Int} (h:Byt w (some ⟨b,off,none⟩) len zs) (hg:w.grownBy w' (some g)) (hne:b≠g):Byt w' (some ⟨b,off,none⟩) len zs:=by
 obtain ⟨h1,h2,h3⟩:=h;refine ⟨h1,h2,?_⟩;rcases h3 with h3 | ⟨b',off',e,hlt,hc⟩
 ·exact .inl h3
 ·simp at e;obtain ⟨rfl,rfl⟩:=e;exact .inr ⟨b,off,rfl,Nat.lt_of_lt_of_le hlt hg.size,fun i hi=>(World.cell?_of_block (hg.block b hlt (by simpa using hne))).trans (hc i hi)⟩
theorem bS (k:Nat) (x m:Int) (hm:m=2^k-1) (hk:m<18446744073709551616) (h0:0<=x) (h1:x<=18446744073709551615):bits .and .u64 x m=x%2^k:=by
 obtain ⟨a,rfl⟩:=Int.eq_ofNat_of_zero_le h0;have hp:1<=(2^k:Nat):=Nat.one_le_two_pow;have e:m=((2^k-1:Nat):Int):=by rw [hm];push_cast [hp];rfl
 rw [e] at hk |-;rw [u64_and_nat a (2^k-1) (by omega) (by omega),Nat.and_two_pow_sub_one_eq_mod]
 push_cast
 rfl
theorem Tryz.infoB:(Tryz.prog.info? 5).map (fun i=>(i.zero,i.size,i.bytes))=some (some (.int .u8 0),1,1):=by kernel_rfl
theorem jm (a:Option Addr) (len cap:Nat) (zs:List Int) (w:World) (h:Byt w a len zs) (hl:len<=1048576):
 Calls Tryz.prog 6 #[.slice a len cap] w fun e w'=>
  e=.returned (.slice (some ⟨w.heap.size,0,none⟩) len len)∧Blk 5 w' w.heap.size zs∧Below w.heap.size w w':=by
 obtain ⟨i0,hi,hz0,hz1,hz2⟩:=info_parts Tryz.infoB;obtain ⟨h1,h2,h3⟩:=h;go_enter Tryz.func6,Tryz.ntmps6;go_wp2_with (at_make;refine wpList_make_full _ rfl _ _ 22 rfl w.heap.size 5 i0 (.int .u8 0) 1 Tryz.underlying22 hi hz0 hz1 _ _ _ _ len rfl rfl rfl rfl ?b2 ?b3 (Nat.le_refl _) ?_)
 case b2=>rw [hz2];omega
 case b3=>unfold maxLen;omega
 intro w0 hown0 hgrow0;rw [lT] at hown0;have hb0:Blk 5 w0 w.heap.size (List.replicate len 0):=Blk.of_own hown0 rfl;have hn0:Below w.heap.size w w0:=(Below.refl _ _).grown hgrow0 (Nat.le_refl _) (fun k h=>by cases h);clear hown0 hgrow0;go_wp2;go_loopw [4] (fun i wr=>∃(k:Nat) (ys:List Int),k<=len∧i=.int .i64 k∧ys.length=len∧(∀j,j<k->ys[j]?=zs[j]?)∧Blk 5 wr w.heap.size ys∧Below w.heap.size w wr) (fun i _=>len-(intOf i).toNat)
 case atStart=>exact ⟨0,_,Nat.zero_le _,rfl,by simp,fun j hj=>absurd hj (by omega),hb0,hn0⟩
 case round=>
  obtain ⟨k,ys,hk,rfl,hy,hyz,hb,hn⟩:=hrel;by_cases hlt:k<len
  ·rcases h3 with h3 | ⟨b,off,rfl,hbw,hc⟩
   ·omega
   have g1:wr.cell? ⟨b,off+k,none⟩=some (.int .u8 (zs[k]?.getD 0)):=(hn.cell (by exact hbw)).trans (hc k hlt);have g2:=hb.cell k (by omega);have g3:=hb.free k;have g4:=h2 k;have HZ:Hid (∀j,j<k->ys[j]?=zs[j]?):=hyz;clear hc hb0 hn0 hyz;go_wp2;go_roundw
   case rel=>exact ⟨k+1,_,by omega,by go_num,by simp [hy],ku k ys zs (by omega) (by omega) HZ.out,hb.store k _,hn.setCell (Nat.le_refl _) _⟩
   case measure=>simp [intOf];omega
  ·have hyy:ys=zs:=by
    apply List.ext_getElem?;intro j;by_cases hj:j<len
    ·exact hyz j (by omega)
    ·rw [List.getElem?_eq_none (by omega),List.getElem?_eq_none (by omega)]
   subst hyy;clear hyz hb0 hn0 h3;go_wp2;go_ret;exact ⟨rfl,hb,hn⟩
theorem iK (a b:Option Addr) (len ca cb:Nat) (zs:List Int) (w:World) (h:Byt w a len zs) (h':Byt w b len zs) (hl:len<=1048576):
 Calls Tryz.prog 11 #[.slice a len ca,.slice b len cb] w fun e w'=>e=.returned (.bool true)∧Below w.heap.size w w':=by
 obtain ⟨h1,h2,h3⟩:=h;obtain ⟨_,_,k3⟩:=h';go_enter Tryz.func11,Tryz.ntmps11;go_wp2;go_loopw [5] (fun i wr=>∃(k:Nat),k<=len∧i=.int .i64 k∧∃n,wr=w.drewN n) (fun i _=>len-(intOf i).toNat)
 case atStart=>exact ⟨0,Nat.zero_le _,rfl,0,rfl⟩
 case round=>
  obtain ⟨k,hk,rfl,n,rfl⟩:=hrel;by_cases hlt:k<len
  ·rcases h3 with h3 | ⟨b1,o1,rfl,hb1,hc1⟩
   ·omega
   rcases k3 with k3 | ⟨b2,o2,rfl,hb2,hc2⟩
   ·omega
   have g1:=hc1 k hlt;have g2:=hc2 k hlt;clear hc1 hc2;go_wp2;go_quiet (fail);go_wp2;go_roundw
   case rel=>exact ⟨k+1,by omega,by go_num,n+nq,rfl⟩
   case measure=>simp [intOf];omega
  ·clear h3 k3;go_wp2;go_ret;exact ⟨rfl,below_drewN (Below.refl _ _) _⟩
theorem it (a:Option Addr) (len cap:Nat) (addr n:Int) (w:World) (hl:len<=1048576) (h0:0<=addr) (h1:addr<=18446744073709551615) (h2:0<=n) (h3:n<=9223372036854775807):
 Calls Tryz.prog 97 #[.slice a len cap,.int .u64 addr,.int .i64 n] w fun e w'=>e=.returned (.bool (jL len addr n))∧w'=w:=by
 by_cases hn:n<=len
 ·go_enter Tryz.func97,Tryz.ntmps97;go_wp2;go_ret;exact ⟨by simp [jL,hn],rfl⟩
 ·go_enter Tryz.func97,Tryz.ntmps97;go_wp2;go_ret;exact ⟨by simp [jL];omega,rfl⟩
theorem fN (a:Option Addr) (len cap:Nat) (addr n:Int) (w:World) (hl:len<=1048576) (h0:0<=addr) (h1:addr<=18446744073709551615) (h3:n<=9223372036854775807):
 Calls Tryz.prog 76 #[.slice a len cap,.int .u64 addr,.int .i64 n] w fun e w'=>e=.returned (.bool (bw len addr n))∧w'=w:=by
 by_cases hn:n=1∨n=2∨n=4∨n=8
 ·rw [<-gV len addr n hn];rcases hn with rfl | rfl | rfl | rfl;all_goals
   go_enter Tryz.func76,Tryz.ntmps76;go_wp2_with (go_at_call 97;refine (it _ _ _ _ _ _ hl h0 h1 (by omega) (by omega)).mono ?_;rintro e w' ⟨rfl,rfl⟩);go_ret;exact ⟨rfl,rfl⟩
 ·have n1:(n != 1)=true:=by rw [bne_iff_ne];omega
  have n2:(n != 2)=true:=by rw [bne_iff_ne];omega
  have n4:(n != 4)=true:=by rw [bne_iff_ne];omega
  have n8:(n != 8)=true:=by rw [bne_iff_ne];omega
  have hg:bw len addr n=false:=by simp [bw];omega
  rw [hg];clear hn hg;go_enter Tryz.func76,Tryz.ntmps76;go_wp2_with fail;go_ret;exact ⟨rfl,rfl⟩
theorem iu (zs:List Int):∀(a:Option Addr) (len cap:Nat) (w:World),Byt w a len zs->len<=8->len<=cap->cap<=9223372036854775807->
 Calls Tryz.prog 77 #[.slice a len cap] w fun e w'=>e=.returned (.int .u64 (num zs))∧∃n,w'=w.drewN n:=by
 induction zs with
 | nil=>
  intro a len cap w h h8 hc hm;obtain ⟨h1,h2,h3⟩:=h;simp at h1;subst h1;clear h2 h3;go_enter Tryz.func77,Tryz.ntmps77;go_wp2_with fail;go_ret;exact ⟨rfl,0,rfl⟩
 | cons z r ih=>
  intro a len cap w h h8 hc hm;obtain ⟨h1,h2,h3⟩:=h;simp at h1;obtain ⟨len',rfl⟩:∃m,len=m+1:=⟨r.length,h1.symm⟩;rcases h3 with h3 | ⟨b,off,rfl,hb,hcl⟩
  ·omega
  have hcell:w.cell? ⟨b,off,none⟩=some (.int .u8 z):=by simpa using hcl 0 (by omega)
  have hz:0<=z∧z<=255:=by simpa using h2 0
  have hnb:=jM r 7 (lC h2) (by omega);simp at hnb;have hpos:((len':Int)+1 == 0)=false:=by simp;omega
  have hs1:(1:Int)<=(len':Int)+1:=by omega
  have hs2:(1:Int)<=((len'+1:Nat):Int):=by omega
  have h1':r.length=len':=by omega
  have hby:∀n,Byt (w.drewN n) (if cap=1 then some ⟨b,off,none⟩ else some ⟨b,off+1,none⟩) len' r:=fun n=>
   le h2 h1' hb hcl (fun h=>if_neg (by omega))
  have IH:Hid (∀(a:Option Addr) (len cap:Nat) (w:World),Byt w a len r->len<=8->len<=cap->cap<=9223372036854775807->
   Calls Tryz.prog 77 #[.slice a len cap] w fun e w'=>e=.returned (.int .u64 (num r))∧∃n,w'=w.drewN n):=ih
  have HB:Hid (∀n,Byt (w.drewN n) (if cap=1 then some ⟨b,off,none⟩ else some ⟨b,off+1,none⟩) len' r):=hby;clear ih hcl h2 h1 h1' hby;go_enter Tryz.func77,Tryz.ntmps77;go_wp2_with fail;go_quiet ((go_at_call 77;exact Calls.quiet_of (IH.out _ _ _ _ (HB.out _) (by omega) (by omega) (by omega))));go_wp2_with fail;all_goals
   go_ret;exact ⟨rfl,nq,rfl⟩
theorem cT (a:Option Addr) (len cap:Nat) (zs:List Int) (addr n:Int) (w:World) (h:Byt w a len zs) (hl:len<=1048576) (hc:len<=cap) (hm:cap<=9223372036854775807)
 (h0:0<=addr) (h1:addr<=18446744073709551615) (h3:n<=9223372036854775807):
 Calls Tryz.prog 53 #[.slice a len cap,.int .u64 addr,.int .i64 n] w fun e w'=>e=.returned (.agg #[.bool (bw len addr n),.int .u64 (rdV zs addr n)])∧Below w.heap.size w w':=by
 obtain ⟨hz,h2,hy⟩:=h;cases hg:bw len addr n
 ·have hv:rdV zs addr n=0:=by simp [rdV,hz,hg]
  rw [hv];have HG:Hid (bw len addr n=false):=hg;clear hg hv hy h2;go_enter Tryz.func53,Tryz.ntmps53;go_wp2_with (go_at_call 76;refine (fN _ _ _ _ _ _ hl h0 h1 h3).mono ?_;rintro e w' ⟨rfl,rfl⟩;rw [HG.out]);exact bodyPost_ret (v:=.agg #[.bool false,.int .u64 0]) (by simp [results,Tryz.results53,go_sem]) rfl ⟨rfl,((Below.refl _ _).alloc (Nat.le_refl _) _)⟩
 ·have hv:rdV zs addr n=num ((zs.drop addr.toNat).take n.toNat):=by simp [rdV,hz,hg]
  rw [hv];have hg':=hg;simp only [bw,decide_eq_true_eq] at hg';obtain ⟨hn,hn1,hn2⟩:=hg';obtain ⟨k,rfl⟩:=Int.eq_ofNat_of_zero_le h0;rcases hy with hy | ⟨b,off,rfl,hb,hcl⟩
  ·omega
  obtain ⟨m,rfl⟩:=Int.eq_ofNat_of_zero_le (show 0<=n by omega);have hm8:m<=8:=by omega
  have hm0:0<m:=by omega
  have hkm:k+m<=len:=by omega
  have HG:Hid (bw len k m=true):=hg;have HS:Hid (∀w':World,Below w.heap.size w w'->Byt w' (some ⟨b,off+k,none⟩) m ((zs.drop k).take m)):=fun w' hw=>
   Byt.keep (lU h2 hz hb hkm hcl (fun h=>rfl)) hw
  clear hg hv hcl h2 hn hz;go_enter Tryz.func53,Tryz.ntmps53;go_wp2_with (first
   | (go_at_call 76;refine (fN _ _ _ _ _ _ hl h0 h1 h3).mono ?_;rintro e w' ⟨rfl,rfl⟩;rw [HG.out])
   | fail)
  refine (iu ((zs.drop k).take m) _ _ _ _ (HS.out _ ((Below.refl _ _).alloc (Nat.le_refl _) _)) hm8 (by omega) (by omega)).mono ?_;rintro e w' ⟨rfl,nq,rfl⟩;go_wp2_with fail;refine bodyPost_ret (v:=.agg #[.bool true,.int .u64 (num ((zs.drop k).take m))]) (by simp [results,Tryz.results53,go_sem]) rfl ⟨rfl,?_⟩;exact ((below_drewN ((Below.refl _ _).alloc (Nat.le_refl _) _) _).setCell (Nat.le_refl _) _).setCell (Nat.le_refl _) _
def aI (x p:Int):Bool:=x/p%2 == 1
def bH (va:Int):Bool:=va/16384%1125899906842624 == 0 || va/16384%1125899906842624 == 1125899906842623
def bj (pte:Int):Int:=pte/1024%17592186044416
def cO (level:Int):Int:=if level=0 then 1 else if level=1 then 8 else 64
def cH (level:Int):Int:=if level=0 then 64 else if level=1 then 512 else 4096
def aH (pte level:Int):Int:=
 if level<0∨2<level∨aI pte 1=false∨0<pte/18014398509481984%1024∨(aI pte 4=true∧aI pte 2=false) then 0
 else if aI pte 2=false∧aI pte 4=false∧aI pte 8=false then
  (if level=0∨aI pte 16=true∨aI pte 64=true∨aI pte 128=true then 0 else 1)
 else if 0<bj pte%cO level then 0 else 2
def aY (pte kind mode:Int) (sum mxr:Bool):Bool:=
 (if kind=0 then aI pte 8 else if kind=1 then aI pte 2 || (mxr && aI pte 8) else if kind=2 then aI pte 4 && aI pte 128 else false) &&
 (if mode=0 then aI pte 16 else if mode=1 then !aI pte 16 || (kind != 0 && sum) else false) && aI pte 64
def cz (pte level va:Int):Int:=
 if level<0∨2<level then 0 else bj pte*64/cH level*cH level+va%cH level
theorem mr (k:Nat) (h:k<=62):1<=(2:Int)^k∧(2:Int)^k<=4611686018427387904:=by
 have h1:(2:Nat)^k<=2^62:=Nat.pow_le_pow_right (by omega) h;have h2:1<=(2:Nat)^k:=Nat.one_le_two_pow;have e:(2:Int)^k=((2^k:Nat):Int):=by push_cast;rfl
 rw [e];omega
theorem aU {a b:Int} (h:a=b):Ending.returned (.int .i64 a)=.returned (.int .i64 b):=by rw [h]
theorem ah {a b:Bool} (h:a=b):Ending.returned (.bool a)=.returned (.bool b):=by rw [h]
theorem kL (k:Nat):∀(n:Int) (w:World),n<=k->k<=63->n.toNat=k->
 Calls Tryz.prog 47 #[.int .i64 n] w fun e w'=>e=.returned (.int .u64 (2^k))∧w'=w:=by
 induction k with
 | zero=>
  intro n w h h' h'';have hn:n<=0:=by omega
  go_enter Tryz.func47,Tryz.ntmps47;go_wp2_with fail;go_ret;exact ⟨rfl,rfl⟩
 | succ k ih=>
  intro n w h h' h'';have hn:¬n<=0:=by omega
  have hb:=mr k (by omega);have IH:Hid (∀(n:Int) (w:World),n<=k->k<=63->n.toNat=k->
   Calls Tryz.prog 47 #[.int .i64 n] w fun e w'=>e=.returned (.int .u64 (2^k))∧w'=w):=ih
  have HE:Hid ((2:Int)^(k+1)=2*2^k):=by show _=_;rw [Int.pow_succ,Int.mul_comm]
  rw [HE.out];clear ih HE;have H'':Hid (n.toNat=k+1):=h'';clear h'';generalize (2:Int)^k=p at *;go_enter Tryz.func47,Tryz.ntmps47;go_wp2_with fail;refine (IH.out (n-1) w (by omega) (by omega) (by have:=H''.out;omega)).mono ?_;rintro e w' ⟨rfl,rfl⟩;go_wp2_with fail;go_ret;exact ⟨rfl,rfl⟩
theorem aS (n p:Int) (w:World) (hn:n<=63) (hp:p=2^n.toNat):
 Calls Tryz.prog 47 #[.int .i64 n] w fun e w'=>e=.returned (.int .u64 p)∧w'=w:=by
 rw [hp];exact kL n.toNat n w (by omega) (by omega) rfl
theorem aM (x i j p q:Int) (w:World) (h0:0<=x) (h1:x<=18446744073709551615) (hi:0<=i) (hi':i<=63) (hj:i<=j+1) (hj':j-i<=62) (hp:p=2^i.toNat) (hq:q=2^(j-i+1).toNat):
 Calls Tryz.prog 46 #[.int .u64 x,.int .i64 i,.int .i64 j] w fun e w'=>e=.returned (.int .u64 (x/p%q))∧∃n,w'=w.drewN n:=by
 have hp1:1<=p:=by rw [hp];exact Int.pow_pos (by omega:(0:Int)<2)
 have hq1:1<=q:=by rw [hq];exact Int.pow_pos (by omega:(0:Int)<2)
 have hxp:0<=x/p:=Int.ediv_nonneg h0 (by omega);have HP:Hid (p=2^i.toNat):=hp;have HQ:Hid (q=2^(j-i+1).toNat):=hq;clear hp hq;go_enter Tryz.func46,Tryz.ntmps46;go_wp2_with fail;go_quiet (first
  | (go_at_call_of 47 (Value.int IntKind.i64 i);exact Calls.quiet_of_same (aS i p _ (by omega) HP.out))
  | (go_at_call 47;exact Calls.quiet_of_same (aS (j-i+1) q _ (by omega) HQ.out)))
 go_wp2_with fail;go_ret;exact ⟨rfl,nq,rfl⟩
theorem aN (x i p:Int) (w:World) (h0:0<=x) (h1:x<=18446744073709551615) (hi:0<=i) (hi':i<=63) (hp:p=2^i.toNat):
 Calls Tryz.prog 55 #[.int .u64 x,.int .i64 i] w fun e w'=>e=.returned (.bool (aI x p))∧∃n,w'=w.drewN n:=by
 have HP:Hid (p=2^i.toNat):=hp;clear hp;go_enter Tryz.func55,Tryz.ntmps55;go_wp2_with fail;refine (aM x i i p 2 w h0 h1 hi hi' (by omega) (by omega) HP.out (by rw [show i-i+1=1 by omega];rfl)).mono ?_;rintro e w' ⟨rfl,nq,rfl⟩;go_wp2_with fail;go_ret;exact ⟨rfl,nq,rfl⟩
theorem bc (x:Int) (w:World) (h0:0<=x) (h1:x<=18446744073709551615):
 Calls Tryz.prog 28 #[.int .u64 x] w fun e w'=>e=.returned (.int .u64 (bj x))∧∃n,w'=w.drewN n:=by
 go_enter Tryz.func28,Tryz.ntmps28;go_wp2_with fail;refine (aM x 10 53 1024 17592186044416 w h0 h1 (by omega) (by omega) (by omega) (by omega) rfl rfl).mono ?_;rintro e w' ⟨rfl,nq,rfl⟩;go_wp2_with fail;go_ret;exact ⟨rfl,nq,rfl⟩
theorem bu (x:Int) (w:World) (h0:0<=x) (h1:x<=18446744073709551615):
 Calls Tryz.prog 21 #[.int .u64 x] w fun e w'=>e=.returned (.bool (bH x))∧∃n,w'=w.drewN n:=by
 go_enter Tryz.func21,Tryz.ntmps21;go_wp2_with fail;refine (aM x 14 63 16384 1125899906842624 w h0 h1 (by omega) (by omega) (by omega) (by omega) rfl rfl).mono ?_;rintro e w' ⟨rfl,nq,rfl⟩;by_cases ht:x/16384%1125899906842624=0
 ·have ht':(x/16384%1125899906842624 == 0)=true:=by simp [ht]
  clear ht;go_wp2_with fail;go_ret;exact ⟨by simp [bH,ht'],nq,rfl⟩
 ·have ht':(x/16384%1125899906842624 == 0)=false:=by simpa using ht
  clear ht;go_wp2_with (go_at_call 47;refine (aS 50 1125899906842624 _ (by omega) rfl).mono ?_;rintro e w' ⟨rfl,rfl⟩);go_ret;exact ⟨by simp [bH,ht'],nq,rfl⟩
theorem bT (pte level:Int) (w:World) (h0:0<=pte) (h1:pte<=18446744073709551615) (hl: -9223372036854775808<=level) (hl':level<=9223372036854775807):
 Calls Tryz.prog 29 #[.int .u64 pte,.int .i64 level] w fun e w'=>e=.returned (.int .i64 (aH pte level))∧∃n,w'=w.drewN n:=by
 go_enter Tryz.func29,Tryz.ntmps29;go_wp2_with fail;refine (aN pte 1 2 w h0 h1 (by omega) (by omega) rfl).mono ?_;rintro e w' ⟨rfl,n1,rfl⟩;go_wp2_with fail;refine (aN pte 2 4 _ h0 h1 (by omega) (by omega) rfl).mono ?_;rintro e w' ⟨rfl,n2,rfl⟩;go_wp2_with fail;refine (aN pte 3 8 _ h0 h1 (by omega) (by omega) rfl).mono ?_;rintro e w' ⟨rfl,n3,rfl⟩;go_wp2_with fail;refine (aN pte 4 16 _ h0 h1 (by omega) (by omega) rfl).mono ?_;rintro e w' ⟨rfl,n4,rfl⟩;go_wp2_with fail;refine (aN pte 6 64 _ h0 h1 (by omega) (by omega) rfl).mono ?_;rintro e w' ⟨rfl,n5,rfl⟩;go_wp2_with fail;refine (aN pte 7 128 _ h0 h1 (by omega) (by omega) rfl).mono ?_;rintro e w' ⟨rfl,n6,rfl⟩;by_cases hlev:0<=level∧level<=2
 ·obtain ⟨hl0,hl2⟩:=hlev;cases hV:aI pte 1
  ·go_wp2_with (first
    | (go_at_call 55;refine (aN pte 0 1 _ h0 h1 (by omega) (by omega) rfl).mono ?_;rintro e w' ⟨rfl,n7,rfl⟩;rw [hV]))
   go_ret;exact ⟨aU (by simp [aH,hV]),_,rfl⟩
  ·by_cases hres:0<pte/18014398509481984%1024
   ·go_wp2_with (first
     | (go_at_call 55;refine (aN pte 0 1 _ h0 h1 (by omega) (by omega) rfl).mono ?_;rintro e w' ⟨rfl,n7,rfl⟩;rw [hV])
     | (go_at_call 46;refine (aM pte 54 63 18014398509481984 1024 _ h0 h1 (by omega) (by omega) (by omega) (by omega) rfl rfl).mono ?_;rintro e w' ⟨rfl,n8,rfl⟩))
    go_ret;exact ⟨aU (by simp [aH,hres]),_,rfl⟩
   ·have hres':decide (0<pte/18014398509481984%1024)=false:=by simpa using hres
    cases hr:aI pte 2 <;> cases hw:aI pte 4
    ·cases hx:aI pte 8
     ·cases hu:aI pte 16 <;> cases ha:aI pte 64 <;> cases hd:aI pte 128;all_goals
       rcases (show level=0∨level=1∨level=2 by omega) with rfl | rfl | rfl;all_goals
        go_wp2_with (first
         | (go_at_call 55;refine (aN pte 0 1 _ h0 h1 (by omega) (by omega) rfl).mono ?_;rintro e w' ⟨rfl,n7,rfl⟩;rw [hV])
         | (go_at_call 46;refine (aM pte 54 63 18014398509481984 1024 _ h0 h1 (by omega) (by omega) (by omega) (by omega) rfl rfl).mono ?_;rintro e w' ⟨rfl,n8,rfl⟩))
        go_ret;exact ⟨aU (by simp [aH,hV,hr,hw,hx,hu,ha,hd,hres]),_,rfl⟩
     ·
      obtain ⟨t,ht⟩:∃t,bj pte=t:=⟨_,rfl⟩;have hpp:0<=t:=by rw [<-ht];exact Int.emod_nonneg _ (by omega)
      have HPP:Hid (bj pte=t):=ht;clear ht;rcases (show level=0∨level=1∨level=2 by omega) with rfl | rfl | rfl
      ·go_wp2_with (first
        | (go_at_call 55;refine (aN pte 0 1 _ h0 h1 (by omega) (by omega) rfl).mono ?_;rintro e w' ⟨rfl,n7,rfl⟩;rw [hV])
        | (go_at_call 46;refine (aM pte 54 63 18014398509481984 1024 _ h0 h1 (by omega) (by omega) (by omega) (by omega) rfl rfl).mono ?_;rintro e w' ⟨rfl,n8,rfl⟩)
        | (go_at_call 28;refine (bc pte _ h0 h1).mono ?_;rintro e w' ⟨rfl,n9,rfl⟩;rw [HPP.out])
        | (go_at_call 47;refine (aS _ 1 _ (by omega) rfl).mono ?_;rintro e w' ⟨rfl,rfl⟩))
       go_ret;exact ⟨aU (by simp [aH,hV,hr,hw,hx,hres,cO,Int.emod_one]),_,rfl⟩
      ·by_cases hm:0<t%8
       ·go_wp2_with (first
         | (go_at_call 55;refine (aN pte 0 1 _ h0 h1 (by omega) (by omega) rfl).mono ?_;rintro e w' ⟨rfl,n7,rfl⟩;rw [hV])
         | (go_at_call 46;refine (aM pte 54 63 18014398509481984 1024 _ h0 h1 (by omega) (by omega) (by omega) (by omega) rfl rfl).mono ?_;rintro e w' ⟨rfl,n8,rfl⟩)
         | (go_at_call 28;refine (bc pte _ h0 h1).mono ?_;rintro e w' ⟨rfl,n9,rfl⟩;rw [HPP.out])
         | (go_at_call 47;refine (aS _ 8 _ (by omega) rfl).mono ?_;rintro e w' ⟨rfl,rfl⟩))
        go_ret;exact ⟨aU (by simp [aH,hV,hr,hw,hx,show ¬0<pte/18014398509481984%1024 by omega,cO,HPP.out,hm]),_,rfl⟩
       ·go_wp2_with (first
         | (go_at_call 55;refine (aN pte 0 1 _ h0 h1 (by omega) (by omega) rfl).mono ?_;rintro e w' ⟨rfl,n7,rfl⟩;rw [hV])
         | (go_at_call 46;refine (aM pte 54 63 18014398509481984 1024 _ h0 h1 (by omega) (by omega) (by omega) (by omega) rfl rfl).mono ?_;rintro e w' ⟨rfl,n8,rfl⟩)
         | (go_at_call 28;refine (bc pte _ h0 h1).mono ?_;rintro e w' ⟨rfl,n9,rfl⟩;rw [HPP.out])
         | (go_at_call 47;refine (aS _ 8 _ (by omega) rfl).mono ?_;rintro e w' ⟨rfl,rfl⟩))
        go_ret;exact ⟨aU (by simp [aH,hV,hr,hw,hx,show ¬0<pte/18014398509481984%1024 by omega,show ¬0<t%8 by omega,cO,HPP.out]),_,rfl⟩
      ·by_cases hm:0<t%64
       ·go_wp2_with (first
         | (go_at_call 55;refine (aN pte 0 1 _ h0 h1 (by omega) (by omega) rfl).mono ?_;rintro e w' ⟨rfl,n7,rfl⟩;rw [hV])
         | (go_at_call 46;refine (aM pte 54 63 18014398509481984 1024 _ h0 h1 (by omega) (by omega) (by omega) (by omega) rfl rfl).mono ?_;rintro e w' ⟨rfl,n8,rfl⟩)
         | (go_at_call 28;refine (bc pte _ h0 h1).mono ?_;rintro e w' ⟨rfl,n9,rfl⟩;rw [HPP.out])
         | (go_at_call 47;refine (aS _ 64 _ (by omega) rfl).mono ?_;rintro e w' ⟨rfl,rfl⟩))
        go_ret;exact ⟨aU (by simp [aH,hV,hr,hw,hx,show ¬0<pte/18014398509481984%1024 by omega,cO,HPP.out,hm]),_,rfl⟩
       ·go_wp2_with (first
         | (go_at_call 55;refine (aN pte 0 1 _ h0 h1 (by omega) (by omega) rfl).mono ?_;rintro e w' ⟨rfl,n7,rfl⟩;rw [hV])
         | (go_at_call 46;refine (aM pte 54 63 18014398509481984 1024 _ h0 h1 (by omega) (by omega) (by omega) (by omega) rfl rfl).mono ?_;rintro e w' ⟨rfl,n8,rfl⟩)
         | (go_at_call 28;refine (bc pte _ h0 h1).mono ?_;rintro e w' ⟨rfl,n9,rfl⟩;rw [HPP.out])
         | (go_at_call 47;refine (aS _ 64 _ (by omega) rfl).mono ?_;rintro e w' ⟨rfl,rfl⟩))
        go_ret;exact ⟨aU (by simp [aH,hV,hr,hw,hx,show ¬0<pte/18014398509481984%1024 by omega,show ¬0<t%64 by omega,cO,HPP.out]),_,rfl⟩
    ·
     go_wp2_with (first
      | (go_at_call 55;refine (aN pte 0 1 _ h0 h1 (by omega) (by omega) rfl).mono ?_;rintro e w' ⟨rfl,n7,rfl⟩;rw [hV])
      | (go_at_call 46;refine (aM pte 54 63 18014398509481984 1024 _ h0 h1 (by omega) (by omega) (by omega) (by omega) rfl rfl).mono ?_;rintro e w' ⟨rfl,n8,rfl⟩))
     go_ret;exact ⟨aU (by simp [aH,hr,hw]),_,rfl⟩
    ·
     obtain ⟨t,ht⟩:∃t,bj pte=t:=⟨_,rfl⟩;have hpp:0<=t:=by rw [<-ht];exact Int.emod_nonneg _ (by omega)
     have HPP:Hid (bj pte=t):=ht;clear ht;rcases (show level=0∨level=1∨level=2 by omega) with rfl | rfl | rfl
     ·go_wp2_with (first
       | (go_at_call 55;refine (aN pte 0 1 _ h0 h1 (by omega) (by omega) rfl).mono ?_;rintro e w' ⟨rfl,n7,rfl⟩;rw [hV])
       | (go_at_call 46;refine (aM pte 54 63 18014398509481984 1024 _ h0 h1 (by omega) (by omega) (by omega) (by omega) rfl rfl).mono ?_;rintro e w' ⟨rfl,n8,rfl⟩)
       | (go_at_call 28;refine (bc pte _ h0 h1).mono ?_;rintro e w' ⟨rfl,n9,rfl⟩;rw [HPP.out])
       | (go_at_call 47;refine (aS _ 1 _ (by omega) rfl).mono ?_;rintro e w' ⟨rfl,rfl⟩))
      go_ret;exact ⟨aU (by simp [aH,hV,hr,hw,hres,cO,Int.emod_one]),_,rfl⟩
     ·by_cases hm:0<t%8
      ·go_wp2_with (first
        | (go_at_call 55;refine (aN pte 0 1 _ h0 h1 (by omega) (by omega) rfl).mono ?_;rintro e w' ⟨rfl,n7,rfl⟩;rw [hV])
        | (go_at_call 46;refine (aM pte 54 63 18014398509481984 1024 _ h0 h1 (by omega) (by omega) (by omega) (by omega) rfl rfl).mono ?_;rintro e w' ⟨rfl,n8,rfl⟩)
        | (go_at_call 28;refine (bc pte _ h0 h1).mono ?_;rintro e w' ⟨rfl,n9,rfl⟩;rw [HPP.out])
        | (go_at_call 47;refine (aS _ 8 _ (by omega) rfl).mono ?_;rintro e w' ⟨rfl,rfl⟩))
       go_ret;exact ⟨aU (by simp [aH,hV,hr,hw,show ¬0<pte/18014398509481984%1024 by omega,cO,HPP.out,hm]),_,rfl⟩
      ·go_wp2_with (first
        | (go_at_call 55;refine (aN pte 0 1 _ h0 h1 (by omega) (by omega) rfl).mono ?_;rintro e w' ⟨rfl,n7,rfl⟩;rw [hV])
        | (go_at_call 46;refine (aM pte 54 63 18014398509481984 1024 _ h0 h1 (by omega) (by omega) (by omega) (by omega) rfl rfl).mono ?_;rintro e w' ⟨rfl,n8,rfl⟩)
        | (go_at_call 28;refine (bc pte _ h0 h1).mono ?_;rintro e w' ⟨rfl,n9,rfl⟩;rw [HPP.out])
        | (go_at_call 47;refine (aS _ 8 _ (by omega) rfl).mono ?_;rintro e w' ⟨rfl,rfl⟩))
       go_ret;exact ⟨aU (by simp [aH,hV,hr,hw,show ¬0<pte/18014398509481984%1024 by omega,show ¬0<t%8 by omega,cO,HPP.out]),_,rfl⟩
     ·by_cases hm:0<t%64
      ·go_wp2_with (first
        | (go_at_call 55;refine (aN pte 0 1 _ h0 h1 (by omega) (by omega) rfl).mono ?_;rintro e w' ⟨rfl,n7,rfl⟩;rw [hV])
        | (go_at_call 46;refine (aM pte 54 63 18014398509481984 1024 _ h0 h1 (by omega) (by omega) (by omega) (by omega) rfl rfl).mono ?_;rintro e w' ⟨rfl,n8,rfl⟩)
        | (go_at_call 28;refine (bc pte _ h0 h1).mono ?_;rintro e w' ⟨rfl,n9,rfl⟩;rw [HPP.out])
        | (go_at_call 47;refine (aS _ 64 _ (by omega) rfl).mono ?_;rintro e w' ⟨rfl,rfl⟩))
       go_ret;exact ⟨aU (by simp [aH,hV,hr,hw,show ¬0<pte/18014398509481984%1024 by omega,cO,HPP.out,hm]),_,rfl⟩
      ·go_wp2_with (first
        | (go_at_call 55;refine (aN pte 0 1 _ h0 h1 (by omega) (by omega) rfl).mono ?_;rintro e w' ⟨rfl,n7,rfl⟩;rw [hV])
        | (go_at_call 46;refine (aM pte 54 63 18014398509481984 1024 _ h0 h1 (by omega) (by omega) (by omega) (by omega) rfl rfl).mono ?_;rintro e w' ⟨rfl,n8,rfl⟩)
        | (go_at_call 28;refine (bc pte _ h0 h1).mono ?_;rintro e w' ⟨rfl,n9,rfl⟩;rw [HPP.out])
        | (go_at_call 47;refine (aS _ 64 _ (by omega) rfl).mono ?_;rintro e w' ⟨rfl,rfl⟩))
       go_ret;exact ⟨aU (by simp [aH,hV,hr,hw,show ¬0<pte/18014398509481984%1024 by omega,show ¬0<t%64 by omega,cO,HPP.out]),_,rfl⟩
    ·
     obtain ⟨t,ht⟩:∃t,bj pte=t:=⟨_,rfl⟩;have hpp:0<=t:=by rw [<-ht];exact Int.emod_nonneg _ (by omega)
     have HPP:Hid (bj pte=t):=ht;clear ht;rcases (show level=0∨level=1∨level=2 by omega) with rfl | rfl | rfl
     ·go_wp2_with (first
       | (go_at_call 55;refine (aN pte 0 1 _ h0 h1 (by omega) (by omega) rfl).mono ?_;rintro e w' ⟨rfl,n7,rfl⟩;rw [hV])
       | (go_at_call 46;refine (aM pte 54 63 18014398509481984 1024 _ h0 h1 (by omega) (by omega) (by omega) (by omega) rfl rfl).mono ?_;rintro e w' ⟨rfl,n8,rfl⟩)
       | (go_at_call 28;refine (bc pte _ h0 h1).mono ?_;rintro e w' ⟨rfl,n9,rfl⟩;rw [HPP.out])
       | (go_at_call 47;refine (aS _ 1 _ (by omega) rfl).mono ?_;rintro e w' ⟨rfl,rfl⟩))
      go_ret;exact ⟨aU (by simp [aH,hV,hr,hw,hres,cO,Int.emod_one]),_,rfl⟩
     ·by_cases hm:0<t%8
      ·go_wp2_with (first
        | (go_at_call 55;refine (aN pte 0 1 _ h0 h1 (by omega) (by omega) rfl).mono ?_;rintro e w' ⟨rfl,n7,rfl⟩;rw [hV])
        | (go_at_call 46;refine (aM pte 54 63 18014398509481984 1024 _ h0 h1 (by omega) (by omega) (by omega) (by omega) rfl rfl).mono ?_;rintro e w' ⟨rfl,n8,rfl⟩)
        | (go_at_call 28;refine (bc pte _ h0 h1).mono ?_;rintro e w' ⟨rfl,n9,rfl⟩;rw [HPP.out])
        | (go_at_call 47;refine (aS _ 8 _ (by omega) rfl).mono ?_;rintro e w' ⟨rfl,rfl⟩))
       go_ret;exact ⟨aU (by simp [aH,hV,hr,hw,show ¬0<pte/18014398509481984%1024 by omega,cO,HPP.out,hm]),_,rfl⟩
      ·go_wp2_with (first
        | (go_at_call 55;refine (aN pte 0 1 _ h0 h1 (by omega) (by omega) rfl).mono ?_;rintro e w' ⟨rfl,n7,rfl⟩;rw [hV])
        | (go_at_call 46;refine (aM pte 54 63 18014398509481984 1024 _ h0 h1 (by omega) (by omega) (by omega) (by omega) rfl rfl).mono ?_;rintro e w' ⟨rfl,n8,rfl⟩)
        | (go_at_call 28;refine (bc pte _ h0 h1).mono ?_;rintro e w' ⟨rfl,n9,rfl⟩;rw [HPP.out])
        | (go_at_call 47;refine (aS _ 8 _ (by omega) rfl).mono ?_;rintro e w' ⟨rfl,rfl⟩))
       go_ret;exact ⟨aU (by simp [aH,hV,hr,hw,show ¬0<pte/18014398509481984%1024 by omega,show ¬0<t%8 by omega,cO,HPP.out]),_,rfl⟩
     ·by_cases hm:0<t%64
      ·go_wp2_with (first
        | (go_at_call 55;refine (aN pte 0 1 _ h0 h1 (by omega) (by omega) rfl).mono ?_;rintro e w' ⟨rfl,n7,rfl⟩;rw [hV])
        | (go_at_call 46;refine (aM pte 54 63 18014398509481984 1024 _ h0 h1 (by omega) (by omega) (by omega) (by omega) rfl rfl).mono ?_;rintro e w' ⟨rfl,n8,rfl⟩)
        | (go_at_call 28;refine (bc pte _ h0 h1).mono ?_;rintro e w' ⟨rfl,n9,rfl⟩;rw [HPP.out])
        | (go_at_call 47;refine (aS _ 64 _ (by omega) rfl).mono ?_;rintro e w' ⟨rfl,rfl⟩))
       go_ret;exact ⟨aU (by simp [aH,hV,hr,hw,show ¬0<pte/18014398509481984%1024 by omega,cO,HPP.out,hm]),_,rfl⟩
      ·go_wp2_with (first
        | (go_at_call 55;refine (aN pte 0 1 _ h0 h1 (by omega) (by omega) rfl).mono ?_;rintro e w' ⟨rfl,n7,rfl⟩;rw [hV])
        | (go_at_call 46;refine (aM pte 54 63 18014398509481984 1024 _ h0 h1 (by omega) (by omega) (by omega) (by omega) rfl rfl).mono ?_;rintro e w' ⟨rfl,n8,rfl⟩)
        | (go_at_call 28;refine (bc pte _ h0 h1).mono ?_;rintro e w' ⟨rfl,n9,rfl⟩;rw [HPP.out])
        | (go_at_call 47;refine (aS _ 64 _ (by omega) rfl).mono ?_;rintro e w' ⟨rfl,rfl⟩))
       go_ret;exact ⟨aU (by simp [aH,hV,hr,hw,show ¬0<pte/18014398509481984%1024 by omega,show ¬0<t%64 by omega,cO,HPP.out]),_,rfl⟩
 ·by_cases hneg:level<0
  ·go_wp2_with fail;go_ret;exact ⟨aU (by simp [aH,hneg]),_,rfl⟩
  ·have hgt:2<level:=by omega
   go_wp2_with fail;go_ret;exact ⟨aU (by simp [aH,hgt]),_,rfl⟩
end Go.Proofs.YtfgogedgolgnaaaGreat

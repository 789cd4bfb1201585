import Derived.WalkKit
import Derived.OpenShut
import Derived.Laws.BitsAllLaws
import Derived.Laws.AppendOwnNone
import Derived.Laws.CopyOwn
import Derived.Deep.QuietTactic
import Derived.BigQuiet
import Derived.WalkSmall
import Derived.Test.YtfgogedgolgnaaaRows
import Derived.Deep.RegionHeld3
import Derived.Deep.DrawnRows
import Derived.Deep.RegionLaw
import Derived.StillTailTactics
namespace Go.Proofs.Ytfgogedgolgnaaa
open Go.RowKit
set_option linter.unusedVariables false
set_option maxHeartbeats 6400000
set_option maxRecDepth 20000
def Byt (w:World) (a:Option Addr) (len:Nat) (zs:List Int):Prop:=
 zs.length=len∧(∀i:Nat,0<=zs[i]?.getD 0∧zs[i]?.getD 0<=255)∧
 (len=0∨∃b off,a=some ⟨b,off,none⟩∧b<w.heap.size∧∀i,i<len->w.cell? ⟨b,off+i,none⟩=some (.int .u8 (zs[i]?.getD 0)))
def Blk (e:TypeId) (w:World) (g:Nat) (zs:List Int):Prop:=
 w.heap[g]?=some (.cells (zs.map (Value.int .u8)).toArray e (0,0))
theorem Byt.keep {w w':World} {a:Option Addr} {len:Nat} {zs:List Int} (h:Byt w a len zs) (hb:Below w.heap.size w w'):Byt w' a len zs:=by
 obtain ⟨h1,h2,h3⟩:=h;refine ⟨h1,h2,?_⟩;rcases h3 with h3 | ⟨b,off,rfl,hlt,hc⟩
 ·exact .inl h3
 ·exact .inr ⟨b,off,rfl,Nat.lt_of_lt_of_le hlt hb.size,fun i hi=>(hb.cell (p:=⟨b,off+i,none⟩) hlt).trans (hc i hi)⟩
theorem Blk.lt {e:TypeId} {w:World} {g:Nat} {zs:List Int} (h:Blk e w g zs):g<w.heap.size:=by
 unfold Blk at h;exact (Array.getElem?_eq_some_iff.1 h).1
theorem Blk.keep {e:TypeId} {B:Nat} {w w':World} {g:Nat} {zs:List Int} (h:Blk e w g zs) (hb:Below B w w') (hg:g<B):Blk e w' g zs:=by
 unfold Blk at *;rw [hb.block g hg,h]
theorem Blk.cell {e:TypeId} {w:World} {g:Nat} {zs:List Int} (h:Blk e w g zs) (i:Nat) (hi:i<zs.length):w.cell? ⟨g,i,none⟩=some (.int .u8 (zs[i]?.getD 0)):=by
 unfold Blk at h;simp [World.cell?,h,hi]
theorem Blk.free {e:TypeId} {w:World} {g:Nat} {zs:List Int} (h:Blk e w g zs) (i:Nat):w.frozen? ⟨g,i,none⟩=false:=by
 unfold Blk at h;simp [World.frozen?,h]
theorem Blk.byt {e:TypeId} {w:World} {g:Nat} {zs:List Int} (h:Blk e w g zs) (hz:∀i:Nat,0<=zs[i]?.getD 0∧zs[i]?.getD 0<=255):Byt w (some ⟨g,0,none⟩) zs.length zs:=
 ⟨rfl,hz,.inr ⟨g,0,rfl,h.lt,fun i hi=>by simpa using h.cell i hi⟩⟩
theorem Blk.store {e:TypeId} {w:World} {g:Nat} {zs:List Int} (h:Blk e w g zs) (i:Nat) (z:Int):Blk e (w.setCell ⟨g,i,none⟩ (.int .u8 z)) g (zs.set i z):=by
 have hlt:=h.lt;unfold Blk at *;simp [World.setCell,Array.getElem?_modify,h]
theorem Blk.of_own {e:TypeId} {w:World} {base g n:Nat} {zs:List Int} {cap:Nat} (h:w.ownsRow base e 1 (.slice (some ⟨g,0,none⟩) n cap) n (zs.map (Value.int .u8))) (hc:cap=n):Blk e w g zs:=by
 obtain ⟨h1,h2⟩:=h;rcases h2 with ⟨h2,_⟩ | ⟨g',cap',cur,h2,hb,hh,hn,hm,hs,ht⟩
 ·simp at h2
 ·simp at h2;obtain ⟨rfl,rfl⟩:=h2;unfold Blk;rw [hh];have:cur=(zs.map (Value.int .u8)).toArray:=by
   rw [<-ht,List.take_of_length_le (by simp;omega)]
  rw [this]
theorem ba (v:World) (cs:Array Value) (t:TypeId):v.heap.size<(v.alloc (.cells cs t)).heap.size∧(∀i,(v.alloc (.cells cs t)).cell? ⟨v.heap.size,i,none⟩=cs[i]?)∧Below v.heap.size v (v.alloc (.cells cs t)):=
 ⟨by simp,fun i=>World.cell?_alloc_at _ _ _ _ rfl,(Below.refl _ _).alloc (Nat.le_refl _) _⟩
theorem Below.step {B:Nat} {a b c:World} (h:Below B a b) (k:Below b.heap.size b c) (hB:B<=a.heap.size):Below B a c:=h.trans (k.mono (Nat.le_trans hB h.size))
theorem Below.cell2 {w w':World} (h:Below w.heap.size w w') {b o:Nat} {x:Option Value} (hc:w.cell? ⟨b,o,none⟩=x) (hb:b<w.heap.size):w'.cell? ⟨b,o,none⟩=x:=(h.cell (p:=⟨b,o,none⟩) hb).trans hc
def OwnB (e:TypeId) (w:World) (base g n cap:Nat) (zs:List Int):Prop:=
 w.ownsRow base e 1 (.slice (some ⟨g,0,none⟩) n cap) n (zs.map (Value.int .u8))
theorem OwnB.new (e:TypeId) (w:World) (zs:List Int) (n:Nat) (hn:zs.length=n) (hm:n<=maxLen):OwnB e (w.alloc (.cells (zs.map (Value.int .u8)).toArray e)) w.heap.size w.heap.size n n zs:=
 ⟨by simp [hn],.inr ⟨w.heap.size,n,_,rfl,Nat.le_refl _,heap_alloc_new w _,Nat.le_refl _,hm,by simp [hn],List.take_of_length_le (by simp [hn])⟩⟩
theorem OwnB.facts {e:TypeId} {w:World} {base g n cap:Nat} {zs:List Int} (h:OwnB e w base g n cap zs):
 zs.length=n∧base<=g∧g<w.heap.size∧n<=cap∧cap<=maxLen:=by
 obtain ⟨h1,h2⟩:=h;rcases h2 with ⟨h2,_⟩ | ⟨g',cap',cur,h2,hb,hh,hn,hm,hs,ht⟩
 ·simp at h2
 ·simp at h2;obtain ⟨rfl,rfl⟩:=h2;exact ⟨by simpa using h1,hb,(Array.getElem?_eq_some_iff.1 hh).1,hn,hm⟩
theorem OwnB.cell {e:TypeId} {w:World} {base g n cap:Nat} {zs:List Int} (h:OwnB e w base g n cap zs) (i:Nat) (hi:i<n):w.cell? ⟨g,i,none⟩=some (.int .u8 (zs[i]?.getD 0)):=by
 have hl:=h.facts.1;have:=World.ownsRow.cellAt h i (by omega);rw [this];simp [show i<zs.length by omega]
theorem OwnB.byt {e:TypeId} {w:World} {base g n cap:Nat} {zs:List Int} (h:OwnB e w base g n cap zs) (hz:∀i:Nat,0<=zs[i]?.getD 0∧zs[i]?.getD 0<=255):Byt w (some ⟨g,0,none⟩) n zs:=
 ⟨h.facts.1,hz,.inr ⟨g,0,rfl,h.facts.2.2.1,fun i hi=>by simpa using h.cell i hi⟩⟩
theorem OwnB.keep {e:TypeId} {B:Nat} {w w':World} {base g n cap:Nat} {zs:List Int} (h:OwnB e w base g n cap zs) (hb:Below B w w') (hg:g<B):OwnB e w' base g n cap zs:=by
 obtain ⟨h1,h2⟩:=h;refine ⟨h1,?_⟩;rcases h2 with ⟨h2,_⟩ | ⟨g',cap',cur,h2,hb',hh,r⟩
 ·simp at h2
 ·have hh':=h2;simp at hh';obtain ⟨rfl,rfl⟩:=hh';exact .inr ⟨_,_,cur,h2,hb',by rw [hb.block _ hg];exact hh,r⟩
theorem OwnB.low {e:TypeId} {w:World} {base base' g n cap:Nat} {zs:List Int} (h:OwnB e w base g n cap zs) (hb:base'<=base):OwnB e w base' g n cap zs:=by
 obtain ⟨h1,h2⟩:=h;refine ⟨h1,?_⟩;rcases h2 with ⟨h2,_⟩ | ⟨g',cap',cur,h2,hb',r⟩
 ·simp at h2
 ·exact .inr ⟨g',cap',cur,h2,by omega,r⟩
theorem OwnB.grown {e:TypeId} {B:Nat} {a w w':World} {base g n cap:Nat} {zs:List Int} (h:Below B a w) (o:OwnB e w base g n cap zs) (hg:w.grownBy w' (Value.slice (some ⟨g,0,none⟩) n cap).ownBlock) (hB:B<=base):Below B a w':=by
 have f:=o.facts;exact h.grown hg (by omega) (fun k hk=>by cases hk;show B<=g;omega)
theorem gf (k:Nat) (ys zs:List Int) (hy:k<ys.length) (hz:k<zs.length) (h:∀j,j<k->ys[j]?=zs[j]?):∀j,j<k+1->(ys.set k zs[k])[j]?=zs[j]?:=by
 intro j hj;by_cases e:j=k
 ·subst e;simp [hy,hz]
 ·rw [List.getElem?_set_ne (by omega)];exact h j (by omega)
def dy (len:Nat) (addr n:Int):Bool:=decide ((n=1∨n=2∨n=4∨n=8)∧n<=len∧addr<=len-n)
def num:List Int->Int
 | []=>0
 | b::r=>b+256*num r
theorem gJ:∀(zs:List Int) (k:Nat),(∀z∈zs,0<=z∧z<=255)->zs.length<=k->0<=num zs∧num zs<256^k
 | [],k,_,_=>by simp [num];exact Int.pow_pos (by omega)
 | b::r,0,_,h=>by simp at h
 | b::r,k+1,hz,h=>by
  have ih:=gJ r k (fun z hz'=>hz z (by simp [hz'])) (by simpa using h);have hb:=hz b (by simp);have e:(256:Int)^(k+1)=256^k*256:=Int.pow_succ _ _;simp only [num];omega
theorem fu (zs:List Int) (k m:Nat) (h2:∀i:Nat,0<=zs[i]?.getD 0∧zs[i]?.getD 0<=255):0<=num ((zs.drop k).take m)∧num ((zs.drop k).take m)<256^m:=by
 refine gJ _ m (fun z hz=>?_) (by simp;omega);have hz':=List.mem_of_mem_drop (List.mem_of_mem_take hz);obtain ⟨i,hi,rfl⟩:=List.getElem_of_mem hz';simpa [hi] using h2 i
def rdV (zs:List Int) (addr n:Int):Int:=if dy zs.length addr n then num ((zs.drop addr.toNat).take n.toNat) else 0
def put (zs:List Int) (k:Nat) (ys:List Int):List Int:=zs.take k++ys++zs.drop (k+ys.length)
theorem io (n:Nat):(madeCells #[Value.int .u8 0] n).toList=(List.replicate n (0:Int)).map (Value.int .u8):=by
 apply List.ext_getElem
 ·simp [madeCells]
 ·intro i h1 h2;simp [madeCells,Nat.mod_one]
theorem Byt.take {w:World} {a:Option Addr} {len:Nat} {zs:List Int} (h:Byt w a len zs) (k:Nat) (hk:k<=len):Byt w a k (zs.take k):=by
 obtain ⟨h1,h2,h3⟩:=h;refine ⟨by simp;omega,fun i=>?_,?_⟩
 ·by_cases hi:i<k
  ·simpa [List.getElem?_take,hi] using h2 i
  ·simp [List.getElem?_take,hi]
 ·rcases h3 with h3 | ⟨b,off,rfl,hb,hc⟩
  ·exact .inl (by omega)
  ·exact .inr ⟨b,off,rfl,hb,fun i hi=>by simpa [List.getElem?_take,hi] using hc i (by omega)⟩
theorem Byt.drop {w:World} {b off len:Nat} {zs:List Int} (h:Byt w (some ⟨b,off,none⟩) len zs) (k m:Nat) (hk:k<=len) (hm:m=len-k) (a:Option Addr) (ha:k<len->a=some ⟨b,off+k,none⟩):Byt w a m (zs.drop k):=by
 obtain ⟨h1,h2,h3⟩:=h;refine ⟨by clear h3;simp;omega,fun i=>by simpa using h2 (k+i),?_⟩;by_cases h0:m=0
 ·exact .inl h0
 ·rcases h3 with h3 | ⟨b',off',e,hb,hc⟩
  ·omega
  ·simp at e;obtain ⟨rfl,rfl⟩:=e;exact .inr ⟨b,off+k,ha (by omega),hb,fun i hi=>by simpa [Nat.add_assoc] using hc (k+i) (by omega)⟩
theorem eH {a b:Int} (h:a=b):Ending.returned (.int .u64 a)=.returned (.int .u64 b):=by rw [h]
theorem aO (w:World) (r:Option Nat):w.grownBy w r:=⟨rfl,rfl,rfl,Nat.le_refl _,fun _ _ _=>rfl⟩
theorem au {w v:World} {g:Nat} (h:w.grownBy v (some g)) (i:Nat) (u:Value):w.grownBy (v.setCell ⟨g,i,none⟩ u) (some g):=
 ⟨h.os,h.tape,h.output,by simpa [World.setCell] using h.size,fun k hk hn=>by
  rw [Below.heap_setCell _ _ _ _ (by intro e;exact hn (by rw [e]))];exact h.block k hk hn⟩
theorem cV (k:Nat) (x m:Int) (hm:m=2^k-1) (hk:m<18446744073709551616) (h0:0<=x) (h1:x<=18446744073709551615):bits .and .u64 x m=x%2^k:=by
 obtain ⟨a,rfl⟩:=Int.eq_ofNat_of_zero_le h0;have hp:1<=(2^k:Nat):=Nat.one_le_two_pow;have e:m=((2^k-1:Nat):Int):=by rw [hm];push_cast [hp];rfl
 rw [e] at hk |-;rw [u64_and_nat a (2^k-1) (by omega) (by omega),Nat.and_two_pow_sub_one_eq_mod]
 push_cast
 rfl
theorem Try.infoB:(Try.prog.info? 5).map (fun i=>(i.zero,i.size,i.bytes))=some (some (.int .u8 0),1,1):=by kernel_rfl
theorem eX (a:Option Addr) (len cap:Nat) (zs:List Int) (w:World) (h:Byt w a len zs) (hl:len<=1048576):
 Calls Try.prog 55 #[.slice a len cap] w fun e w'=>
  e=.returned (.slice (some ⟨w.heap.size,0,none⟩) len len)∧Blk 5 w' w.heap.size zs∧Below w.heap.size w w':=by
 obtain ⟨i0,hi,hz0,hz1,hz2⟩:=info_parts Try.infoB;obtain ⟨h1,h2,h3⟩:=h;go_enter Try.func55,Try.ntmps55;go_wp2_with (at_make;refine wpList_make_full _ rfl _ _ 52 rfl w.heap.size 5 i0 (.int .u8 0) 1 Try.underlying52 hi hz0 hz1 _ _ _ _ len rfl rfl rfl rfl ?b2 ?b3 (Nat.le_refl _) ?_)
 case b2=>rw [hz2];omega
 case b3=>unfold maxLen;omega
 intro w0 hown0 hgrow0;rw [io] at hown0;have hb0:Blk 5 w0 w.heap.size (List.replicate len 0):=Blk.of_own hown0 rfl;have hn0:Below w.heap.size w w0:=(Below.refl _ _).grown hgrow0 (Nat.le_refl _) (fun k h=>by cases h);clear hown0 hgrow0;go_wp2;go_loopw [4] (fun i wr=>∃(k:Nat) (ys:List Int),k<=len∧i=.int .i64 k∧ys.length=len∧(∀j,j<k->ys[j]?=zs[j]?)∧Blk 5 wr w.heap.size ys∧Below w.heap.size w wr) (fun i _=>len-(intOf i).toNat)
 case atStart=>exact ⟨0,_,Nat.zero_le _,rfl,by simp,fun j hj=>absurd hj (by omega),hb0,hn0⟩
 case round=>
  obtain ⟨k,ys,hk,rfl,hy,hyz,hb,hn⟩:=hrel;by_cases hlt:k<len
  ·rcases h3 with h3 | ⟨b,off,rfl,hbw,hc⟩
   ·omega
   have g1:wr.cell? ⟨b,off+k,none⟩=some (.int .u8 (zs[k]?.getD 0)):=(hn.cell (by exact hbw)).trans (hc k hlt);have g2:=hb.cell k (by omega);have g3:=hb.free k;have g4:=h2 k;have HZ:Hid (∀j,j<k->ys[j]?=zs[j]?):=hyz;clear hc hb0 hn0 hyz;go_wp2;go_roundw
   case rel=>exact ⟨k+1,_,by omega,by go_num,by simp [hy],gf k ys zs (by omega) (by omega) HZ.out,hb.store k _,hn.setCell (Nat.le_refl _) _⟩
   case measure=>simp [intOf];omega
  ·have hyy:ys=zs:=by
    apply List.ext_getElem?;intro j;by_cases hj:j<len
    ·exact hyz j (by omega)
    ·rw [List.getElem?_eq_none (by omega),List.getElem?_eq_none (by omega)]
   subst hyy;clear hyz hb0 hn0 h3;go_wp2;go_ret;exact ⟨rfl,hb,hn⟩
theorem eC (a b:Option Addr) (len ca cb:Nat) (zs:List Int) (w:World) (h:Byt w a len zs) (h':Byt w b len zs) (hl:len<=1048576):
 Calls Try.prog 60 #[.slice a len ca,.slice b len cb] w fun e w'=>e=.returned (.bool true)∧Below w.heap.size w w':=by
 obtain ⟨h1,h2,h3⟩:=h;obtain ⟨_,_,k3⟩:=h';go_enter Try.func60,Try.ntmps60;go_wp2;go_loopw [5] (fun i wr=>∃(k:Nat),k<=len∧i=.int .i64 k∧∃n,wr=w.drewN n) (fun i _=>len-(intOf i).toNat)
 case atStart=>exact ⟨0,Nat.zero_le _,rfl,0,rfl⟩
 case round=>
  obtain ⟨k,hk,rfl,n,rfl⟩:=hrel;by_cases hlt:k<len
  ·rcases h3 with h3 | ⟨b1,o1,rfl,hb1,hc1⟩
   ·omega
   rcases k3 with k3 | ⟨b2,o2,rfl,hb2,hc2⟩
   ·omega
   have g1:=hc1 k hlt;have g2:=hc2 k hlt;clear hc1 hc2;go_wp2;go_quiet (fail);go_wp2;go_roundw
   case rel=>exact ⟨k+1,by omega,by go_num,n+nq,rfl⟩
   case measure=>simp [intOf];omega
  ·clear h3 k3;go_wp2;go_ret;exact ⟨rfl,below_drewN (Below.refl _ _) _⟩
def RowC (w:World) (a:Option Addr) (n size:Nat) (cs:List Value):Prop:=
 cs.length=n*size∧(n=0∨∃b off,a=some ⟨b,off,none⟩∧b<w.heap.size∧∀i v,cs[i]?=some v->w.cell? ⟨b,off+i,none⟩=some v)
theorem RowC.keep {w w':World} {a:Option Addr} {n size:Nat} {cs:List Value} (h:RowC w a n size cs) (hb:Below w.heap.size w w'):RowC w' a n size cs:=by
 obtain ⟨h1,h3⟩:=h;refine ⟨h1,?_⟩;rcases h3 with h3 | ⟨b,off,rfl,hlt,hc⟩
 ·exact .inl h3
 ·exact .inr ⟨b,off,rfl,Nat.lt_of_lt_of_le hlt hb.size,fun i v hi=>(hb.cell (p:=⟨b,off+i,none⟩) hlt).trans (hc i v hi)⟩
theorem bB {w w':World} {g r:Nat} {o:Obj} (h:w.heap[g]?=some o) (hg:w.grownBy w' (some r)) (hne:g≠r):w'.heap[g]?=some o:=by
 rw [hg.block g (Array.getElem?_eq_some_iff.1 h).1 (by simpa using hne),h]
theorem RowC.nil (w:World) (a:Option Addr) (size:Nat):RowC w a 0 size []:=⟨by simp,.inl rfl⟩
def OwnC (e:TypeId) (size:Nat) (w:World) (base g n cap:Nat) (cs:List Value):Prop:=
 w.ownsRow base e size (.slice (some ⟨g,0,none⟩) n cap) n cs
theorem OwnC.new (e:TypeId) (size:Nat) (w:World) (cs:List Value) (n:Nat) (hn:cs.length=n*size) (hm:n<=maxLen):OwnC e size (w.alloc (.cells cs.toArray e)) w.heap.size w.heap.size n n cs:=
 ⟨hn,.inr ⟨w.heap.size,n,_,rfl,Nat.le_refl _,heap_alloc_new w _,Nat.le_refl _,hm,by simp [hn],List.take_of_length_le (by simp [hn])⟩⟩
theorem OwnC.facts {e:TypeId} {size:Nat} {w:World} {base g n cap:Nat} {cs:List Value} (h:OwnC e size w base g n cap cs):
 cs.length=n*size∧base<=g∧g<w.heap.size∧n<=cap∧cap<=maxLen:=by
 obtain ⟨h1,h2⟩:=h;rcases h2 with ⟨h2,_⟩ | ⟨g',cap',cur,h2,hb,hh,hn,hm,hs,ht⟩
 ·simp at h2
 ·simp at h2;obtain ⟨rfl,rfl⟩:=h2;exact ⟨h1,hb,(Array.getElem?_eq_some_iff.1 hh).1,hn,hm⟩
theorem OwnC.row {e:TypeId} {size:Nat} {w:World} {base g n cap:Nat} {cs:List Value} (h:OwnC e size w base g n cap cs):RowC w (some ⟨g,0,none⟩) n size cs:=by
 refine ⟨h.1,.inr ⟨g,0,rfl,h.facts.2.2.1,fun i v hi=>?_⟩⟩;have hl:i<cs.length:=(List.getElem?_eq_some_iff.1 hi).1;rw [Nat.zero_add,World.ownsRow.cellAt h i (by rw [<-h.1];exact hl),hi]
theorem OwnC.keep {e:TypeId} {size B:Nat} {w w':World} {base g n cap:Nat} {cs:List Value} (h:OwnC e size w base g n cap cs) (hb:Below B w w') (hg:g<B):OwnC e size w' base g n cap cs:=by
 obtain ⟨h1,h2⟩:=h;refine ⟨h1,?_⟩;rcases h2 with ⟨h2,_⟩ | ⟨g',cap',cur,h2,hb',hh,r⟩
 ·simp at h2
 ·have hh':=h2;simp at hh';obtain ⟨rfl,rfl⟩:=hh';exact .inr ⟨_,_,cur,h2,hb',by rw [hb.block _ hg];exact hh,r⟩
theorem OwnC.low {e:TypeId} {size:Nat} {w:World} {base base' g n cap:Nat} {cs:List Value} (h:OwnC e size w base g n cap cs) (hb:base'<=base):OwnC e size w base' g n cap cs:=by
 obtain ⟨h1,h2⟩:=h;refine ⟨h1,?_⟩;rcases h2 with ⟨h2,_⟩ | ⟨g',cap',cur,h2,hb',r⟩
 ·simp at h2
 ·exact .inr ⟨g',cap',cur,h2,by omega,r⟩
theorem OwnC.grown {e:TypeId} {size B:Nat} {a w w':World} {base g n cap:Nat} {cs:List Value} (h:Below B a w) (o:OwnC e size w base g n cap cs) (hg:w.grownBy w' (Value.slice (some ⟨g,0,none⟩) n cap).ownBlock) (hB:B<=base):Below B a w':=by
 have f:=o.facts;exact h.grown hg (by omega) (fun k hk=>by cases hk;show B<=g;omega)
theorem dv (a b:Option Addr) (len ca cb:Nat) (zs:List Int) (w:World) (h:RowC w a len 1 (zs.map (Value.int .u64))) (h':RowC w b len 1 (zs.map (Value.int .u64))) (hl:len<=1048576):
 Calls Try.prog 61 #[.slice a len ca,.slice b len cb] w fun e w'=>e=.returned (.bool true)∧∃n,w'=w.drewN n:=by
 obtain ⟨h1,h3⟩:=h;obtain ⟨_,k3⟩:=h';have hz:zs.length=len:=by simpa using h1
 have HAt:Hid (∀k,k<len->(zs.map (Value.int .u64))[k]?=some (.int .u64 (zs[k]?.getD 0))):=fun k hk=>by
  have:k<zs.length:=by omega
  simp [this]
 clear h1;go_enter Try.func61,Try.ntmps61;go_wp2;go_loopw [5] (fun i wr=>∃(k:Nat),k<=len∧i=.int .i64 k∧∃n,wr=w.drewN n) (fun i _=>len-(intOf i).toNat)
 case atStart=>exact ⟨0,Nat.zero_le _,rfl,0,rfl⟩
 case round=>
  obtain ⟨k,hk,rfl,n,rfl⟩:=hrel;by_cases hlt:k<len
  ·rcases h3 with h3 | ⟨b1,o1,rfl,hb1,hc1⟩
   ·omega
   rcases k3 with k3 | ⟨b2,o2,rfl,hb2,hc2⟩
   ·omega
   have g1:=hc1 k _ (HAt.out k hlt);have g2:=hc2 k _ (HAt.out k hlt);generalize zs[k]?.getD 0=z at g1 g2;clear hc1 hc2;go_wp2;go_quiet (fail);go_wp2;go_roundw
   case rel=>exact ⟨k+1,by omega,by go_num,n+nq,rfl⟩
   case measure=>simp [intOf];omega
  ·go_wp2;go_ret;exact ⟨rfl,n,rfl⟩
def aF (x p:Int):Bool:=x/p%2 == 1
def gU (va:Int):Bool:=va/16384%1125899906842624 == 0 || va/16384%1125899906842624 == 1125899906842623
def bb (pte:Int):Int:=pte/1024%17592186044416
def bE (level:Int):Int:=if level=0 then 1 else if level=1 then 8 else 64
def fX (level:Int):Int:=if level=0 then 64 else if level=1 then 512 else 4096
def aw (pte level:Int):Int:=
 if level<0∨2<level∨aF pte 1=false∨0<pte/18014398509481984%1024∨(aF pte 4=true∧aF pte 2=false) then 0
 else if aF pte 2=false∧aF pte 4=false∧aF pte 8=false then
  (if level=0∨aF pte 16=true∨aF pte 64=true∨aF pte 128=true then 0 else 1)
 else if 0<bb pte%bE level then 0 else 2
def iL (pte kind mode:Int) (sum mxr:Bool):Bool:=
 (if kind=0 then aF pte 8 else if kind=1 then aF pte 2 || (mxr && aF pte 8) else if kind=2 then aF pte 4 && aF pte 128 else false) &&
 (if mode=0 then aF pte 16 else if mode=1 then !aF pte 16 || (kind != 0 && sum) else false) && aF pte 64
def gV (pte level va:Int):Int:=
 if level<0∨2<level then 0 else bb pte*64/fX level*fX level+va%fX level
theorem iO (k:Nat) (h:k<=62):1<=(2:Int)^k∧(2:Int)^k<=4611686018427387904:=by
 have h1:(2:Nat)^k<=2^62:=Nat.pow_le_pow_right (by omega) h;have h2:1<=(2:Nat)^k:=Nat.one_le_two_pow;have e:(2:Int)^k=((2^k:Nat):Int):=by push_cast;rfl
 rw [e];omega
theorem aC {a b:Int} (h:a=b):Ending.returned (.int .i64 a)=.returned (.int .i64 b):=by rw [h]
theorem ag {a b:Bool} (h:a=b):Ending.returned (.bool a)=.returned (.bool b):=by rw [h]
theorem gC (k:Nat):∀(n:Int) (w:World),n<=k->k<=63->n.toNat=k->
 Calls Try.prog 63 #[.int .i64 n] w fun e w'=>e=.returned (.int .u64 (2^k))∧w'=w:=by
 induction k with
 | zero=>
  intro n w h h' h'';have hn:n<=0:=by omega
  go_enter Try.func63,Try.ntmps63;go_wp2_with fail;go_ret;exact ⟨rfl,rfl⟩
 | succ k ih=>
  intro n w h h' h'';have hn:¬n<=0:=by omega
  have hb:=iO k (by omega);have IH:Hid (∀(n:Int) (w:World),n<=k->k<=63->n.toNat=k->
   Calls Try.prog 63 #[.int .i64 n] w fun e w'=>e=.returned (.int .u64 (2^k))∧w'=w):=ih
  have HE:Hid ((2:Int)^(k+1)=2*2^k):=by show _=_;rw [Int.pow_succ,Int.mul_comm]
  rw [HE.out];clear ih HE;have H'':Hid (n.toNat=k+1):=h'';clear h'';generalize (2:Int)^k=p at *;go_enter Try.func63,Try.ntmps63;go_wp2_with fail;refine (IH.out (n-1) w (by omega) (by omega) (by have:=H''.out;omega)).mono ?_;rintro e w' ⟨rfl,rfl⟩;go_wp2_with fail;go_ret;exact ⟨rfl,rfl⟩
theorem aA (n p:Int) (w:World) (hn:n<=63) (hp:p=2^n.toNat):
 Calls Try.prog 63 #[.int .i64 n] w fun e w'=>e=.returned (.int .u64 p)∧w'=w:=by
 rw [hp];exact gC n.toNat n w (by omega) (by omega) rfl
theorem aD (x i j p q:Int) (w:World) (h0:0<=x) (h1:x<=18446744073709551615) (hi:0<=i) (hi':i<=63) (hj:i<=j+1) (hj':j-i<=62) (hp:p=2^i.toNat) (hq:q=2^(j-i+1).toNat):
 Calls Try.prog 86 #[.int .u64 x,.int .i64 i,.int .i64 j] w fun e w'=>e=.returned (.int .u64 (x/p%q))∧∃n,w'=w.drewN n:=by
 have hp1:1<=p:=by rw [hp];exact Int.pow_pos (by omega:(0:Int)<2)
 have hq1:1<=q:=by rw [hq];exact Int.pow_pos (by omega:(0:Int)<2)
 have hxp:0<=x/p:=Int.ediv_nonneg h0 (by omega);have HP:Hid (p=2^i.toNat):=hp;have HQ:Hid (q=2^(j-i+1).toNat):=hq;clear hp hq;go_enter Try.func86,Try.ntmps86;go_wp2_with fail;go_quiet (first
  | (go_at_call_of 63 (Value.int IntKind.i64 i);exact Calls.quiet_of_same (aA i p _ (by omega) HP.out))
  | (go_at_call 63;exact Calls.quiet_of_same (aA (j-i+1) q _ (by omega) HQ.out)))
 go_wp2_with fail;go_ret;exact ⟨rfl,nq,rfl⟩
theorem aB (x i p:Int) (w:World) (h0:0<=x) (h1:x<=18446744073709551615) (hi:0<=i) (hi':i<=63) (hp:p=2^i.toNat):
 Calls Try.prog 64 #[.int .u64 x,.int .i64 i] w fun e w'=>e=.returned (.bool (aF x p))∧∃n,w'=w.drewN n:=by
 have HP:Hid (p=2^i.toNat):=hp;clear hp;go_enter Try.func64,Try.ntmps64;go_wp2_with fail;refine (aD x i i p 2 w h0 h1 hi hi' (by omega) (by omega) HP.out (by rw [show i-i+1=1 by omega];rfl)).mono ?_;rintro e w' ⟨rfl,nq,rfl⟩;go_wp2_with fail;go_ret;exact ⟨rfl,nq,rfl⟩
theorem aU (x:Int) (w:World) (h0:0<=x) (h1:x<=18446744073709551615):
 Calls Try.prog 90 #[.int .u64 x] w fun e w'=>e=.returned (.int .u64 (bb x))∧∃n,w'=w.drewN n:=by
 go_enter Try.func90,Try.ntmps90;go_wp2_with fail;refine (aD x 10 53 1024 17592186044416 w h0 h1 (by omega) (by omega) (by omega) (by omega) rfl rfl).mono ?_;rintro e w' ⟨rfl,nq,rfl⟩;go_wp2_with fail;go_ret;exact ⟨rfl,nq,rfl⟩
theorem dO (pte level:Int) (w:World) (h0:0<=pte) (h1:pte<=18446744073709551615) (hl: -9223372036854775808<=level) (hl':level<=9223372036854775807):
 Calls Try.prog 65 #[.int .u64 pte,.int .i64 level] w fun e w'=>e=.returned (.int .i64 (aw pte level))∧∃n,w'=w.drewN n:=by
 go_enter Try.func65,Try.ntmps65;go_wp2_with fail;refine (aB pte 1 2 w h0 h1 (by omega) (by omega) rfl).mono ?_;rintro e w' ⟨rfl,n1,rfl⟩;go_wp2_with fail;refine (aB pte 2 4 _ h0 h1 (by omega) (by omega) rfl).mono ?_;rintro e w' ⟨rfl,n2,rfl⟩;go_wp2_with fail;refine (aB pte 3 8 _ h0 h1 (by omega) (by omega) rfl).mono ?_;rintro e w' ⟨rfl,n3,rfl⟩;go_wp2_with fail;refine (aB pte 4 16 _ h0 h1 (by omega) (by omega) rfl).mono ?_;rintro e w' ⟨rfl,n4,rfl⟩;go_wp2_with fail;refine (aB pte 6 64 _ h0 h1 (by omega) (by omega) rfl).mono ?_;rintro e w' ⟨rfl,n5,rfl⟩;go_wp2_with fail;refine (aB pte 7 128 _ h0 h1 (by omega) (by omega) rfl).mono ?_;rintro e w' ⟨rfl,n6,rfl⟩;by_cases hlev:0<=level∧level<=2
 ·obtain ⟨hl0,hl2⟩:=hlev;cases hV:aF pte 1
  ·go_wp2_with (first
    | (go_at_call 64;refine (aB pte 0 1 _ h0 h1 (by omega) (by omega) rfl).mono ?_;rintro e w' ⟨rfl,n7,rfl⟩;rw [hV]))
   go_ret;exact ⟨aC (by simp [aw,hV]),_,rfl⟩
  ·by_cases hres:0<pte/18014398509481984%1024
   ·go_wp2_with (first
     | (go_at_call 64;refine (aB pte 0 1 _ h0 h1 (by omega) (by omega) rfl).mono ?_;rintro e w' ⟨rfl,n7,rfl⟩;rw [hV])
     | (go_at_call 86;refine (aD pte 54 63 18014398509481984 1024 _ h0 h1 (by omega) (by omega) (by omega) (by omega) rfl rfl).mono ?_;rintro e w' ⟨rfl,n8,rfl⟩))
    go_ret;exact ⟨aC (by simp [aw,hres]),_,rfl⟩
   ·have hres':decide (0<pte/18014398509481984%1024)=false:=by simpa using hres
    cases hr:aF pte 2 <;> cases hw:aF pte 4
    ·cases hx:aF pte 8
     ·cases hu:aF pte 16 <;> cases ha:aF pte 64 <;> cases hd:aF pte 128;all_goals
       rcases (show level=0∨level=1∨level=2 by omega) with rfl | rfl | rfl;all_goals
        go_wp2_with (first
         | (go_at_call 64;refine (aB pte 0 1 _ h0 h1 (by omega) (by omega) rfl).mono ?_;rintro e w' ⟨rfl,n7,rfl⟩;rw [hV])
         | (go_at_call 86;refine (aD pte 54 63 18014398509481984 1024 _ h0 h1 (by omega) (by omega) (by omega) (by omega) rfl rfl).mono ?_;rintro e w' ⟨rfl,n8,rfl⟩))
        go_ret;exact ⟨aC (by simp [aw,hV,hr,hw,hx,hu,ha,hd,hres]),_,rfl⟩
     ·
      obtain ⟨t,ht⟩:∃t,bb pte=t:=⟨_,rfl⟩;have hpp:0<=t:=by rw [<-ht];exact Int.emod_nonneg _ (by omega)
      have HPP:Hid (bb pte=t):=ht;clear ht;rcases (show level=0∨level=1∨level=2 by omega) with rfl | rfl | rfl
      ·go_wp2_with (first
        | (go_at_call 64;refine (aB pte 0 1 _ h0 h1 (by omega) (by omega) rfl).mono ?_;rintro e w' ⟨rfl,n7,rfl⟩;rw [hV])
        | (go_at_call 86;refine (aD pte 54 63 18014398509481984 1024 _ h0 h1 (by omega) (by omega) (by omega) (by omega) rfl rfl).mono ?_;rintro e w' ⟨rfl,n8,rfl⟩)
        | (go_at_call 90;refine (aU pte _ h0 h1).mono ?_;rintro e w' ⟨rfl,n9,rfl⟩;rw [HPP.out])
        | (go_at_call 63;refine (aA _ 1 _ (by omega) rfl).mono ?_;rintro e w' ⟨rfl,rfl⟩))
       go_ret;exact ⟨aC (by simp [aw,hV,hr,hw,hx,hres,bE,Int.emod_one]),_,rfl⟩
      ·by_cases hm:0<t%8
       ·go_wp2_with (first
         | (go_at_call 64;refine (aB pte 0 1 _ h0 h1 (by omega) (by omega) rfl).mono ?_;rintro e w' ⟨rfl,n7,rfl⟩;rw [hV])
         | (go_at_call 86;refine (aD pte 54 63 18014398509481984 1024 _ h0 h1 (by omega) (by omega) (by omega) (by omega) rfl rfl).mono ?_;rintro e w' ⟨rfl,n8,rfl⟩)
         | (go_at_call 90;refine (aU pte _ h0 h1).mono ?_;rintro e w' ⟨rfl,n9,rfl⟩;rw [HPP.out])
         | (go_at_call 63;refine (aA _ 8 _ (by omega) rfl).mono ?_;rintro e w' ⟨rfl,rfl⟩))
        go_ret;exact ⟨aC (by simp [aw,hV,hr,hw,hx,show ¬0<pte/18014398509481984%1024 by omega,bE,HPP.out,hm]),_,rfl⟩
       ·go_wp2_with (first
         | (go_at_call 64;refine (aB pte 0 1 _ h0 h1 (by omega) (by omega) rfl).mono ?_;rintro e w' ⟨rfl,n7,rfl⟩;rw [hV])
         | (go_at_call 86;refine (aD pte 54 63 18014398509481984 1024 _ h0 h1 (by omega) (by omega) (by omega) (by omega) rfl rfl).mono ?_;rintro e w' ⟨rfl,n8,rfl⟩)
         | (go_at_call 90;refine (aU pte _ h0 h1).mono ?_;rintro e w' ⟨rfl,n9,rfl⟩;rw [HPP.out])
         | (go_at_call 63;refine (aA _ 8 _ (by omega) rfl).mono ?_;rintro e w' ⟨rfl,rfl⟩))
        go_ret;exact ⟨aC (by simp [aw,hV,hr,hw,hx,show ¬0<pte/18014398509481984%1024 by omega,show ¬0<t%8 by omega,bE,HPP.out]),_,rfl⟩
      ·by_cases hm:0<t%64
       ·go_wp2_with (first
         | (go_at_call 64;refine (aB pte 0 1 _ h0 h1 (by omega) (by omega) rfl).mono ?_;rintro e w' ⟨rfl,n7,rfl⟩;rw [hV])
         | (go_at_call 86;refine (aD pte 54 63 18014398509481984 1024 _ h0 h1 (by omega) (by omega) (by omega) (by omega) rfl rfl).mono ?_;rintro e w' ⟨rfl,n8,rfl⟩)
         | (go_at_call 90;refine (aU pte _ h0 h1).mono ?_;rintro e w' ⟨rfl,n9,rfl⟩;rw [HPP.out])
         | (go_at_call 63;refine (aA _ 64 _ (by omega) rfl).mono ?_;rintro e w' ⟨rfl,rfl⟩))
        go_ret;exact ⟨aC (by simp [aw,hV,hr,hw,hx,show ¬0<pte/18014398509481984%1024 by omega,bE,HPP.out,hm]),_,rfl⟩
       ·go_wp2_with (first
         | (go_at_call 64;refine (aB pte 0 1 _ h0 h1 (by omega) (by omega) rfl).mono ?_;rintro e w' ⟨rfl,n7,rfl⟩;rw [hV])
         | (go_at_call 86;refine (aD pte 54 63 18014398509481984 1024 _ h0 h1 (by omega) (by omega) (by omega) (by omega) rfl rfl).mono ?_;rintro e w' ⟨rfl,n8,rfl⟩)
         | (go_at_call 90;refine (aU pte _ h0 h1).mono ?_;rintro e w' ⟨rfl,n9,rfl⟩;rw [HPP.out])
         | (go_at_call 63;refine (aA _ 64 _ (by omega) rfl).mono ?_;rintro e w' ⟨rfl,rfl⟩))
        go_ret;exact ⟨aC (by simp [aw,hV,hr,hw,hx,show ¬0<pte/18014398509481984%1024 by omega,show ¬0<t%64 by omega,bE,HPP.out]),_,rfl⟩
    ·
     go_wp2_with (first
      | (go_at_call 64;refine (aB pte 0 1 _ h0 h1 (by omega) (by omega) rfl).mono ?_;rintro e w' ⟨rfl,n7,rfl⟩;rw [hV])
      | (go_at_call 86;refine (aD pte 54 63 18014398509481984 1024 _ h0 h1 (by omega) (by omega) (by omega) (by omega) rfl rfl).mono ?_;rintro e w' ⟨rfl,n8,rfl⟩))
     go_ret;exact ⟨aC (by simp [aw,hr,hw]),_,rfl⟩
    ·
     obtain ⟨t,ht⟩:∃t,bb pte=t:=⟨_,rfl⟩;have hpp:0<=t:=by rw [<-ht];exact Int.emod_nonneg _ (by omega)
     have HPP:Hid (bb pte=t):=ht;clear ht;rcases (show level=0∨level=1∨level=2 by omega) with rfl | rfl | rfl
     ·go_wp2_with (first
       | (go_at_call 64;refine (aB pte 0 1 _ h0 h1 (by omega) (by omega) rfl).mono ?_;rintro e w' ⟨rfl,n7,rfl⟩;rw [hV])
       | (go_at_call 86;refine (aD pte 54 63 18014398509481984 1024 _ h0 h1 (by omega) (by omega) (by omega) (by omega) rfl rfl).mono ?_;rintro e w' ⟨rfl,n8,rfl⟩)
       | (go_at_call 90;refine (aU pte _ h0 h1).mono ?_;rintro e w' ⟨rfl,n9,rfl⟩;rw [HPP.out])
       | (go_at_call 63;refine (aA _ 1 _ (by omega) rfl).mono ?_;rintro e w' ⟨rfl,rfl⟩))
      go_ret;exact ⟨aC (by simp [aw,hV,hr,hw,hres,bE,Int.emod_one]),_,rfl⟩
     ·by_cases hm:0<t%8
      ·go_wp2_with (first
        | (go_at_call 64;refine (aB pte 0 1 _ h0 h1 (by omega) (by omega) rfl).mono ?_;rintro e w' ⟨rfl,n7,rfl⟩;rw [hV])
        | (go_at_call 86;refine (aD pte 54 63 18014398509481984 1024 _ h0 h1 (by omega) (by omega) (by omega) (by omega) rfl rfl).mono ?_;rintro e w' ⟨rfl,n8,rfl⟩)
        | (go_at_call 90;refine (aU pte _ h0 h1).mono ?_;rintro e w' ⟨rfl,n9,rfl⟩;rw [HPP.out])
        | (go_at_call 63;refine (aA _ 8 _ (by omega) rfl).mono ?_;rintro e w' ⟨rfl,rfl⟩))
       go_ret;exact ⟨aC (by simp [aw,hV,hr,hw,show ¬0<pte/18014398509481984%1024 by omega,bE,HPP.out,hm]),_,rfl⟩
      ·go_wp2_with (first
        | (go_at_call 64;refine (aB pte 0 1 _ h0 h1 (by omega) (by omega) rfl).mono ?_;rintro e w' ⟨rfl,n7,rfl⟩;rw [hV])
        | (go_at_call 86;refine (aD pte 54 63 18014398509481984 1024 _ h0 h1 (by omega) (by omega) (by omega) (by omega) rfl rfl).mono ?_;rintro e w' ⟨rfl,n8,rfl⟩)
        | (go_at_call 90;refine (aU pte _ h0 h1).mono ?_;rintro e w' ⟨rfl,n9,rfl⟩;rw [HPP.out])
        | (go_at_call 63;refine (aA _ 8 _ (by omega) rfl).mono ?_;rintro e w' ⟨rfl,rfl⟩))
       go_ret;exact ⟨aC (by simp [aw,hV,hr,hw,show ¬0<pte/18014398509481984%1024 by omega,show ¬0<t%8 by omega,bE,HPP.out]),_,rfl⟩
     ·by_cases hm:0<t%64
      ·go_wp2_with (first
        | (go_at_call 64;refine (aB pte 0 1 _ h0 h1 (by omega) (by omega) rfl).mono ?_;rintro e w' ⟨rfl,n7,rfl⟩;rw [hV])
        | (go_at_call 86;refine (aD pte 54 63 18014398509481984 1024 _ h0 h1 (by omega) (by omega) (by omega) (by omega) rfl rfl).mono ?_;rintro e w' ⟨rfl,n8,rfl⟩)
        | (go_at_call 90;refine (aU pte _ h0 h1).mono ?_;rintro e w' ⟨rfl,n9,rfl⟩;rw [HPP.out])
        | (go_at_call 63;refine (aA _ 64 _ (by omega) rfl).mono ?_;rintro e w' ⟨rfl,rfl⟩))
       go_ret;exact ⟨aC (by simp [aw,hV,hr,hw,show ¬0<pte/18014398509481984%1024 by omega,bE,HPP.out,hm]),_,rfl⟩
      ·go_wp2_with (first
        | (go_at_call 64;refine (aB pte 0 1 _ h0 h1 (by omega) (by omega) rfl).mono ?_;rintro e w' ⟨rfl,n7,rfl⟩;rw [hV])
        | (go_at_call 86;refine (aD pte 54 63 18014398509481984 1024 _ h0 h1 (by omega) (by omega) (by omega) (by omega) rfl rfl).mono ?_;rintro e w' ⟨rfl,n8,rfl⟩)
        | (go_at_call 90;refine (aU pte _ h0 h1).mono ?_;rintro e w' ⟨rfl,n9,rfl⟩;rw [HPP.out])
        | (go_at_call 63;refine (aA _ 64 _ (by omega) rfl).mono ?_;rintro e w' ⟨rfl,rfl⟩))
       go_ret;exact ⟨aC (by simp [aw,hV,hr,hw,show ¬0<pte/18014398509481984%1024 by omega,show ¬0<t%64 by omega,bE,HPP.out]),_,rfl⟩
    ·
     obtain ⟨t,ht⟩:∃t,bb pte=t:=⟨_,rfl⟩;have hpp:0<=t:=by rw [<-ht];exact Int.emod_nonneg _ (by omega)
     have HPP:Hid (bb pte=t):=ht;clear ht;rcases (show level=0∨level=1∨level=2 by omega) with rfl | rfl | rfl
     ·go_wp2_with (first
       | (go_at_call 64;refine (aB pte 0 1 _ h0 h1 (by omega) (by omega) rfl).mono ?_;rintro e w' ⟨rfl,n7,rfl⟩;rw [hV])
       | (go_at_call 86;refine (aD pte 54 63 18014398509481984 1024 _ h0 h1 (by omega) (by omega) (by omega) (by omega) rfl rfl).mono ?_;rintro e w' ⟨rfl,n8,rfl⟩)
       | (go_at_call 90;refine (aU pte _ h0 h1).mono ?_;rintro e w' ⟨rfl,n9,rfl⟩;rw [HPP.out])
       | (go_at_call 63;refine (aA _ 1 _ (by omega) rfl).mono ?_;rintro e w' ⟨rfl,rfl⟩))
      go_ret;exact ⟨aC (by simp [aw,hV,hr,hw,hres,bE,Int.emod_one]),_,rfl⟩
     ·by_cases hm:0<t%8
      ·go_wp2_with (first
        | (go_at_call 64;refine (aB pte 0 1 _ h0 h1 (by omega) (by omega) rfl).mono ?_;rintro e w' ⟨rfl,n7,rfl⟩;rw [hV])
        | (go_at_call 86;refine (aD pte 54 63 18014398509481984 1024 _ h0 h1 (by omega) (by omega) (by omega) (by omega) rfl rfl).mono ?_;rintro e w' ⟨rfl,n8,rfl⟩)
        | (go_at_call 90;refine (aU pte _ h0 h1).mono ?_;rintro e w' ⟨rfl,n9,rfl⟩;rw [HPP.out])
        | (go_at_call 63;refine (aA _ 8 _ (by omega) rfl).mono ?_;rintro e w' ⟨rfl,rfl⟩))
       go_ret;exact ⟨aC (by simp [aw,hV,hr,hw,show ¬0<pte/18014398509481984%1024 by omega,bE,HPP.out,hm]),_,rfl⟩
      ·go_wp2_with (first
        | (go_at_call 64;refine (aB pte 0 1 _ h0 h1 (by omega) (by omega) rfl).mono ?_;rintro e w' ⟨rfl,n7,rfl⟩;rw [hV])
        | (go_at_call 86;refine (aD pte 54 63 18014398509481984 1024 _ h0 h1 (by omega) (by omega) (by omega) (by omega) rfl rfl).mono ?_;rintro e w' ⟨rfl,n8,rfl⟩)
        | (go_at_call 90;refine (aU pte _ h0 h1).mono ?_;rintro e w' ⟨rfl,n9,rfl⟩;rw [HPP.out])
        | (go_at_call 63;refine (aA _ 8 _ (by omega) rfl).mono ?_;rintro e w' ⟨rfl,rfl⟩))
       go_ret;exact ⟨aC (by simp [aw,hV,hr,hw,show ¬0<pte/18014398509481984%1024 by omega,show ¬0<t%8 by omega,bE,HPP.out]),_,rfl⟩
     ·by_cases hm:0<t%64
      ·go_wp2_with (first
        | (go_at_call 64;refine (aB pte 0 1 _ h0 h1 (by omega) (by omega) rfl).mono ?_;rintro e w' ⟨rfl,n7,rfl⟩;rw [hV])
        | (go_at_call 86;refine (aD pte 54 63 18014398509481984 1024 _ h0 h1 (by omega) (by omega) (by omega) (by omega) rfl rfl).mono ?_;rintro e w' ⟨rfl,n8,rfl⟩)
        | (go_at_call 90;refine (aU pte _ h0 h1).mono ?_;rintro e w' ⟨rfl,n9,rfl⟩;rw [HPP.out])
        | (go_at_call 63;refine (aA _ 64 _ (by omega) rfl).mono ?_;rintro e w' ⟨rfl,rfl⟩))
       go_ret;exact ⟨aC (by simp [aw,hV,hr,hw,show ¬0<pte/18014398509481984%1024 by omega,bE,HPP.out,hm]),_,rfl⟩
      ·go_wp2_with (first
        | (go_at_call 64;refine (aB pte 0 1 _ h0 h1 (by omega) (by omega) rfl).mono ?_;rintro e w' ⟨rfl,n7,rfl⟩;rw [hV])
        | (go_at_call 86;refine (aD pte 54 63 18014398509481984 1024 _ h0 h1 (by omega) (by omega) (by omega) (by omega) rfl rfl).mono ?_;rintro e w' ⟨rfl,n8,rfl⟩)
        | (go_at_call 90;refine (aU pte _ h0 h1).mono ?_;rintro e w' ⟨rfl,n9,rfl⟩;rw [HPP.out])
        | (go_at_call 63;refine (aA _ 64 _ (by omega) rfl).mono ?_;rintro e w' ⟨rfl,rfl⟩))
       go_ret;exact ⟨aC (by simp [aw,hV,hr,hw,show ¬0<pte/18014398509481984%1024 by omega,show ¬0<t%64 by omega,bE,HPP.out]),_,rfl⟩
 ·by_cases hneg:level<0
  ·go_wp2_with fail;go_ret;exact ⟨aC (by simp [aw,hneg]),_,rfl⟩
  ·have hgt:2<level:=by omega
   go_wp2_with fail;go_ret;exact ⟨aC (by simp [aw,hgt]),_,rfl⟩
def bh (va level:Int):Int:=if level=0 then va/64%8 else if level=1 then va/512%8 else va/4096%8
abbrev ce:=Int × Int × Int
def aR (zs:List Int) (va:Int):Nat->Int->Int × Int × Int × List ce
 | l,n=>
  if dy zs.length (64*n+8*bh va l) 8=false then (3,l,0,[])
  else if aw (rdV zs (64*n+8*bh va l) 8) l=0 then (2,l,0,[])
  else if aw (rdV zs (64*n+8*bh va l) 8) l=2 then (1,l,rdV zs (64*n+8*bh va l) 8,[((l:Int),64*n+8*bh va l,rdV zs (64*n+8*bh va l) 8)])
  else match l with
   | 0=>(2,0,0,[])
   | k+1=>((aR zs va k (bb (rdV zs (64*n+8*bh va l) 8))).1,(aR zs va k (bb (rdV zs (64*n+8*bh va l) 8))).2.1,(aR zs va k (bb (rdV zs (64*n+8*bh va l) 8))).2.2.1,
    ((l:Int),64*n+8*bh va l,rdV zs (64*n+8*bh va l) 8)::(aR zs va k (bb (rdV zs (64*n+8*bh va l) 8))).2.2.2)
def bj (zs:List Int) (root va:Int):Int × Int × Int × List ce:=
 if gU va=false then (2,2,0,[]) else aR zs va 2 (root%17592186044416)
def dk (kind:Int):Int:=if kind=0 then 12 else if kind=1 then 13 else 15
def cw (kind:Int):Int:=if kind=0 then 1 else if kind=1 then 5 else 7
def onM (mode satp:Int):Bool:=satp/1152921504606846976%16 == 8 && (mode == 0 || mode == 1)
def bk (satp:Int):Int:=satp/17592186044416%65536
def el (pte level mode:Int) (sum mxr:Bool) (kind va:Int):Int × Int:=
 if iL pte kind mode sum mxr=true then (0,gV pte level va) else (dk kind,0)
def cf (r:Int × Int × Int × List ce) (mode:Int) (sum mxr:Bool) (kind va:Int):Int × Int:=
 if r.1=2 then (dk kind,0) else if r.1=3 then (cw kind,0) else el r.2.2.1 r.2.1 mode sum mxr kind va
def de (zs:List Int) (mode:Int) (sum mxr:Bool) (satp kind va:Int):Int × Int:=
 if kind<0∨2<kind∨mode<0∨2<mode then (63,0)
 else if onM mode satp=false then (0,va)
 else cf (bj zs satp va) mode sum mxr kind va
theorem fy (zs:List Int) (a n:Int) (hn:n<=8) (h:∀i:Nat,0<=zs[i]?.getD 0∧zs[i]?.getD 0<=255):0<=rdV zs a n∧rdV zs a n<=18446744073709551615:=by
 unfold rdV;split
 ·have:=fu zs a.toNat n.toNat h;have hp:(256:Int)^n.toNat<=18446744073709551616:=by
   rcases (show n.toNat=0∨n.toNat=1∨n.toNat=2∨n.toNat=3∨n.toNat=4∨n.toNat=5∨n.toNat=6∨n.toNat=7∨n.toNat=8 by omega) with h | h | h | h | h | h | h | h | h <;> rw [h] <;> decide
  omega
 ·omega
theorem gj (p l:Int):aw p l=0∨aw p l=1∨aw p l=2:=by
 unfold aw;split
 ·exact .inl rfl
 ·split
  ·split
   ·exact .inl rfl
   ·exact .inr (.inl rfl)
  ·split
   ·exact .inl rfl
   ·exact .inr (.inr rfl)
theorem dz (p:Int):aw p 0≠1:=by
 unfold aw;split
 ·simp
 ·split
  ·simp
  ·split <;> simp
theorem bU {B:Nat} {w w':World} {g:Nat} {o:Obj} (h:w.heap[g]?=some o) (hb:Below B w w') (hg:g<B):w'.heap[g]?=some o:=by rw [hb.block g hg,h]
theorem ao {v:World} {p:Nat} {T:TypeId} {a b c:Value} (h:v.heap[p]?=some (.cells #[a,b,c] T (0,0))):
 (v.cell? ⟨p,0,none⟩=some a∧v.cell? ⟨p,1,none⟩=some b∧v.cell? ⟨p,2,none⟩=some c)∧v.frozen? ⟨p,0,none⟩=false∧v.frozen? ⟨p,1,none⟩=false∧v.frozen? ⟨p,2,none⟩=false:=by
 simp [World.cell?,World.frozen?,h]
theorem gb3 (v:World) (g:Nat) (x y z:Value):v.grownBy (((v.setCell ⟨g,0,none⟩ x).setCell ⟨g,1,none⟩ y).setCell ⟨g,2,none⟩ z) (some g):=
 au (au (au (aO v (some g)) 0 x) 1 y) 2 z
theorem dH {B:Nat} {a w:World} {g:Nat} (h:Below B a w) (hg:B<=g) (x y z:Value):Below B a (((w.setCell ⟨g,0,none⟩ x).setCell ⟨g,1,none⟩ y).setCell ⟨g,2,none⟩ z):=
 ((h.setCell (p:=⟨g,0,none⟩) hg x).setCell (p:=⟨g,1,none⟩) hg y).setCell (p:=⟨g,2,none⟩) hg z
theorem bH {e:TypeId} {size:Nat} {w:World} {base base' n:Nat} {v:Value} {cs:List Value} (h:w.ownsRow base e size v n cs) (hb:base'<=base):w.ownsRow base' e size v n cs:=by
 obtain ⟨h1,h2⟩:=h;refine ⟨h1,?_⟩;rcases h2 with h2 | ⟨g,cap,cur,h2,hb',r⟩
 ·exact .inl h2
 ·exact .inr ⟨g,cap,cur,h2,by omega,r⟩
theorem cG {e:TypeId} {size:Nat} {w w':World} {base n r:Nat} {v:Value} {cs:List Value} (h:w.ownsRow base e size v n cs) (hg:w.grownBy w' (some r)) (hr:r<base):w'.ownsRow base e size v n cs:=by
 refine h.kept hg ?_;rcases h.2 with ⟨rfl,_⟩ | ⟨g,cap,cur,rfl,hb',_⟩
 ·exact .inl rfl
 ·refine .inr ?_;simp [Value.ownBlock];omega
theorem aq {e:TypeId} {size:Nat} {w w':World} {base n:Nat} {v:Value} {cs:List Value} (h:w.ownsRow base e size v n cs) (hb:Below w.heap.size w w'):w'.ownsRow base e size v n cs:=by
 obtain ⟨h1,h2⟩:=h;refine ⟨h1,?_⟩;rcases h2 with h2 | ⟨g,cap,cur,h2,hb',hg,r⟩
 ·exact .inl h2
 ·refine .inr ⟨g,cap,cur,h2,hb',?_,r⟩;exact bU hg hb (Array.getElem?_eq_some_iff.1 hg).1
def CurAt (e:TypeId) (w:World) (g m:Nat) (cs:List Value):Prop:=cs.length=m∧∃cur,w.heap[g]?=some (.cells cur e (0,0))∧cur.toList.take m=cs
theorem CurAt.lt {e:TypeId} {w:World} {g m:Nat} {cs:List Value} (h:CurAt e w g m cs):g<w.heap.size:=by
 obtain ⟨_,cur,h2,_⟩:=h;exact (Array.getElem?_eq_some_iff.1 h2).1
theorem CurAt.cell {e:TypeId} {w:World} {g m:Nat} {cs:List Value} (h:CurAt e w g m cs) (j:Nat) (u:Value) (hj:cs[j]?=some u):w.cell? ⟨g,j,none⟩=some u:=by
 obtain ⟨h1,cur,h2,h3⟩:=h;subst h3;rw [List.getElem?_take] at hj;split at hj
 ·simp only [World.cell?,h2];simpa using hj
 ·cases hj
theorem CurAt.free {e:TypeId} {w:World} {g m:Nat} {cs:List Value} (h:CurAt e w g m cs) (j:Nat):w.frozen? ⟨g,j,none⟩=false:=by
 obtain ⟨h1,cur,h2,h3⟩:=h;simp [World.frozen?,h2]
theorem CurAt.store {e:TypeId} {w:World} {g m:Nat} {cs:List Value} (h:CurAt e w g m cs) (j:Nat) (u:Value):CurAt e (w.setCell ⟨g,j,none⟩ u) g m (cs.set j u):=by
 obtain ⟨h1,cur,h2,h3⟩:=h;refine ⟨by simpa using h1,cur.setIfInBounds j u,by simp [World.setCell,Array.getElem?_modify,h2],?_⟩;subst h3;rw [Array.toList_setIfInBounds,List.take_set]
theorem CurAt.of_own {e:TypeId} {size:Nat} {w:World} {base g n cap:Nat} {cs:List Value} (h:w.ownsRow base e size (.slice (some ⟨g,0,none⟩) n cap) n cs):CurAt e w g (n*size) cs∧base<=g:=by
 obtain ⟨h1,h2⟩:=h;rcases h2 with ⟨h2,_⟩ | ⟨g',cap',cur,h2,hb,hg,_,_,_,ht⟩
 ·cases h2
 ·cases h2;exact ⟨⟨h1,cur,hg,ht⟩,hb⟩
theorem dq {e:TypeId} {size:Nat} {w:World} {base n:Nat} {a:Option Addr} {cap:Nat} {cs:List Value} (h:w.ownsRow base e size (.slice a n cap) n cs):RowC w a n size cs:=by
 cases a with
 | none=>
  obtain ⟨h1,h2⟩:=h;rcases h2 with ⟨_,h2⟩ | ⟨g',cap',cur,h2,_⟩
  ·subst h2;exact ⟨h1,.inl rfl⟩
  ·cases h2
 | some q=>
  have hq:q=⟨q.block,0,none⟩:=by
   obtain ⟨h1,h2⟩:=h;rcases h2 with ⟨h2,_⟩ | ⟨g',cap',cur,h2,_⟩
   ·cases h2
   ·cases h2;rfl
  rw [hq] at h |-;have:=CurAt.of_own h;refine ⟨h.1,.inr ⟨q.block,0,rfl,this.1.lt,fun i u hu=>?_⟩⟩;rw [Nat.zero_add];exact this.1.cell i u hu
theorem bs {e:TypeId} {size:Nat} {w:World} {base n cap:Nat} {q:Addr} {cs:List Value} (h:w.ownsRow base e size (.slice (some q) n cap) n cs):q=⟨q.block,0,none⟩∧base<=q.block∧q.block<w.heap.size:=by
 rcases h.2 with ⟨h2,_⟩ | ⟨g',cap',cur,h2,hb,hg,_⟩
 ·cases h2
 ·cases h2;exact ⟨rfl,hb,(Array.getElem?_eq_some_iff.1 hg).1⟩
theorem aa {w w':World} {b:Nat} {o:Obj} (h:Hid (w.heap[b]?=some o)) (n:Below w.heap.size w w'):Hid (w'.heap[b]?=some o):=bU h.out n (Array.getElem?_eq_some_iff.1 h.out).1
theorem aI {e:TypeId} {size:Nat} {w:World} {base g n cap:Nat} {cs:List Value} (h:w.ownsRow base e size (.slice (some ⟨g,0,none⟩) n cap) n cs) (j:Nat) (u:Value):
 (w.setCell ⟨g,j,none⟩ u).ownsRow base e size (.slice (some ⟨g,0,none⟩) n cap) n (cs.set j u):=by
 obtain ⟨h1,h2⟩:=h;refine ⟨by simpa using h1,?_⟩;rcases h2 with ⟨h2,_⟩ | ⟨g',cap',cur,h2,hb,hg,hc1,hc2,hc3,ht⟩
 ·cases h2
 ·cases h2;refine .inr ⟨g,cap,cur.setIfInBounds j u,rfl,hb,by simp [World.setCell,Array.getElem?_modify,hg],hc1,hc2,by simpa using hc3,?_⟩;subst ht;rw [Array.toList_setIfInBounds,List.take_set]
theorem aM {e:TypeId} {size:Nat} {w:World} {base g n cap:Nat} {cs:List Value} (h:w.ownsRow base e size (.slice (some ⟨g,0,none⟩) n cap) n cs) (j:Nat) (u:Value) (hj:cs[j]?=some u):w.cell? ⟨g,j,none⟩=some u:=
 (CurAt.of_own h).1.cell j u hj
theorem aN {e:TypeId} {size:Nat} {w:World} {base g n cap:Nat} {cs:List Value} (h:w.ownsRow base e size (.slice (some ⟨g,0,none⟩) n cap) n cs) (j:Nat):w.frozen? ⟨g,j,none⟩=false:=
 (CurAt.of_own h).1.free j
end Go.Proofs.Ytfgogedgolgnaaa

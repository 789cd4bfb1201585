import Derived.Test.YtgnnmgfgfihljaaGreatPk08
namespace Go.Proofs.YtgnnmgfgfihljaaGreat
open Go.RowKit
set_option linter.unusedVariables false
set_option maxHeartbeats 6400000
set_option maxRecDepth 20000
theorem Tryz.sizeB:(Tryz.prog.info? 5).map (fun i=>i.size)=some 1:=by kernel_rfl
theorem wj (a:Option Addr) (len cap:Nat) (zs:List Int) (w:World) (h:Byt w a len zs) (hl:len<=1048576):
 Calls Tryz.prog 56 #[.slice a len cap] w fun e w'=>
  e=.returned (.slice (some ⟨w.heap.size,0,none⟩) len len)∧Blk 5 w' w.heap.size zs∧Below w.heap.size w w':=by
 obtain ⟨i0,hi,hz0,hz1,hz2⟩:=info_parts Tryz.infoB;have hz:=h.1;go_enter Tryz.func56,Tryz.ntmps56;go_wp2_with (at_make;refine wpList_make_full _ rfl _ _ 91 rfl w.heap.size 5 i0 (.int .u8 0) 1 Tryz.underlying91 hi hz0 hz1 _ _ _ _ len rfl rfl rfl rfl ?b2 ?b3 nle ?_)
 case b2=>rw [hz2];omega
 case b3=>unfold maxLen;omega
 intro w0 hown0 hgrow0;rw [xR] at hown0;have hb0:=Blk.of_own hown0 rfl;have hn0:Below w.heap.size w w0:=(Below.refl _ _).grown hgrow0 nle (fun k h=>by cases h);have h0:=h.keep hn0;clear hown0 hgrow0 h;go_wp2_with (refine wpList_copy_splice rfl (.tmp 7) (.tmp 8) 91 91 rfl 5 Tryz.underlying91 Tryz.sizeB _ _ _ _ _ _ rfl rfl w.heap.size 0 ((List.replicate len (0:Int)).map (Value.int .u8)) 5 hb0 (zs.map (Value.int .u8)) (by simp [hz]) (fun hp=>⟨rfl,AZ h0 (by simpa [hz] using hp)⟩) (by simp [hz]) (wU _) w.heap.size w hn0 nle ?_;intro w1 hb1 hn1);go_ret;have hb2:=hb1.out;rw [xg _ _ (by simp [hz])] at hb2;exact ⟨rfl,hb2,hn1⟩
def Cur (T:TypeId) (w:World) (p:Nat) (a:Option Addr) (len cap:Nat) (code:List Int):Prop:=
 ∃(i:Nat) (h:Int),i<=len∧w.heap[p]?=some (.cells #[.slice a len cap,.int .i64 i,.int .i64 h] T (0,0))∧Byt w a len code∧(0<len->∀x,a=some x->x.block<p)∧len<=1048576
theorem Cur.lt {T:TypeId} {w:World} {p:Nat} {a:Option Addr} {len cap:Nat} {code:List Int} (h:Cur T w p a len cap code):p<w.heap.size:=by
 obtain ⟨_,_,_,hh,_⟩:=h;exact (hpl hh)
theorem Cur.step {T:TypeId} {w v:World} {p:Nat} {a:Option Addr} {len cap:Nat} {code:List Int} {i i':Nat} {h h':Int}
 (hh:w.heap[p]?=some (.cells #[.slice a len cap,.int .i64 i,.int .i64 h] T (0,0))) (hb:Byt w a len code) (hlt:0<len->∀x,a=some x->x.block<p) (hl:len<=1048576) (hi:i'<=len)
 (hv:v.heap[p]?=some (.cells #[.slice a len cap,.int .i64 i',.int .i64 h'] T (0,0))) (hg:w.grownBy v (some p)):Cur T v p a len cap code:=by
 refine ⟨i',h',hi,hv,?_,hlt,hl⟩;obtain ⟨h1,h2,h3⟩:=hb;refine ⟨h1,h2,?_⟩;by_cases h0:len=0
 ·exact .inl h0
 rcases h3 with h3 | ⟨b,off,rfl,hbw,hc⟩
 ·exact .inl h3
 ·have hbp:b<p:=hlt (by omega) ⟨b,off,none⟩ rfl;exact .inr ⟨b,off,rfl,Nat.lt_of_lt_of_le hbw hg.size,fun j hj=>(World.cell?_of_block (hg.block b hbw (by simp;omega))).trans (hc j hj)⟩
theorem za {w v:World} {r:Option Nat} (h:w.grownBy v r) (n:Nat):w.grownBy (v.drewN n) r:=⟨h.os,h.tape,h.output,h.size,h.block⟩
theorem vZ {w v u:World} {r:Option Nat} (h:w.grownBy v r) (k:v.grownBy u r):w.grownBy u r:=
 ⟨k.os.trans h.os,k.tape.trans h.tape,k.output.trans h.output,Nat.le_trans h.size k.size,fun i hi hn=>(k.block i (Nat.lt_of_lt_of_le hi h.size) hn).trans (h.block i hi hn)⟩
def Drew (T:TypeId) (w:World) (p:Nat) (a:Option Addr) (len cap:Nat) (code:List Int) (w':World):Prop:=Cur T w' p a len cap code∧w.grownBy w' (some p)
theorem Drew.trans {T:TypeId} {w v u:World} {p:Nat} {a:Option Addr} {len cap:Nat} {code:List Int} (h:Drew T w p a len cap code v) (k:Drew T v p a len cap code u):Drew T w p a len cap code u:=⟨k.1,vZ h.2 k.2⟩
theorem Cur.below {T:TypeId} {B:Nat} {w v:World} {p:Nat} {a:Option Addr} {len cap:Nat} {code:List Int} (h:Cur T w p a len cap code) (hb:Below B w v) (hp:p<B):Cur T v p a len cap code:=by
 obtain ⟨i,hh,hi,hv,⟨h1,h2,h3⟩,hlt,hl⟩:=h;refine ⟨i,hh,hi,by rw [hb.block p hp];exact hv,⟨h1,h2,?_⟩,hlt,hl⟩;by_cases h0:len=0
 ·exact .inl h0
 rcases h3 with h3 | ⟨b,off,rfl,hbw,hc⟩
 ·exact .inl h3
 ·have hbp:b<p:=hlt (by omega) ⟨b,off,none⟩ rfl;exact .inr ⟨b,off,rfl,Nat.lt_of_lt_of_le hbw hb.size,fun j hj=>(hb.cell (p:=⟨b,off+j,none⟩) (Nat.lt_trans hbp hp)).trans (hc j hj)⟩
theorem Drew.below {T:TypeId} {w v u:World} {p:Nat} {a:Option Addr} {len cap:Nat} {code:List Int} (h:Drew T w p a len cap code v) (hb:Below w.heap.size v u) (hp:p<w.heap.size):Drew T w p a len cap code u:=by
 refine ⟨h.1.below hb hp,⟨hb.os.trans h.2.os,hb.tape.trans h.2.tape,hb.output.trans h.2.output,Nat.le_trans h.2.size hb.size,fun i hi hn=>(hb.block i hi).trans (h.2.block i hi hn)⟩⟩
theorem OwnB.gb {e:TypeId} {w w':World} {base g n cap r:Nat} {zs:List Int} (h:OwnB e w base g n cap zs) (hg:w.grownBy w' (some r)) (hne:g≠r):OwnB e w' base g n cap zs:=by
 obtain ⟨h1,h2⟩:=h;refine ⟨h1,?_⟩;rcases h2 with ⟨h2,_⟩ | ⟨g',cap',cur,h2,hb',hh,r'⟩
 ·simp at h2
 ·have hh':=h2;simp at hh';obtain ⟨rfl,rfl⟩:=hh';exact .inr ⟨_,_,cur,h2,hb',by rw [hg.block _ (hpl hh) (by simpa using hne)];exact hh,r'⟩
structure HartM where
 mem:List Int
 regs:List Int
 pc:Int
 mode:Int
 sum:Bool
 mxr:Bool
 satp:Int
 tvec:Int
 epc:Int
 emode:Int
 cause:Int
 tval:Int
 k:KM
structure RunM where
 h:HartM
 cause:Int
 tval:Int
 looks:List (Int × Int)
 fenced:Bool
 fence:FenceM
def ef:FenceM:=⟨false,0,false,0⟩
def dE (satp:Int):Bool:=satp/1152921504606846976%16 == 0 || satp/1152921504606846976%16 == 8
def dU (n:Nat):Bool:=decide (n%64=0∧64<=n∧n<=4096)
def fl (h:HartM):Bool:=
 decide (h.regs.length=8) && (h.regs[0]?.getD 0 == 0) && decide (0<=h.mode∧h.mode<=2) && decide (0<=h.emode∧h.emode<=2) && dE h.satp && (h.tvec%4 == 0) && decide (0<=h.cause∧h.cause<=63)
def cJ (h:HartM):Bool:=dU h.mem.length && fl h && bf h.k
def be (plain:Bool) (pick:Int) (h:HartM) (kind va:Int):(Int × Int) × KM:=
 if plain=true then (gM h.mem h.mode h.sum h.mxr h.satp kind va,h.k) else ct h.mem h.mode h.sum h.mxr h.satp h.k kind va pick
def withK (h:HartM) (k:KM):HartM:=⟨h.mem,h.regs,h.pc,h.mode,h.sum,h.mxr,h.satp,h.tvec,h.epc,h.emode,h.cause,h.tval,k⟩
def dF (h:HartM) (mem:List Int):HartM:=⟨mem,h.regs,h.pc,h.mode,h.sum,h.mxr,h.satp,h.tvec,h.epc,h.emode,h.cause,h.tval,h.k⟩
def dY (h:HartM) (regs:List Int):HartM:=⟨h.mem,regs,h.pc,h.mode,h.sum,h.mxr,h.satp,h.tvec,h.epc,h.emode,h.cause,h.tval,h.k⟩
def dV (h:HartM) (pc:Int):HartM:=⟨h.mem,h.regs,pc,h.mode,h.sum,h.mxr,h.satp,h.tvec,h.epc,h.emode,h.cause,h.tval,h.k⟩
def bH (r:RunM) (h:HartM):RunM:=⟨h,r.cause,r.tval,r.looks,r.fenced,r.fence⟩
def bP (r:RunM) (cause tval:Int):RunM:=⟨r.h,cause,tval,r.looks,r.fenced,r.fence⟩
def bw (plain:Bool) (pick:Int) (r:RunM) (kind va:Int):RunM:=
 ⟨withK r.h (be plain pick r.h kind va).2,r.cause,r.tval,r.looks++[(kind,va)],r.fenced,r.fence⟩
abbrev bI:=Int × Int × Int
def co (va w:Int):List bI:=
 if 64-va%64<w then [(va,64-va%64,0),((va+(64-va%64))%18446744073709551616,w-(64-va%64),0)] else [(va,w,0)]
def aj (plain:Bool) (pick kind:Int):RunM->List bI->RunM × List bI
 | r,[]=>(r,[])
 | r,p::ps=>
  if (be plain pick r.h kind p.1).1.1=0 then
   ((aj plain pick kind (bw plain pick r kind p.1) ps).1,(p.1,p.2.1,(be plain pick r.h kind p.1).1.2)::(aj plain pick kind (bw plain pick r kind p.1) ps).2)
  else (bP (bw plain pick r kind p.1) (be plain pick r.h kind p.1).1.1 p.1,p::ps)
def fm (mem:List Int):List bI->Option Int
 | []=>none
 | p::ps=>if fw mem.length p.2.2 p.2.1=true then fm mem ps else some p.1
def aJ (plain:Bool) (pick:Int) (r:RunM) (kind va w:Int):RunM × List bI:=
 if (aj plain pick kind r (co va w)).1.cause=0 then
  match fm (aj plain pick kind r (co va w)).1.h.mem (aj plain pick kind r (co va w)).2 with
  | none=>aj plain pick kind r (co va w)
  | some v=>(bP (aj plain pick kind r (co va w)).1 (bE kind) v,(aj plain pick kind r (co va w)).2)
 else aj plain pick kind r (co va w)
def bS (mem:List Int):List bI->List Int
 | []=>[]
 | p::ps=>(mem.drop p.2.2.toNat).take p.2.1.toNat++bS mem ps
def gL (mem:List Int) (ps:List bI):Int:=num (bS mem ps)
def gn:List Int->List bI->List Int->List Int
 | mem,[],_=>mem
 | mem,p::ps,b=>gn (put mem p.2.2.toNat (b.take p.2.1.toNat)) ps (b.drop p.2.1.toNat)
def fo (h:HartM) (a:Int):Int:=h.regs[a.toNat]?.getD 0
def bU (r:RunM) (a x:Int):RunM:=bH r (dY r.h (if 0<a then r.h.regs.set a.toNat x else r.h.regs))
def fW (s:Int):Int:=if 128<=s then s-256 else s
def fT (n:Int):Int:=2^n.toNat
def bQ (op c mode:Int):Bool:=
 decide (9<=op∧op<=11∧mode=0) || decide ((op=12∨op=13)∧mode≠2) || decide (op=13∧2<c)
def kN (h:HartM) (a b:Int):FenceM:=⟨decide (a≠0),fo h a,decide (b≠0),fo h b%65536⟩
def dh (k:KM) (f:FenceM):KM:=⟨dW k.i f,dW k.d f,dW k.p f⟩
def oL (plain:Bool) (pick:Int) (r:RunM) (ea w a:Int):RunM:=
 if (aJ plain pick r 1 ea w).1.cause=0 then bU (aJ plain pick r 1 ea w).1 a (gL (aJ plain pick r 1 ea w).1.h.mem (aJ plain pick r 1 ea w).2) else (aJ plain pick r 1 ea w).1
def da (t:RunM × List bI) (b:List Int):RunM:=bH t.1 (dF t.1.h (gn t.1.h.mem t.2 b))
def kg (plain:Bool) (pick:Int) (r:RunM) (ea w x:Int):RunM:=
 if (aJ plain pick r 2 ea w).1.cause=0 then da (aJ plain pick r 2 ea w) (cS x w.toNat) else (aJ plain pick r 2 ea w).1
def vn (plain:Bool) (pick:Int) (r:RunM) (ea a x:Int):RunM:=
 if (aJ plain pick r 2 ea 8).1.cause=0 then bU (da (aJ plain pick r 2 ea 8) (cS ((gL (aJ plain pick r 2 ea 8).1.h.mem (aJ plain pick r 2 ea 8).2+x)%18446744073709551616) 8)) a (gL (aJ plain pick r 2 ea 8).1.h.mem (aJ plain pick r 2 ea 8).2) else (aJ plain pick r 2 ea 8).1
def eaM (h:HartM) (b s:Int):Int:=(fo h b+fW s)%18446744073709551616
def doM (plain:Bool) (pick:Int) (r:RunM) (pc op a b c s word:Int):RunM:=
 if bQ op c r.h.mode=true then bP r 2 word
 else if op=1 then bU r a (fW s%18446744073709551616)
 else if op=2 then bU r a ((fo r.h b+fo r.h c)%18446744073709551616)
 else if op=3 then bU r a (eaM r.h b s)
 else if op=4 then bU r a (fo r.h b*fT (s%64)%18446744073709551616)
 else if op=5 then oL plain pick r (eaM r.h b s) (fT (c%4)) a
 else if op=6 then kg plain pick r (eaM r.h b s) (fT (c%4)) (fo r.h a)
 else if op=7 then vn plain pick r (eaM r.h b s) a (fo r.h c)
 else if op=8 then (if fo r.h a=fo r.h b then r else bH r (dV r.h ((pc+4*fW s)%18446744073709551616)))
 else if op=9 then (if dE (fo r.h a)=true then bH r ⟨r.h.mem,r.h.regs,r.h.pc,r.h.mode,r.h.sum,r.h.mxr,fo r.h a,r.h.tvec,r.h.epc,r.h.emode,r.h.cause,r.h.tval,r.h.k⟩ else r)
 else if op=10 then bH r ⟨r.h.mem,r.h.regs,r.h.pc,r.h.mode,bj (fo r.h a) 1,bj (fo r.h a) 2,r.h.satp,r.h.tvec,r.h.epc,r.h.emode,r.h.cause,r.h.tval,r.h.k⟩
 else if op=11 then ⟨if plain=true then r.h else withK r.h (dh r.h.k (kN r.h a b)),r.cause,r.tval,r.looks,true,kN r.h a b⟩
 else if op=12 then bH r ⟨r.h.mem,r.h.regs,(r.h.epc+4*fW s)%18446744073709551616,r.h.emode,r.h.sum,r.h.mxr,r.h.satp,r.h.tvec,r.h.epc,r.h.emode,r.h.cause,r.h.tval,r.h.k⟩
 else if op=13 then bH r ⟨r.h.mem,r.h.regs,r.h.pc,r.h.mode,r.h.sum,r.h.mxr,r.h.satp,r.h.tvec,fo r.h a,c,r.h.cause,r.h.tval,r.h.k⟩
 else if op=14 then bP r (8+r.h.mode) 0
 else bP r 2 word
def eQ (plain:Bool) (pick:Int) (r:RunM) (op p q s word:Int):RunM:=
 doM plain pick (bH r (dV r.h ((r.h.pc+4)%18446744073709551616))) r.h.pc op (p%8) (p/8%8) (q%8) s word
def aZ (t:TlbM) (n:Int):TlbM:=⟨t.sets,t.ways,t.es.set (n%t.es.length).toNat cO⟩
def fE (plain:Bool) (pick:Int) (k:KM):KM:=
 if 128<=pick∧plain=false then ⟨aZ k.i (pick-128),aZ k.d (pick-128),aZ k.p (pick-128)⟩ else k
def iY (plain:Bool) (pick:Int) (h:HartM):Int:=rdV h.mem (be plain pick h 0 h.pc).1.2 4
def jo (plain:Bool) (pick:Int) (r:RunM) (x:Int):RunM:=eQ plain pick r (x%256) (x/256%256) (x/65536%256) (x/16777216) x
def dZ (plain:Bool) (pick:Int) (r:RunM):RunM:=
 if r.h.pc%4=0 then
  if (be plain pick r.h 0 r.h.pc).1.1=0 then
   if di r.h.mem.length (be plain pick r.h 0 r.h.pc).1.2 4=true then jo plain pick (bw plain pick r 0 r.h.pc) (iY plain pick r.h)
   else bP (bw plain pick r 0 r.h.pc) 1 r.h.pc
  else bP (bw plain pick r 0 r.h.pc) (be plain pick r.h 0 r.h.pc).1.1 r.h.pc
 else bP r 20 r.h.pc
def cC (plain:Bool) (pick:Int) (h:HartM):RunM:=⟨withK h (fE plain pick h.k),0,0,[],false,ef⟩
def dA (h:HartM) (r:RunM):HartM:=⟨h.mem,h.regs,h.tvec,2,h.sum,h.mxr,h.satp,h.tvec,h.pc,h.mode,r.cause,r.tval,r.h.k⟩
def nW (h:HartM) (r:RunM):RunM:=if r.cause=0 then r else bH r (dA h r)
def ew (plain:Bool) (pick:Int) (h:HartM):RunM:=nW h (dZ plain pick (cC plain pick h))
abbrev gJ:=Int × Int × Bool × dG
def xG (va satp:Int) (r:dG):gJ:=(eF va r.1,aG satp,bj r.2.2 32,r)
def tC (gs:List gJ) (f:FenceM):List gJ:=gs.filter fun g=>!gu f g.2.2.2.1 g.1 g.2.1 g.2.2.1
def zS (g:gJ) (e:EntM):Prop:=g.1=e.tag∧g.2.1=e.asid∧g.2.2.1=e.glob∧g.2.2.2.1=e.level∧g.2.2.2.2.2=e.pte
def CovT (t:TlbM) (gs:List gJ):Prop:=∀e∈t.es,e.valid=true->∃g∈gs,zS g e
def CovK (k:KM) (gs:List gJ):Prop:=CovT k.i gs∧CovT k.d gs∧CovT k.p gs
theorem CovT.mono {t:TlbM} {gs gs':List gJ} (h:CovT t gs) (hs:∀g∈gs,g∈gs'):CovT t gs':=fun e he hv=>by
 obtain ⟨g,hg,hs'⟩:=h e he hv;exact ⟨g,hs g hg,hs'⟩
theorem CovK.mono {k:KM} {gs gs':List gJ} (h:CovK k gs) (hs:∀g∈gs,g∈gs'):CovK k gs':=⟨h.1.mono hs,h.2.1.mono hs,h.2.2.mono hs⟩
theorem CovT.insert {t:TlbM} {gs:List gJ} {e:EntM} {pick:Int} (h:CovT t gs) (he:∃g∈gs,zS g e):CovT (cV t e pick) gs:=by
 unfold cV;split
 ·intro x hx hv;rcases List.mem_or_eq_of_mem_set hx with hx | rfl
  ·exact h x hx hv
  ·exact he
 ·exact h
theorem wO (va satp:Int) (r:dG):zS (xG va satp r) (ee r.1 va satp r.2.2):=⟨rfl,rfl,rfl,rfl,rfl⟩
theorem CovT.ptrs {gs:List gJ} {va satp pick:Int}:∀(rs:List dG) (p:TlbM),CovT p gs->(∀r∈rs,bu r.2.2 r.1=1->xG va satp r∈gs)->CovT (cx va satp pick rs p) gs
 | [],p,h,_=>h
 | r::rs,p,h,hr=>by
  rw [cx];refine CovT.ptrs rs _ ?_ (fun x hx=>hr x (List.mem_cons_of_mem _ hx));split
  ·rename_i hk;exact h.insert ⟨_,hr r (List.mem_cons_self ..) hk,wO va satp r⟩
  ·exact h
theorem CovT.flush {t:TlbM} {gs:List gJ} {f:FenceM} (h:CovT t gs) (he:ej t=true):CovT (dW t f) (tC gs f):=by
 unfold dW;rw [if_pos he];intro x hx hv;simp only [List.mem_map] at hx;obtain ⟨y,hy,rfl⟩:=hx;unfold bT at hv |-;split at hv
 ·simp [cO] at hv
 ·rename_i hc;rw [if_neg hc];obtain ⟨g,hg,h1,h2,h3,h4,h5⟩:=h y hy hv;refine ⟨g,?_,h1,h2,h3,h4,h5⟩;simp only [tC,List.mem_filter,h1,h2,h3,h4,Bool.not_eq_true'];refine ⟨hg,?_⟩;simp only [hv,Bool.true_and,Bool.not_eq_true] at hc;exact hc
theorem jZ (t:TlbM) (n:Int) (p:Bool) (hv:aL t p=true):aL (aZ t n) p=true:=by
 have hs:=eL hv;refine qQ ?_ ?_
 ·simp only [iE,aZ,decide_eq_true_eq,List.length_set];exact hs
 ·intro j x hx;simp only [aZ,List.getElem?_set] at hx;split at hx
  ·split at hx
   ·cases hx;simp [bZ,cO]
   ·cases hx
  ·exact iX hv j x hx
theorem wP (plain:Bool) (pick:Int) (k:KM) (h:bf k=true):bf (fE plain pick k)=true:=by
 unfold fE;split
 ·simp only [bf,Bool.and_eq_true] at h |-;exact ⟨⟨jZ _ _ _ h.1.1,jZ _ _ _ h.1.2⟩,jZ _ _ _ h.2⟩
 ·exact h
theorem uU (k:KM) (f:FenceM) (h:bf k=true):bf (dh k f)=true:=by
 simp only [bf,dh,Bool.and_eq_true] at h |-;exact ⟨⟨kf _ _ _ h.1.1,kf _ _ _ h.1.2⟩,kf _ _ _ h.2⟩
theorem CovK.flush {k:KM} {gs:List gJ} {f:FenceM} (h:CovK k gs) (hk:bf k=true):CovK (dh k f) (tC gs f):=by
 simp only [bf,Bool.and_eq_true] at hk;exact ⟨h.1.flush (dC hk.1.1),h.2.1.flush (dC hk.1.2),h.2.2.flush (dC hk.2)⟩
theorem uS (a k:Nat):(a &&& 2^k != 0)=(a/2^k%2 == 1):=by
 have e:(a/2^k%2 == 1)=a.testBit k:=by rw [Nat.testBit_eq_decide_div_mod_eq];rfl
 rw [e];cases h:a.testBit k
 ·have:a &&& 2^k=0:=by
   apply Nat.eq_of_testBit_eq;intro i;rw [Nat.testBit_and,Nat.testBit_two_pow,Nat.zero_testBit];by_cases hi:k=i
   ·subst hi;simp [h]
   ·simp [hi]
  simp [this]
 ·have:a &&& 2^k≠0:=by
   intro h0;have:=congrArg (fun n=>n.testBit k) h0;simp [Nat.testBit_and,h] at this
  simpa using this
theorem jh (a m n:Nat):(a &&& (m ||| n) != 0)=((a &&& m != 0) || (a &&& n != 0)):=by
 rw [Nat.and_or_distrib_left];cases h:(a &&& m != 0) <;> cases h':(a &&& n != 0) <;> simp_all [Nat.or_eq_zero_iff]
def ji (x m:Int):Bool:=bits .and .u64 x m != 0
theorem fR (a m:Nat) (ha:a<18446744073709551616) (hm:m<18446744073709551616):ji a m=(a &&& m != 0):=by
 rw [ji,u64_and_nat a m ha hm];cases h:(a &&& m != 0)
 ·simp at h;simp [h]
 ·simp at h;simp;omega
theorem dz (k:Nat) (x p:Int) (hp:p=2^k) (hk:p<18446744073709551616) (h0:0<=x) (h1:x<=18446744073709551615):ji x p=bj x p:=by
 obtain ⟨a,rfl⟩:=Int.eq_ofNat_of_zero_le h0;have e:p=((2^k:Nat):Int):=by rw [hp];push_cast;rfl
 rw [e] at hk |-;rw [fR a (2^k) (by omega) (by omega),uS,bj];rw [show ((a:Int)/((2^k:Nat):Int)%2)=((a/2^k%2:Nat):Int) by omega];generalize a/2^k%2=t;rw [Bool.eq_iff_iff];simp only [beq_iff_eq];omega
theorem zQ (x:Int) (h0:0<=x) (h1:x<=18446744073709551615):ji x 14=(bj x 2 || bj x 4 || bj x 8):=by
 rw [<-dz 1 x 2 rfl (by omega) h0 h1,<-dz 2 x 4 rfl (by omega) h0 h1,<-dz 3 x 8 rfl (by omega) h0 h1];obtain ⟨a,rfl⟩:=Int.eq_ofNat_of_zero_le h0;rw [show (14:Int)=((14:Nat):Int) from rfl,show (2:Int)=((2:Nat):Int) from rfl,show (4:Int)=((4:Nat):Int) from rfl,show (8:Int)=((8:Nat):Int) from rfl];rw [fR a 14 (by omega) (by omega),fR a 2 (by omega) (by omega),fR a 4 (by omega) (by omega),fR a 8 (by omega) (by omega)];rw [<-jh,<-jh];rfl
theorem zR (x:Int) (h0:0<=x) (h1:x<=18446744073709551615):ji x 208=(bj x 16 || bj x 64 || bj x 128):=by
 rw [<-dz 4 x 16 rfl (by omega) h0 h1,<-dz 6 x 64 rfl (by omega) h0 h1,<-dz 7 x 128 rfl (by omega) h0 h1];obtain ⟨a,rfl⟩:=Int.eq_ofNat_of_zero_le h0;rw [show (208:Int)=((208:Nat):Int) from rfl,show (16:Int)=((16:Nat):Int) from rfl,show (64:Int)=((64:Nat):Int) from rfl,show (128:Int)=((128:Nat):Int) from rfl];rw [fR a 208 (by omega) (by omega),fR a 16 (by omega) (by omega),fR a 64 (by omega) (by omega),fR a 128 (by omega) (by omega)];rw [<-jh,<-jh];rfl
theorem yC (k:Nat) (x m P:Int) (hP:P=2^k) (hm:m=P-1) (hk:m<18446744073709551616) (h0:0<=x) (h1:x<=18446744073709551615):bits .andNot .u64 x m=x/P*P:=by
 obtain ⟨a,rfl⟩:=Int.eq_ofNat_of_zero_le h0;have hp:1<=(2^k:Nat):=Nat.one_le_two_pow;have eP:P=((2^k:Nat):Int):=by rw [hP];push_cast;rfl
 have e:m=((2^k-1:Nat):Int):=by rw [hm,eP];omega
 rw [e] at hk |-;rw [eP,u64_andNot_nat a (2^k-1) (by omega) (by omega)];rw [show ((a:Int)/((2^k:Nat):Int)*((2^k:Nat):Int))=((a/2^k*2^k:Nat):Int) by push_cast;rfl];congr 1;apply Nat.eq_of_testBit_eq;intro i;have hk64:k<=64:=by
  rcases Nat.lt_or_ge 64 k with h | h
  ·have:2^65<=2^k:=Nat.pow_le_pow_right (by omega) h;omega
  ·exact h
 rw [Nat.testBit_and,Nat.testBit_mul_two_pow,Nat.testBit_div_two_pow];by_cases hi:k<=i
 ·by_cases hi':i<64
  ·have:(18446744073709551615-(2^k-1)).testBit i=true:=by
    rw [show 18446744073709551615-(2^k-1)=2^64-(2^k-1+1) by omega,Nat.testBit_two_pow_sub_succ (by omega),Nat.testBit_two_pow_sub_one];simp;omega
   rw [this];simp [hi,show i-k+k=i by omega]
  ·have:a.testBit i=false:=Nat.testBit_lt_two_pow (Nat.lt_of_lt_of_le (by omega:a<2^64) (Nat.pow_le_pow_right (by omega) (by omega)));simp [this,show i-k+k=i by omega]
 ·have:(18446744073709551615-(2^k-1)).testBit i=false:=by
   rw [show 18446744073709551615-(2^k-1)=2^64-(2^k-1+1) by omega,Nat.testBit_two_pow_sub_succ (by omega),Nat.testBit_two_pow_sub_one];simp;omega
  simp [this,hi]
theorem lX (k:Nat) (x y m P:Int) (hP:P=2^k) (hm:m=P-1) (hk:m<18446744073709551616) (h0:0<=x) (h1:x<=18446744073709551615) (g0:0<=y) (g1:y<=18446744073709551615):
 bits .or .u64 (bits .andNot .u64 x m) (bits .and .u64 y m)=x/P*P+y%P:=by
 have hp:1<=P:=by rw [hP];exact Int.pow_pos (by omega:(0:Int)<2)
 rw [yC k x m P hP hm hk h0 h1,ec k y m (by rw [hm,hP]) hk g0 g1,<-hP];have a1:0<=y%P:=Int.emod_nonneg _ (by omega);have a2:y%P<P:=Int.emod_lt_of_pos _ (by omega);have a3:0<=x/P:=Int.ediv_nonneg h0 (by omega);have a4:x/P*P<=x:=Int.ediv_mul_le _ (by omega);have a5:0<=x/P*P:=Int.mul_nonneg a3 (by omega);have hc:bits .or .u64 (x/P*P) (y%P)=bits .or .u64 (y%P) (x/P*P):=by
  rw [u64_or _ _ a5 (by omega) a1 (by omega),u64_or _ _ a1 (by omega) a5 (by omega),Nat.or_comm]
 rw [hc,ki k P (y%P) (x/P) hP a1 a2 a3 (by omega) (by omega)];omega
theorem dc (n m:Int) (w:World) (h:(n=0∧m=0)∨(n=3∧m=7)∨(n=6∧m=63)∨(n=9∧m=511)∨(n=12∧m=4095)∨(n=44∧m=17592186044415)∨(n=50∧m=1125899906842623)∨(n=15∧m=32767)∨(n=16∧m=65535)):
 Calls Tryz.prog 104 #[.int .i64 n] w fun e w'=>e=.returned (.int .u64 m)∧w'=w:=by
 rcases h with ⟨rfl,rfl⟩ | ⟨rfl,rfl⟩ | ⟨rfl,rfl⟩ | ⟨rfl,rfl⟩ | ⟨rfl,rfl⟩ | ⟨rfl,rfl⟩ | ⟨rfl,rfl⟩ | ⟨rfl,rfl⟩ | ⟨rfl,rfl⟩;all_goals
  go_enter Tryz.func104,Tryz.ntmps104;go_wp2_with fail;go_ret;exact ⟨rfl,rfl⟩
theorem dp (x m:Int) (w:World):
 Calls Tryz.prog 166 #[.int .u64 x,.int .u64 m] w fun e w'=>e=.returned (.bool (ji x m))∧w'=w:=by
 go_enter Tryz.func166,Tryz.ntmps166;go_wp2_with fail;go_ret;exact ⟨rfl,rfl⟩
theorem gV (x:Int) (w:World) (h0:0<=x) (h1:x<=18446744073709551615):
 Calls Tryz.prog 137 #[.int .u64 x] w fun e w'=>e=.returned (.bool (cP x))∧w'=w:=by
 have hm:x/16384%1125899906842624=x/16384:=Int.emod_eq_of_lt (Int.ediv_nonneg h0 (by omega)) (by omega);rw [cP,hm];clear hm;by_cases ht:x/16384=0
 ·have ht':(x/16384 == 0)=true:=by simp [ht]
  clear ht;go_enter Tryz.func137,Tryz.ntmps137;go_wp2_with fail;go_ret;exact ⟨by simp [ht'],rfl⟩
 ·have ht':(x/16384 == 0)=false:=by simpa using ht
  clear ht;go_enter Tryz.func137,Tryz.ntmps137;go_wp2_with (go_at_call 104;refine (dc 50 1125899906842623 _ (by omega)).mono ?_;rintro e w' ⟨rfl,rfl⟩);go_ret;exact ⟨by simp [ht'],rfl⟩
theorem tj (x:Int) (w:World) (h0:0<=x) (h1:x<=18446744073709551615):
 Calls Tryz.prog 219 #[.int .u64 x] w fun e w'=>e=.returned (.int .u64 (dg x))∧w'=w:=by
 have H:=hid (ec 44 (x/1024) 17592186044415 rfl (by omega) (by omega) (by omega));go_enter Tryz.func219,Tryz.ntmps219;go_wp2_with (go_at_call 104;refine (dc 44 17592186044415 _ (by omega)).mono ?_;rintro e w' ⟨rfl,rfl⟩);go_ret;exact ⟨dw H.out,rfl⟩
theorem tk (x:Int) (w:World) (h0:0<=x) (h1:x<=18446744073709551615):
 Calls Tryz.prog 225 #[.int .u64 x] w fun e w'=>e=.returned (.int .u64 (x/18014398509481984%1024))∧w'=w:=by
 have H:Hid (x/18014398509481984=x/18014398509481984%1024):=show _=_ by omega
 go_enter Tryz.func225,Tryz.ntmps225;go_wp2_with fail;go_ret;exact ⟨dw H.out,rfl⟩
def qj (x:Int):Bool:=bj x 1 && (x/18014398509481984%1024 == 0) && !(bj x 4 && !bj x 2)
theorem iR (x:Int) (w:World) (h0:0<=x) (h1:x<=18446744073709551615):
 Calls Tryz.prog 223 #[.int .u64 x] w fun e w'=>e=.returned (.bool (qj x))∧w'=w:=by
 have HV:=hid (dz 0 x 1 rfl (by omega) h0 h1);have HR:=hid (dz 1 x 2 rfl (by omega) h0 h1);have HW:=hid (dz 2 x 4 rfl (by omega) h0 h1);cases hw:bj x 4 <;> cases hr:bj x 2 <;> cases hv:bj x 1;all_goals
  go_enter Tryz.func223,Tryz.ntmps223;go_wp2_with (first
   | (go_at_call 166;refine (dp x _ _).mono ?_;rintro e w' ⟨rfl,rfl⟩;first | rw [HW.out,hw] | rw [HR.out,hr] | rw [HV.out,hv])
   | (go_at_call 225;refine (tk x _ h0 h1).mono ?_;rintro e w' ⟨rfl,rfl⟩))
  all_goals
   go_ret;exact ⟨aB (by simp [qj,hw,hr,hv];try assumption),rfl⟩
theorem qk (x level:Int) (w:World) (h0:0<=x) (h1:x<=18446744073709551615) (hl:level=0∨level=1∨level=2):
 Calls Tryz.prog 224 #[.int .u64 x,.int .i64 level] w fun e w'=>e=.returned (.bool (dg x%gE level == 0))∧w'=w:=by
 have hpp:0<=dg x∧dg x<17592186044416:=⟨Int.emod_nonneg _ (by omega),Int.emod_lt_of_pos _ (by omega)⟩;have HP:∀w,Hid (Calls Tryz.prog 219 #[.int .u64 x] w fun e w'=>e=.returned (.int .u64 (dg x))∧w'=w):=fun w=>tj x w h0 h1;generalize dg x=p at *;rcases hl with rfl | rfl | rfl
 ·have H:Hid ((bits .and .u64 p 0 == 0)=(p%gE 0 == 0)):=by
   show _=_;rw [ec 0 p 0 rfl (by omega) hpp.1 (by omega)];rfl
  go_enter Tryz.func224,Tryz.ntmps224;go_wp2_with (first
   | (go_at_call 219;refine ((HP _).out).mono ?_;rintro e w' ⟨rfl,rfl⟩)
   | (go_at_call 104;refine (dc 0 0 _ (by omega)).mono ?_;rintro e w' ⟨rfl,rfl⟩))
  go_ret;exact ⟨aB H.out,rfl⟩
 ·have H:Hid ((bits .and .u64 p 7 == 0)=(p%gE 1 == 0)):=by
   show _=_;rw [ec 3 p 7 rfl (by omega) hpp.1 (by omega)];rfl
  go_enter Tryz.func224,Tryz.ntmps224;go_wp2_with (first
   | (go_at_call 219;refine ((HP _).out).mono ?_;rintro e w' ⟨rfl,rfl⟩)
   | (go_at_call 104;refine (dc 3 7 _ (by omega)).mono ?_;rintro e w' ⟨rfl,rfl⟩))
  go_ret;exact ⟨aB H.out,rfl⟩
 ·have H:Hid ((bits .and .u64 p 63 == 0)=(p%gE 2 == 0)):=by
   show _=_;rw [ec 6 p 63 rfl (by omega) hpp.1 (by omega)];rfl
  go_enter Tryz.func224,Tryz.ntmps224;go_wp2_with (first
   | (go_at_call 219;refine ((HP _).out).mono ?_;rintro e w' ⟨rfl,rfl⟩)
   | (go_at_call 104;refine (dc 6 63 _ (by omega)).mono ?_;rintro e w' ⟨rfl,rfl⟩))
  go_ret;exact ⟨aB H.out,rfl⟩
theorem dl (l:Int) (w:World):
 Calls Tryz.prog 164 #[.int .i64 l] w fun e w'=>e=.returned (.bool (decide (0<=l∧l<=2)))∧w'=w:=by
 by_cases h:0<=l
 ·go_enter Tryz.func164,Tryz.ntmps164;go_wp2_with fail;go_ret;exact ⟨aB (by simp [h]),rfl⟩
 ·go_enter Tryz.func164,Tryz.ntmps164;go_wp2_with fail;go_ret;exact ⟨aB (by simp;omega),rfl⟩
theorem mB (x level:Int) (w:World) (h0:0<=x) (h1:x<=18446744073709551615):
 Calls Tryz.prog 221 #[.int .u64 x,.int .i64 level] w fun e w'=>e=.returned (.int .i64 (bu x level))∧w'=w:=by
 by_cases hlev:0<=level∧level<=2
 ·have hk:decide (0<=level∧level<=2)=true:=by simpa using hlev
  have HK:=hid hk;have hl:level=0∨level=1∨level=2:=by omega
  clear hk hlev;have HR:=hid (zQ x h0 h1);have HU:=hid (zR x h0 h1);cases hs:qj x
  ·have HE:Hid (bu x level=0):=by
    show _=_;simp only [bu];rw [if_pos];simp only [qj] at hs;cases hv:bj x 1
    ·simp
    ·rw [hv] at hs;by_cases hb:0<x/18014398509481984%1024
     ·simp [hb]
     ·have hb':x/18014398509481984%1024=0:=by omega
      rw [hb'] at hs |-;simp at hs;simp [hs]
   go_enter Tryz.func221,Tryz.ntmps221;go_wp2_with (first
    | (go_at_call 164;refine (dl level _).mono ?_;rintro e w' ⟨rfl,rfl⟩;rw [HK.out])
    | (go_at_call 223;refine (iR x _ h0 h1).mono ?_;rintro e w' ⟨rfl,rfl⟩;rw [hs]))
   go_ret;exact ⟨cw HE.out.symm,rfl⟩
  ·have hn:¬(level<0∨2<level∨bj x 1=false∨0<x/18014398509481984%1024∨(bj x 4=true∧bj x 2=false)):=by
    simp only [qj,Bool.and_eq_true,beq_iff_eq,Bool.not_eq_true',Bool.and_eq_false_iff,Bool.not_eq_false'] at hs;obtain ⟨⟨a1,a2⟩,a3⟩:=hs;rw [a1,a2];rcases a3 with a3 | a3
    ·simp [a3];omega
    ·simp [a3];omega
   have HE:Hid (bu x level=if bj x 2=false∧bj x 4=false∧bj x 8=false then (if level=0∨bj x 16=true∨bj x 64=true∨bj x 128=true then 0 else 1) else if 0<dg x%gE level then 0 else 2):=by
    show _=_;rw [bu,if_neg hn]
   clear hn;cases hr:(bj x 2 || bj x 4 || bj x 8)
   ·simp only [Bool.or_eq_false_iff] at hr;have HE2:Hid (bu x level=if level=0∨bj x 16=true∨bj x 64=true∨bj x 128=true then 0 else 1):=by
     show _=_;rw [HE.out,if_pos ⟨hr.1.1,hr.1.2,hr.2⟩]
    clear HE;have HR':Hid (ji x 14=false):=by show _=_;rw [HR.out,hr.1.1,hr.1.2,hr.2];rfl
    clear HR hr;by_cases hz:level=0
    ·subst hz;go_enter Tryz.func221,Tryz.ntmps221;go_wp2_with (first
      | (go_at_call 164;refine (dl 0 _).mono ?_;rintro e w' ⟨rfl,rfl⟩;rw [HK.out])
      | (go_at_call 223;refine (iR x _ h0 h1).mono ?_;rintro e w' ⟨rfl,rfl⟩;rw [hs])
      | (go_at_call 166;refine (dp x _ _).mono ?_;rintro e w' ⟨rfl,rfl⟩;rw [HR'.out]))
     go_ret;exact ⟨cw (by rw [HE2.out];simp),rfl⟩
    ·have hz':(level == 0)=false:=by simpa using hz
     cases hu:(bj x 16 || bj x 64 || bj x 128)
     ·have HE3:Hid (bu x level=1):=by
       show _=_;simp only [Bool.or_eq_false_iff] at hu;rw [HE2.out,hu.1.1,hu.1.2,hu.2];simp [hz]
      go_enter Tryz.func221,Tryz.ntmps221;go_wp2_with (first
       | (go_at_call 164;refine (dl level _).mono ?_;rintro e w' ⟨rfl,rfl⟩;rw [HK.out])
       | (go_at_call 223;refine (iR x _ h0 h1).mono ?_;rintro e w' ⟨rfl,rfl⟩;rw [hs])
       | (go_at_call 166;refine (dp x _ _).mono ?_;rintro e w' ⟨rfl,rfl⟩;first | rw [HR'.out] | rw [HU.out,hu]))
      go_ret;exact ⟨cw HE3.out.symm,rfl⟩
     ·have HE3:Hid (bu x level=0):=by
       show _=_;simp only [Bool.or_eq_true] at hu;rw [HE2.out,if_pos];rcases hu with (hu | hu) | hu <;> simp [hu]
      go_enter Tryz.func221,Tryz.ntmps221;go_wp2_with (first
       | (go_at_call 164;refine (dl level _).mono ?_;rintro e w' ⟨rfl,rfl⟩;rw [HK.out])
       | (go_at_call 223;refine (iR x _ h0 h1).mono ?_;rintro e w' ⟨rfl,rfl⟩;rw [hs])
       | (go_at_call 166;refine (dp x _ _).mono ?_;rintro e w' ⟨rfl,rfl⟩;first | rw [HR'.out] | rw [HU.out,hu]))
      go_ret;exact ⟨cw HE3.out.symm,rfl⟩
   ·have HR':Hid (ji x 14=true):=by show _=_;rw [HR.out,hr]
    have HE2:Hid (bu x level=if 0<dg x%gE level then 0 else 2):=by
     show _=_;rw [HE.out,if_neg];rintro ⟨q1,q2,q3⟩;rw [q1,q2,q3] at hr;cases hr
    clear HE HR hr;have hnn:0<=dg x%gE level:=by
     apply Int.emod_nonneg;rcases hl with rfl | rfl | rfl <;> decide
    cases ha:(dg x%gE level == 0)
    ·have HE3:Hid (bu x level=0):=by
      show _=_;have:dg x%gE level≠0:=by simpa using ha
      rw [HE2.out,if_pos (by omega)]
     clear hnn;go_enter Tryz.func221,Tryz.ntmps221;go_wp2_with (first
      | (go_at_call 164;refine (dl level _).mono ?_;rintro e w' ⟨rfl,rfl⟩;rw [HK.out])
      | (go_at_call 223;refine (iR x _ h0 h1).mono ?_;rintro e w' ⟨rfl,rfl⟩;rw [hs])
      | (go_at_call 166;refine (dp x _ _).mono ?_;rintro e w' ⟨rfl,rfl⟩;rw [HR'.out])
      | (go_at_call 224;refine (qk x level _ h0 h1 hl).mono ?_;rintro e w' ⟨rfl,rfl⟩;rw [ha]))
     go_ret;exact ⟨cw HE3.out.symm,rfl⟩
    ·have HE3:Hid (bu x level=2):=by
      show _=_;have:dg x%gE level=0:=by simpa using ha
      rw [HE2.out,if_neg (by omega)]
     clear hnn;go_enter Tryz.func221,Tryz.ntmps221;go_wp2_with (first
      | (go_at_call 164;refine (dl level _).mono ?_;rintro e w' ⟨rfl,rfl⟩;rw [HK.out])
      | (go_at_call 223;refine (iR x _ h0 h1).mono ?_;rintro e w' ⟨rfl,rfl⟩;rw [hs])
      | (go_at_call 166;refine (dp x _ _).mono ?_;rintro e w' ⟨rfl,rfl⟩;rw [HR'.out])
      | (go_at_call 224;refine (qk x level _ h0 h1 hl).mono ?_;rintro e w' ⟨rfl,rfl⟩;rw [ha]))
     go_ret;exact ⟨cw HE3.out.symm,rfl⟩
 ·have HK:Hid (decide (0<=level∧level<=2)=false):=by show _=_;simpa using hlev
  have HE:Hid (bu x level=0):=by
   show _=_;rw [bu,if_pos (by omega)]
  clear hlev;go_enter Tryz.func221,Tryz.ntmps221;go_wp2_with (go_at_call 164;refine (dl level _).mono ?_;rintro e w' ⟨rfl,rfl⟩;rw [HK.out]);go_ret;exact ⟨cw HE.out.symm,rfl⟩
def eZ (x kind:Int) (mxr:Bool):Bool:=if kind=0 then bj x 8 else if kind=1 then bj x 2 || (mxr && bj x 8) else if kind=2 then bj x 4 else false
theorem iF (x kind:Int) (mxr:Bool) (w:World) (h0:0<=x) (h1:x<=18446744073709551615):
 Calls Tryz.prog 215 #[.int .u64 x,.int .i64 kind,.bool mxr] w fun e w'=>e=.returned (.bool (eZ x kind mxr))∧w'=w:=by
 have HR:=hid (dz 1 x 2 rfl (by omega) h0 h1);have HW:=hid (dz 2 x 4 rfl (by omega) h0 h1);have HX:=hid (dz 3 x 8 rfl (by omega) h0 h1);by_cases k0:kind=0
 ·subst k0;go_enter Tryz.func215,Tryz.ntmps215;go_wp2_with (go_at_call 166;refine (dp x _ _).mono ?_;rintro e w' ⟨rfl,rfl⟩;rw [HX.out]);go_ret;exact ⟨rfl,rfl⟩
 have k0':(kind == 0)=false:=by simpa using k0
 by_cases k1:kind=1
 ·subst k1;cases hr:bj x 2 <;> cases mxr;all_goals
   go_enter Tryz.func215,Tryz.ntmps215;go_wp2_with (go_at_call 166;refine (dp x _ _).mono ?_;rintro e w' ⟨rfl,rfl⟩;first | rw [HR.out,hr] | rw [HX.out]);go_ret;exact ⟨aB (by simp [eZ,hr]),rfl⟩
 have k1':(kind == 1)=false:=by simpa using k1
 by_cases k2:kind=2
 ·subst k2;go_enter Tryz.func215,Tryz.ntmps215;go_wp2_with (go_at_call 166;refine (dp x _ _).mono ?_;rintro e w' ⟨rfl,rfl⟩;rw [HW.out]);go_ret;exact ⟨rfl,rfl⟩
 have k2':(kind == 2)=false:=by simpa using k2
 have HE:Hid (eZ x kind mxr=false):=by show _=_;rw [eZ,if_neg k0,if_neg k1,if_neg k2]
 clear k0 k1 k2;go_enter Tryz.func215,Tryz.ntmps215;go_wp2_with fail;go_ret;exact ⟨aB HE.out.symm,rfl⟩
def fe (x kind mode:Int) (sum:Bool):Bool:=if mode=0 then bj x 16 else if mode=1 then !bj x 16 || (sum && kind != 0) else false
theorem lA (x kind mode:Int) (sum:Bool) (w:World) (h0:0<=x) (h1:x<=18446744073709551615):
 Calls Tryz.prog 216 #[.int .u64 x,.int .i64 kind,.int .i64 mode,.bool sum] w fun e w'=>e=.returned (.bool (fe x kind mode sum))∧w'=w:=by
 have HU:=hid (dz 4 x 16 rfl (by omega) h0 h1);by_cases k0:mode=0
 ·subst k0;go_enter Tryz.func216,Tryz.ntmps216;go_wp2_with (go_at_call 166;refine (dp x _ _).mono ?_;rintro e w' ⟨rfl,rfl⟩;rw [HU.out]);go_ret;exact ⟨rfl,rfl⟩
 have k0':(mode == 0)=false:=by simpa using k0
 by_cases k1:mode=1
 ·subst k1;cases hu:bj x 16 <;> cases sum;all_goals
   go_enter Tryz.func216,Tryz.ntmps216;go_wp2_with (go_at_call 166;refine (dp x _ _).mono ?_;rintro e w' ⟨rfl,rfl⟩;rw [HU.out,hu]);all_goals
    go_ret;exact ⟨aB (by simp_all [fe]),rfl⟩
 have k1':(mode == 1)=false:=by simpa using k1
 have HE:Hid (fe x kind mode sum=false):=by show _=_;rw [fe,if_neg k0,if_neg k1]
 clear k0 k1;go_enter Tryz.func216,Tryz.ntmps216;go_wp2_with fail;go_ret;exact ⟨aB HE.out.symm,rfl⟩
def kP (x kind:Int):Bool:=bj x 64 && (kind != 2 || bj x 128)
theorem yV (x kind:Int) (w:World) (h0:0<=x) (h1:x<=18446744073709551615):
 Calls Tryz.prog 217 #[.int .u64 x,.int .i64 kind] w fun e w'=>e=.returned (.bool (kP x kind))∧w'=w:=by
 have HA:=hid (dz 6 x 64 rfl (by omega) h0 h1);have HD:=hid (dz 7 x 128 rfl (by omega) h0 h1);cases ha:bj x 64
 ·go_enter Tryz.func217,Tryz.ntmps217;go_wp2_with (go_at_call 166;refine (dp x _ _).mono ?_;rintro e w' ⟨rfl,rfl⟩;rw [HA.out,ha]);go_ret;exact ⟨aB (by simp [kP,ha]),rfl⟩
 ·cases hk:(kind != 2)
  ·go_enter Tryz.func217,Tryz.ntmps217;go_wp2_with (go_at_call 166;refine (dp x _ _).mono ?_;rintro e w' ⟨rfl,rfl⟩;first | rw [HA.out,ha] | rw [HD.out]);go_ret;exact ⟨aB (by simp [kP,ha,hk]),rfl⟩
  ·go_enter Tryz.func217,Tryz.ntmps217;go_wp2_with (go_at_call 166;refine (dp x _ _).mono ?_;rintro e w' ⟨rfl,rfl⟩;first | rw [HA.out,ha] | rw [HD.out]);go_ret;exact ⟨aB (by simp [kP,ha,hk]),rfl⟩
theorem vM (x kind mode:Int) (sum mxr:Bool):cF x kind mode sum mxr=(eZ x kind mxr && fe x kind mode sum && kP x kind):=by
 simp only [cF,eZ,fe,kP];by_cases k0:kind=0
 ·subst k0;simp only [if_pos];cases bj x 8 <;> cases bj x 64 <;> simp <;> split <;> simp
 by_cases k1:kind=1
 ·subst k1;simp only [if_neg k0,if_pos];by_cases m0:mode=0
  ·subst m0;simp
  by_cases m1:mode=1
  ·subst m1;simp
  ·simp [m0,m1]
 by_cases k2:kind=2
 ·subst k2;by_cases m0:mode=0
  ·subst m0;simp;cases bj x 64 <;> cases bj x 128 <;> cases bj x 4 <;> simp
  by_cases m1:mode=1
  ·subst m1;simp;cases bj x 64 <;> cases bj x 128 <;> cases bj x 4 <;> cases bj x 16 <;> cases sum <;> simp
  ·simp [m0,m1]
 ·simp [k0,k1,k2]
theorem kl (x kind mode:Int) (sum mxr:Bool) (w:World) (h0:0<=x) (h1:x<=18446744073709551615):
 Calls Tryz.prog 206 #[.int .u64 x,.int .i64 kind,.int .i64 mode,.bool sum,.bool mxr] w fun e w'=>e=.returned (.bool (cF x kind mode sum mxr))∧w'=w:=by
 rw [vM];cases hk:eZ x kind mxr
 ·go_enter Tryz.func206,Tryz.ntmps206;go_wp2_with (first
   | (go_at_call 215;refine (iF x kind mxr _ h0 h1).mono ?_;rintro e w' ⟨rfl,rfl⟩;rw [hk]))
  go_ret;exact ⟨aB (by simp),rfl⟩
 cases hm:fe x kind mode sum
 ·go_enter Tryz.func206,Tryz.ntmps206;go_wp2_with (first
   | (go_at_call 215;refine (iF x kind mxr _ h0 h1).mono ?_;rintro e w' ⟨rfl,rfl⟩;rw [hk])
   | (go_at_call 216;refine (lA x kind mode sum _ h0 h1).mono ?_;rintro e w' ⟨rfl,rfl⟩;rw [hm]))
  go_ret;exact ⟨aB (by simp),rfl⟩
 ·go_enter Tryz.func206,Tryz.ntmps206;go_wp2_with (first
   | (go_at_call 215;refine (iF x kind mxr _ h0 h1).mono ?_;rintro e w' ⟨rfl,rfl⟩;rw [hk])
   | (go_at_call 216;refine (lA x kind mode sum _ h0 h1).mono ?_;rintro e w' ⟨rfl,rfl⟩;rw [hm])
   | (go_at_call 217;refine (yV x kind _ h0 h1).mono ?_;rintro e w' ⟨rfl,rfl⟩))
  go_ret;exact ⟨aB (by simp),rfl⟩
theorem jr (level m:Int) (w:World) (h:(level=0∧m=63)∨(level=1∧m=511)∨(level=2∧m=4095)):
 Calls Tryz.prog 218 #[.int .i64 level] w fun e w'=>e=.returned (.int .u64 m)∧w'=w:=by
 rcases h with ⟨rfl,rfl⟩ | ⟨rfl,rfl⟩ | ⟨rfl,rfl⟩
 ·go_enter Tryz.func218,Tryz.ntmps218;go_wp2_with (go_at_call 104;refine (dc 6 63 _ (by omega)).mono ?_;rintro e w' ⟨rfl,rfl⟩);go_ret;exact ⟨rfl,rfl⟩
 ·go_enter Tryz.func218,Tryz.ntmps218;go_wp2_with (go_at_call 104;refine (dc 9 511 _ (by omega)).mono ?_;rintro e w' ⟨rfl,rfl⟩);go_ret;exact ⟨rfl,rfl⟩
 ·go_enter Tryz.func218,Tryz.ntmps218;go_wp2_with (go_at_call 104;refine (dc 12 4095 _ (by omega)).mono ?_;rintro e w' ⟨rfl,rfl⟩);go_ret;exact ⟨rfl,rfl⟩
theorem Bd (x level va:Int) (w:World) (h0:0<=x) (h1:x<=18446744073709551615) (hl:level=0∨level=1∨level=2) (hv0:0<=va) (hv1:va<=18446744073709551615):
 Calls Tryz.prog 207 #[.int .u64 x,.int .i64 level,.int .u64 va] w fun e w'=>e=.returned (.int .u64 (eX x level va))∧w'=w:=by
 have hpp:0<=dg x∧dg x<17592186044416:=⟨Int.emod_nonneg _ (by omega),Int.emod_lt_of_pos _ (by omega)⟩;have HP:∀w,Hid (Calls Tryz.prog 219 #[.int .u64 x] w fun e w'=>e=.returned (.int .u64 (dg x))∧w'=w):=fun w=>tj x w h0 h1;have HE:Hid (eX x level va=dg x*64/fS level*fS level+va%fS level):=by
  show _=_;rw [eX,if_neg (by omega)]
 rw [HE.out];clear HE;generalize dg x=p at *;rcases hl with rfl | rfl | rfl
 ·have H:Hid (bits .or .u64 (bits .andNot .u64 (p*64) 63) (bits .and .u64 va 63)=p*64/fS 0*fS 0+va%fS 0):=
   lX 6 (p*64) va 63 64 rfl rfl (by omega) (by omega) (by omega) hv0 hv1
  go_enter Tryz.func207,Tryz.ntmps207;go_wp2_with (first
   | (go_at_call 219;refine ((HP _).out).mono ?_;rintro e w' ⟨rfl,rfl⟩)
   | (go_at_call 218;refine (jr 0 63 _ (by omega)).mono ?_;rintro e w' ⟨rfl,rfl⟩))
  go_ret;exact ⟨dw H.out,rfl⟩
 ·have H:Hid (bits .or .u64 (bits .andNot .u64 (p*64) 511) (bits .and .u64 va 511)=p*64/fS 1*fS 1+va%fS 1):=
   lX 9 (p*64) va 511 512 rfl rfl (by omega) (by omega) (by omega) hv0 hv1
  go_enter Tryz.func207,Tryz.ntmps207;go_wp2_with (first
   | (go_at_call 219;refine ((HP _).out).mono ?_;rintro e w' ⟨rfl,rfl⟩)
   | (go_at_call 218;refine (jr 1 511 _ (by omega)).mono ?_;rintro e w' ⟨rfl,rfl⟩))
  go_ret;exact ⟨dw H.out,rfl⟩
 ·have H:Hid (bits .or .u64 (bits .andNot .u64 (p*64) 4095) (bits .and .u64 va 4095)=p*64/fS 2*fS 2+va%fS 2):=
   lX 12 (p*64) va 4095 4096 rfl rfl (by omega) (by omega) (by omega) hv0 hv1
  go_enter Tryz.func207,Tryz.ntmps207;go_wp2_with (first
   | (go_at_call 219;refine ((HP _).out).mono ?_;rintro e w' ⟨rfl,rfl⟩)
   | (go_at_call 218;refine (jr 2 4095 _ (by omega)).mono ?_;rintro e w' ⟨rfl,rfl⟩))
  go_ret;exact ⟨dw H.out,rfl⟩
theorem Aj (va level:Int) (w:World) (hv0:0<=va) (hv1:va<=18446744073709551615) (hl:level=0∨level=1∨level=2):
 Calls Tryz.prog 222 #[.int .u64 va,.int .i64 level] w fun e w'=>e=.returned (.int .u64 (dk va level))∧∃n,w'=w.drewN n:=by
 rcases hl with rfl | rfl | rfl
 ·have H:=hid (ec 3 (va/64) 7 rfl (by omega) (by omega) (by omega));go_enter Tryz.func222,Tryz.ntmps222;go_wp2_with fail;go_quiet ((go_at_call 104;exact Calls.quiet_of_same (dc 3 7 _ (by omega))));go_wp2_with fail;go_ret;exact ⟨dw H.out,nq,rfl⟩
 ·have H:=hid (ec 3 (va/512) 7 rfl (by omega) (by omega) (by omega));go_enter Tryz.func222,Tryz.ntmps222;go_wp2_with fail;go_quiet ((go_at_call 104;exact Calls.quiet_of_same (dc 3 7 _ (by omega))));go_wp2_with fail;go_ret;exact ⟨dw H.out,nq,rfl⟩
 ·have H:=hid (ec 3 (va/4096) 7 rfl (by omega) (by omega) (by omega));go_enter Tryz.func222,Tryz.ntmps222;go_wp2_with fail;go_quiet ((go_at_call 104;exact Calls.quiet_of_same (dc 3 7 _ (by omega))));go_wp2_with fail;go_ret;exact ⟨dw H.out,nq,rfl⟩
theorem tF (n level va:Int) (w:World) (hv0:0<=va) (hv1:va<=18446744073709551615) (hl:level=0∨level=1∨level=2) (hn0:0<=n) (hn1:n<17592186044416):
 Calls Tryz.prog 220 #[.int .u64 n,.int .i64 level,.int .u64 va] w fun e w'=>e=.returned (.int .u64 (64*n+8*dk va level))∧∃q,w'=w.drewN q:=by
 obtain ⟨ix,hix⟩:∃ix,dk va level=ix:=⟨_,rfl⟩;have hib:=pw va level;have HI:=hid hix;have HE:Hid (n*64+ix*8=64*n+8*ix):=show _=_ by omega
 rw [hix] at hib |-;clear hix;go_enter Tryz.func220,Tryz.ntmps220;go_wp2_with fail;refine (Aj va level w hv0 hv1 hl).mono ?_;rintro e w' ⟨rfl,nq,rfl⟩;rw [HI.out];go_wp2_with fail;go_ret;exact ⟨dw HE.out,nq,rfl⟩
theorem vx (a:Option Addr) (len cap:Nat) (addr:Int) (w:World) (hl:len<=1048576) (h0:0<=addr) (h1:addr<=18446744073709551615) (hg:di len addr 8=false):
 Calls Tryz.prog 240 #[.slice a len cap,.int .u64 addr] w fun e w'=>e=.returned (.tuple #[.int .u64 0,.bool false])∧w'=w:=by
 have HG:=hid hg;clear hg;go_enter Tryz.func240,Tryz.ntmps240;go_wp2_with (go_at_call 241;refine (sc _ _ _ _ _ _ hl h0 h1 (by omega)).mono ?_;rintro e w' ⟨rfl,rfl⟩;rw [HG.out]);exact bodyPost_ret (v:=.tuple #[.int .u64 0,.bool false]) (by simp [results,Tryz.results240,go_sem]) rfl ⟨rfl,rfl⟩
theorem xd (a:Option Addr) (len cap:Nat) (zs:List Int) (addr:Int) (w:World) (h:Byt w a len zs) (hl:len<=1048576) (h0:0<=addr) (h1:addr<=18446744073709551615) (hg:di len addr 8=true):
 Calls Tryz.prog 240 #[.slice a len cap,.int .u64 addr] w fun e w'=>e=.returned (.tuple #[.int .u64 (rdV zs addr 8),.bool true])∧w'=w:=by
 have hz:=h.1;have hv:rdV zs addr 8=num ((zs.drop addr.toNat).take 8):=by simp [rdV,hz,hg]
 rw [hv];have hg':=hg;simp only [di,decide_eq_true_eq] at hg';obtain ⟨hn,hn1,hn2⟩:=hg';obtain ⟨k,rfl⟩:=Int.eq_ofNat_of_zero_le h0;obtain ⟨b,off,rfl⟩:∃b off,a=some ⟨b,off,none⟩:=by
  rcases h.2.2 with hy | ⟨b,off,rfl,hb,hcl⟩
  ·omega
  ·exact ⟨b,off,rfl⟩
 have HG:=hid hg;have HC:=Cel.of_byt h;clear hg hv h;rw [Int.toNat_natCast];go_enter Tryz.func240,Tryz.ntmps240;go_wp2_with (first
  | (go_at_call 241;refine (sc _ _ _ _ _ _ hl h0 h1 (by omega)).mono ?_;rintro e w' ⟨rfl,rfl⟩;rw [HG.out])
  | (go_at_call 242;refine (yj b off len cap k zs _ HC (by omega) hl).mono ?_;rintro e w' ⟨rfl,rfl⟩))
 exact bodyPost_ret (v:=.tuple #[.int .u64 (num ((zs.drop k).take 8)),.bool true]) (by simp [results,Tryz.results240,go_sem]) rfl ⟨rfl,rfl⟩
theorem BQ (w:World):(Instr.typeAssert (.iface 282 (.agg #[])) 272 282 true).run Tryz.prog w=.ok (.tuple #[.agg #[],.bool true]) w:=by kernel_rfl
theorem BR (w:World):(Instr.typeAssert (.iface 283 (.agg #[])) 272 282 true).run Tryz.prog w=.ok (.tuple #[.agg #[],.bool false]) w:=by kernel_rfl
theorem BS (w:World):(Instr.typeAssert (.iface 283 (.agg #[])) 272 283 true).run Tryz.prog w=.ok (.tuple #[.agg #[],.bool true]) w:=by kernel_rfl
theorem BT (w:World):(Instr.typeAssert .nilIface 272 282 true).run Tryz.prog w=.ok (.tuple #[.agg #[],.bool false]) w:=by kernel_rfl
theorem BU (w:World):(Instr.typeAssert .nilIface 272 283 true).run Tryz.prog w=.ok (.tuple #[.agg #[],.bool false]) w:=by kernel_rfl
def bW (code:Int):Value:=if code=1 then .nilIface else if code=2 then .iface 282 (.agg #[]) else .iface 283 (.agg #[])
theorem tr (kind:Int) (w:World):Calls Tryz.prog 177 #[.int .i64 kind] w fun e w'=>e=.returned (.int .i64 (dL kind))∧w'=w:=by
 by_cases k0:kind=0
 ·subst k0;go_enter Tryz.func177,Tryz.ntmps177;go_wp2_with fail;go_ret;exact ⟨rfl,rfl⟩
 have k0':(kind == 0)=false:=by simpa using k0
 by_cases k1:kind=1
 ·subst k1;go_enter Tryz.func177,Tryz.ntmps177;go_wp2_with fail;go_ret;exact ⟨rfl,rfl⟩
 have k1':(kind == 1)=false:=by simpa using k1
 have HE:Hid (dL kind=15):=by show _=_;rw [dL,if_neg k0,if_neg k1]
 clear k0 k1;go_enter Tryz.func177,Tryz.ntmps177;go_wp2_with fail;go_ret;exact ⟨cw HE.out.symm,rfl⟩
theorem jW (kind:Int) (w:World):Calls Tryz.prog 167 #[.int .i64 kind] w fun e w'=>e=.returned (.int .i64 (bE kind))∧w'=w:=by
 by_cases k0:kind=0
 ·subst k0;go_enter Tryz.func167,Tryz.ntmps167;go_wp2_with fail;go_ret;exact ⟨rfl,rfl⟩
 have k0':(kind == 0)=false:=by simpa using k0
 by_cases k1:kind=1
 ·subst k1;go_enter Tryz.func167,Tryz.ntmps167;go_wp2_with fail;go_ret;exact ⟨rfl,rfl⟩
 have k1':(kind == 1)=false:=by simpa using k1
 have HE:Hid (bE kind=7):=by show _=_;rw [bE,if_neg k0,if_neg k1]
 clear k0 k1;go_enter Tryz.func167,Tryz.ntmps167;go_wp2_with fail;go_ret;exact ⟨cw HE.out.symm,rfl⟩
theorem ql (c kind:Int) (w:World) (hc:c=1∨c=2∨c=3):
 Calls Tryz.prog 169 #[bW c,.int .i64 kind] w fun e w'=>e=.returned (.int .i64 (if c=1 then 0 else if c=2 then dL kind else bE kind))∧w'=w:=by
 have t1:=BQ;have t2:=BR;have t3:=BS;have t4:=BT;have t5:=BU;rcases hc with rfl | rfl | rfl;all_goals
  simp only [bW,if_pos,Int.reduceEq];go_enter Tryz.func169,Tryz.ntmps169;go_wp2_with (first
   | (go_at_call 177;refine (tr kind _).mono ?_;rintro e w' ⟨rfl,rfl⟩)
   | (go_at_call 167;refine (jW kind _).mono ?_;rintro e w' ⟨rfl,rfl⟩))
  go_ret;exact ⟨rfl,rfl⟩
end Go.Proofs.YtgnnmgfgfihljaaGreat

import Derived.Test.YtkenjknmfhoppaaGreatSk45
namespace Go.Proofs.YtkenjknmfhoppaaGreat
open Go.RowKit
set_option linter.unusedVariables false
set_option maxHeartbeats 6400000
set_option maxRecDepth 20000
section
attribute [local go_sem ↓] Go.wp_at_zero Go.wp_at_succ
set_option maxRecDepth 100000 in
theorem Gl:∀n:Nat,n<256->(bits .and .u8 (n:Int) 4 != 0)=((n:Int)/4%2 == 1):=by decide
set_option maxRecDepth 100000 in
theorem Gm:∀n:Nat,n<256->(bits .and .u8 (n:Int) 8 != 0)=((n:Int)/8%2 == 1):=by decide
theorem wV (v:Value) (n:Nat):(madeCells #[v] n).toList=List.replicate n v:=by
 apply List.ext_getElem?;intro j;by_cases hj:j<n
 ·simp [madeCells,hj,Nat.mod_one]
 ·rw [List.getElem?_eq_none (by simp [madeCells];omega),List.getElem?_eq_none (by simp;omega)]
theorem FM (n:Nat) (hn:n<=20000):∃cs:Array Value,cs.toList=dE (List.replicate n 0)∧∀u:World,(Instr.makeSlice 44 (.int .i64 (n:Int)) (.int .i64 (n:Int))).run Tryz.prog u=.ok (.slice (some ⟨u.heap.size,0,none⟩) n n) (u.alloc (.cells cs 2)):=by
 obtain ⟨i0,hi,hz0,hz1,hz2⟩:=info_parts Tryz.infoI;refine ⟨madeCells (Value.int .i64 0).cells (n*1),?_,fun u=>?_⟩
 ·rw [Nat.mul_one];exact (wV (.int .i64 0) n).trans (by simp [dE])
 ·have:=run_make (P:=Tryz.prog) u 44 2 i0 _ Tryz.underlying44 hi hz0 .i64 .i64 n n (by omega) (Int.le_refl _) (by rw [hz2];omega) (by omega);rw [hz1] at this;simpa using this
def pkl (zs:List Int) (p n t:Nat):List Int:=((List.range t).map fun j=>atM zs (p+j))++List.replicate (n-t) 0
theorem Cq (zs:List Int) (p n t:Nat) (h:t<n):(dE (pkl zs p n t))[t]?=some (.int .i64 0):=by
 unfold pkl dE;rw [List.map_append,List.getElem?_append_right (by simp)];obtain ⟨m,hm⟩:∃m,n-t=m+1:=⟨n-t-1,by omega⟩;rw [hm,List.replicate_succ];simp
theorem D9 (zs:List Int) (p n t:Nat) (h:t<n):(dE (pkl zs p n t)).set t (.int .i64 (atM zs (p+t)))=dE (pkl zs p n (t+1)):=by
 unfold pkl dE;rw [List.map_append,List.set_append_right _ _ (by simp),iF,List.map_append,List.map_append];obtain ⟨m,hm⟩:∃m,n-t=m+1:=⟨n-t-1,by omega⟩;rw [hm,show n-(t+1)=m by omega,List.replicate_succ];simp
theorem AR (b len cap p n:Nat) (a:Option Addr) (zs:List Int) (w:World) (h:RdAt w b a len cap zs p) (hn:n<=20000):
 Calls Tryz.prog 39 #[.pointer (some ⟨b,0,none⟩),.int .i64 n] w fun e w'=>(∃g,e=.returned (.slice (some ⟨g,0,none⟩) n n)∧OwnC 2 1 w' w.heap.size g n n (dE ((List.range n).map fun j=>atM zs (p+j))))∧RdAt w' b a len cap zs (p+n)∧w.grownBy w' (some b):=by
 have HR:Hid _:=h;have HBd:=hid h.byt.2.1;have hbl:=h.lt;clear h;obtain ⟨cs,hcs,hmk⟩:=FM n hn;have n0:=(Below.refl w.heap.size w).alloc nle (Obj.cells cs 2);have O0:Hid (OwnC 2 1 (w.alloc (Obj.cells cs 2)) w.heap.size w.heap.size n n (dE (pkl zs p n 0))):=by
  have:=OwnC.new 2 1 w cs.toList n (by rw [hcs];simp [dE]) (by unfold maxLen;omega);rw [Array.toArray_toList,hcs] at this;exact this
 have HR0:Hid _:=HR.out.keep n0;have G0:Hid _:=Aj (r:=some b) n0;clear n0 hcs;go_enter Tryz.func39,Tryz.ntmps39;go_wp2;go_loopw [11] (fun iv wr=>∃(t:Nat),t<=n∧iv=.int .i64 t∧RdAt wr b a len cap zs (p+t)∧OwnC 2 1 wr w.heap.size w.heap.size n n (dE (pkl zs p n t))∧w.grownBy wr (some b)) (fun iv _=>n-(intOf iv).toNat)
 case atStart=>exact ⟨0,Nat.zero_le _,rfl,HR0.out,O0.out,G0.out⟩
 case round=>
  clear O0 HR0 G0;obtain ⟨t,ht,rfl,hR,hO,hG⟩:=hrel;have HRt:Hid _:=hR;have HOt:Hid _:=hO;have HGt:Hid _:=hG;clear hR hO hG;by_cases htn:t<n
  ·obtain ⟨L,hL⟩:∃L,atM zs (p+t)=L:=⟨_,rfl⟩;have HL:Hid _:=hL;have hb:=HBd.out (p+t);rw [show zs[p+t]?.getD 0=L from hL] at hb;obtain ⟨hb1,hb2⟩:=hb;clear hL;go_wp2_with fail;refine (iU b len cap (p+t) a zs wr HRt.out).mono ?_;rintro e v1 ⟨rfl,hR1,hG1⟩;rw [HL.out];have O1:=OwnC.gb HOt.out hG1 (show w.heap.size≠b by omega);have c1:=aE O1 t (.int .i64 0) (Cq zs p n t htn);have f1:=aQ O1 t;have hsz:=(OwnC.facts O1).2.2.1;have O2:Hid (OwnC 2 1 (v1.setCell ⟨w.heap.size,t,none⟩ (.int .i64 L)) w.heap.size w.heap.size n n (dE (pkl zs p n (t+1)))):=by
    have:=aF O1 t (.int .i64 L);rw [<-HL.out,D9 zs p n t htn,HL.out] at this;exact this
   have g2:=aq (aw v1 (some w.heap.size)) t (.int .i64 L);have HR2:Hid _:=hR1.gb g2 (show b≠w.heap.size by omega) (HR.out.off nle);have HG2:Hid (w.grownBy (v1.setCell ⟨w.heap.size,t,none⟩ (.int .i64 L)) (some b)):=by
    have h0:=dY HGt.out hG1;exact ⟨g2.os.trans h0.os,g2.tape.trans h0.tape,g2.output.trans h0.output,Nat.le_trans h0.size g2.size,fun k hk hne=>(g2.block k (ltl hk h0.size) (by simp;omega)).trans (h0.block k hk hne)⟩
   clear O1 g2 hR1 hG1;go_wp2_with fail;refine ⟨⟨t+1,by omega,by go_num,HR2.out,O2.out,HG2.out⟩,?_⟩;simp [intOf];omega
  ·have ht':t=n:=by omega
   subst ht';go_wp2;go_ret;refine ⟨⟨_,rfl,?_⟩,HRt.out,HGt.out⟩;have:=HOt.out;unfold pkl at this;rw [Nat.sub_self,List.replicate_zero,List.append_nil] at this;exact this
theorem wW (b len cap p hb:Nat) (a:Option Addr) (zs:List Int) (q:PtrM) (h:HartM) (w:World) (hR:RdAt w b a len cap zs p) (hB:w.heap[hb]?=some (.cells (ak q h) 43 (0,0))) (hne:b≠hb) (hna:0<len->∀x,a=some x->x.block≠hb):
 Calls Tryz.prog 34 #[.pointer (some ⟨b,0,none⟩),.pointer (some ⟨hb,0,none⟩)] w fun e w'=>e=.returned (.tuple #[])∧w'.heap[hb]?=some (.cells (ak q ⟨h.mem,h.regs,h.pc,bU (atM zs p),atM zs p/4%2 == 1,atM zs p/8%2 == 1,h.satp,h.tvec,h.epc,bU (atM zs p),h.cause,h.tval,h.k⟩) 43 (0,0))∧RdAt w' b a len cap zs (p+1)∧Keeps w w' b hb hb:=by
 have HR:Hid _:=hR;have HB:Hid _:=hB;have hb':=hR.byt.2.1 p;have hbl:=hR.lt;have hhl:=(hpl hB);have HNa:Hid _:=hna;clear hR hB hna;obtain ⟨y,hy⟩:∃y,atM zs p=y:=⟨_,rfl⟩;rw [show zs[p]?.getD 0=y from hy] at hb';have HY:Hid _:=hy;rw [hy];clear hy;obtain ⟨hy1,hy2⟩:=hb';have HA4:Hid ((bits .and .u8 y 4 != 0)=(y/4%2 == 1)):=by
  obtain ⟨n,rfl⟩:=Int.eq_ofNat_of_zero_le hy1;exact Gl n (by omega)
 have HA8:Hid ((bits .and .u8 y 8 != 0)=(y/8%2 == 1)):=by
  obtain ⟨n,rfl⟩:=Int.eq_ofNat_of_zero_le hy1;exact Gm n (by omega)
 go_enter Tryz.func34,Tryz.ntmps34;go_wp2_with fail;refine (iU b len cap p a zs w HR.out).mono ?_;rintro e v1 ⟨rfl,hR1,hG1⟩;rw [HY.out];have HR1:Hid _:=hR1;have HG1:Hid _:=hG1;have HB1:Hid _:=aB HB.out hG1 (Ne.symm hne);have hs1:=hG1.size;clear hR1 hG1;have c3:=ab HB1.out 3 (show (ak q h)[3]?=some (.int .i64 h.mode) from rfl);have f3:=az HB1.out 3;have hh1:hb<v1.heap.size:=by omega
 go_upto_region 2 with fail;clear c3 f3;have B2:Hid ((v1.setCell ⟨hb,3,none⟩ (.int .i64 (y%4))).heap[hb]?=some (.cells (ak q (⟨h.mem,h.regs,h.pc,(y%4),h.sum,h.mxr,h.satp,h.tvec,h.epc,h.emode,h.cause,h.tval,h.k⟩:HartM)) 43 (0,0))):=co HB1.out 3 _;have g2:=aq (aw v1 (some hb)) 3 (.int .i64 (y%4));obtain ⟨md,hmd⟩:∃md,y%4=md:=⟨_,rfl⟩;have HM0:Hid _:=hmd;have hmb:0<=md∧md<=3:=by omega
 rw [hmd] at B2 g2 |-;generalize v1.setCell ⟨hb,3,none⟩ (.int .i64 md)=v2 at B2 g2 |-;clear hmd;have c3:=ab B2.out 3 (show (ak q (⟨h.mem,h.regs,h.pc,md,h.sum,h.mxr,h.satp,h.tvec,h.epc,h.emode,h.cause,h.tval,h.k⟩:HartM))[3]?=some (.int .i64 md) from rfl);have hh2:=(hpl B2.out);have f3:=az B2.out 3;go_wp2_with fail;refine (ji md v2).mono ?_;rintro e v' ⟨rfl,hv'⟩;rw [hv'];clear hv' v';by_cases hm3:md=3
 ·subst hm3;have HMd:Hid (bU y=1):=by show _=_;unfold bU;rw [HM0.out];rfl
  go_upto_region 4 with fail;have B3:Hid ((v2.setCell ⟨hb,3,none⟩ (.int .i64 1)).heap[hb]?=some (.cells (ak q (⟨h.mem,h.regs,h.pc,1,h.sum,h.mxr,h.satp,h.tvec,h.epc,h.emode,h.cause,h.tval,h.k⟩:HartM)) 43 (0,0))):=co B2.out 3 _;have g3:Hid _:=dY g2 (aq (aw v2 (some hb)) 3 (.int .i64 1));clear c3 f3 HM0;generalize v2.setCell ⟨hb,3,none⟩ (.int .i64 1)=v3 at B3 g3 |-;have c3:=ab B3.out 3 (show (ak q (⟨h.mem,h.regs,h.pc,1,h.sum,h.mxr,h.satp,h.tvec,h.epc,h.emode,h.cause,h.tval,h.k⟩:HartM))[3]?=some (.int .i64 1) from rfl);have c9:=ab B3.out 9 (show (ak q (⟨h.mem,h.regs,h.pc,1,h.sum,h.mxr,h.satp,h.tvec,h.epc,h.emode,h.cause,h.tval,h.k⟩:HartM))[9]?=some (.int .i64 h.emode) from rfl);have c4:=ab B3.out 4 (show (ak q (⟨h.mem,h.regs,h.pc,1,h.sum,h.mxr,h.satp,h.tvec,h.epc,h.emode,h.cause,h.tval,h.k⟩:HartM))[4]?=some (.bool h.sum) from rfl);have c5:=ab B3.out 5 (show (ak q (⟨h.mem,h.regs,h.pc,1,h.sum,h.mxr,h.satp,h.tvec,h.epc,h.emode,h.cause,h.tval,h.k⟩:HartM))[5]?=some (.bool h.mxr) from rfl);have f9:=az B3.out 9;have f4:=az B3.out 4;have f5:=az B3.out 5;have hh3:=(hpl B3.out);have hA4:=HA4.out;have hA8:=HA8.out;have B6:Hid ((((v3.setCell ⟨hb,9,none⟩ (.int .i64 1)).setCell ⟨hb,4,none⟩ (.bool (y/4%2 == 1))).setCell ⟨hb,5,none⟩ (.bool (y/8%2 == 1))).heap[hb]?=some (.cells (ak q (⟨h.mem,h.regs,h.pc,1,(y/4%2 == 1),(y/8%2 == 1),h.satp,h.tvec,h.epc,1,h.cause,h.tval,h.k⟩:HartM)) 43 (0,0))):=co (co (co B3.out 9 _) 4 _) 5 _;have g6:Hid (v3.grownBy (((v3.setCell ⟨hb,9,none⟩ (.int .i64 1)).setCell ⟨hb,4,none⟩ (.bool (y/4%2 == 1))).setCell ⟨hb,5,none⟩ (.bool (y/8%2 == 1))) (some hb)):=aq (aq (aq (aw v3 (some hb)) 9 _) 4 _) 5 _;go_wp2_with fail;have G6:=g6.out;have G3:=g3.out;go_end0;refine ⟨rfl,?_,(HR1.out.gb G3 hne HNa.out).gb G6 hne HNa.out,?_⟩
  ·rw [HMd.out];exact B6.out
  ·have hG:=HG1.out;have h1:=G3.size;exact ⟨G6.os.trans (G3.os.trans hG.os),G6.tape.trans (G3.tape.trans hG.tape),G6.output.trans (G3.output.trans hG.output),by have:=G6.size;omega,fun k hk n1 n2 _=>(G6.block k (by omega) (by simpa using n2)).trans ((G3.block k (by omega) (by simpa using n2)).trans (hG.block k hk (by simpa using n1)))⟩
 ·have HMd:Hid (bU y=md):=by show _=_;unfold bU;rw [HM0.out,if_neg hm3]
  have hdd:decide (0<=md∧md<=2)=true:=by simp;omega
  rw [hdd];go_upto_region 4 with fail;have B3:=B2;have g3:Hid _:=g2;clear c3 f3 HM0 hdd hm3;generalize v2=v3 at B3 g3 |-;have c3:=ab B3.out 3 (show (ak q (⟨h.mem,h.regs,h.pc,md,h.sum,h.mxr,h.satp,h.tvec,h.epc,h.emode,h.cause,h.tval,h.k⟩:HartM))[3]?=some (.int .i64 md) from rfl);have c9:=ab B3.out 9 (show (ak q (⟨h.mem,h.regs,h.pc,md,h.sum,h.mxr,h.satp,h.tvec,h.epc,h.emode,h.cause,h.tval,h.k⟩:HartM))[9]?=some (.int .i64 h.emode) from rfl);have c4:=ab B3.out 4 (show (ak q (⟨h.mem,h.regs,h.pc,md,h.sum,h.mxr,h.satp,h.tvec,h.epc,h.emode,h.cause,h.tval,h.k⟩:HartM))[4]?=some (.bool h.sum) from rfl);have c5:=ab B3.out 5 (show (ak q (⟨h.mem,h.regs,h.pc,md,h.sum,h.mxr,h.satp,h.tvec,h.epc,h.emode,h.cause,h.tval,h.k⟩:HartM))[5]?=some (.bool h.mxr) from rfl);have f9:=az B3.out 9;have f4:=az B3.out 4;have f5:=az B3.out 5;have hh3:=(hpl B3.out);have hA4:=HA4.out;have hA8:=HA8.out;have B6:Hid ((((v3.setCell ⟨hb,9,none⟩ (.int .i64 md)).setCell ⟨hb,4,none⟩ (.bool (y/4%2 == 1))).setCell ⟨hb,5,none⟩ (.bool (y/8%2 == 1))).heap[hb]?=some (.cells (ak q (⟨h.mem,h.regs,h.pc,md,(y/4%2 == 1),(y/8%2 == 1),h.satp,h.tvec,h.epc,md,h.cause,h.tval,h.k⟩:HartM)) 43 (0,0))):=co (co (co B3.out 9 _) 4 _) 5 _;have g6:Hid (v3.grownBy (((v3.setCell ⟨hb,9,none⟩ (.int .i64 md)).setCell ⟨hb,4,none⟩ (.bool (y/4%2 == 1))).setCell ⟨hb,5,none⟩ (.bool (y/8%2 == 1))) (some hb)):=aq (aq (aq (aw v3 (some hb)) 9 _) 4 _) 5 _;go_wp2_with fail;have G6:=g6.out;have G3:=g3.out;go_end0;refine ⟨rfl,?_,(HR1.out.gb G3 hne HNa.out).gb G6 hne HNa.out,?_⟩
  ·rw [HMd.out];exact B6.out
  ·have hG:=HG1.out;have h1:=G3.size;exact ⟨G6.os.trans (G3.os.trans hG.os),G6.tape.trans (G3.tape.trans hG.tape),G6.output.trans (G3.output.trans hG.output),by have:=G6.size;omega,fun k hk n1 n2 _=>(G6.block k (by omega) (by simpa using n2)).trans ((G3.block k (by omega) (by simpa using n2)).trans (hG.block k hk (by simpa using n1)))⟩
end
section
attribute [local go_sem ↓] Go.wp_at_zero Go.wp_at_succ
theorem tlbIn.ok {w:World} {t:TlbM} {a:Option Addr} {cap:Nat} (h:tlbIn w t a cap) (hl:t.es.length<=1048576):fP t:=⟨h.2.1,h.2.2.1,h.2.2.2.1,hl⟩
end
section
attribute [local go_sem ↓] Go.wp_at_zero Go.wp_at_succ
theorem HartO.box_ne {base pb:Nat} {w:World} {p:PtrM} {h:HartM} {cm cr c1 c2 c3:List Value} {T:TypeId} {cur:Array Value} {q:Nat × Nat} (k:HartO base w p h cm cr c1 c2 c3) (hp:w.heap[pb]?=some (.cells cur T q)) (t1:T≠5) (t2:T≠29) (t3:T≠127):¬Dl p h pb:=by
 rintro (h1 | h1 | h1 | h1 | h1)
 ·exact eg k.mem hp t1 h1
 ·exact eg k.regs hp t2 h1
 ·exact eg k.r1 hp t3 h1
 ·exact eg k.r2 hp t3 h1
 ·exact eg k.r3 hp t3 h1
theorem HartO.kept {base base' n:Nat} {w w':World} {p:PtrM} {h:HartM} {cm cr c1 c2 c3 cs:List Value} {s:Value} (k:HartO base w p h cm cr c1 c2 c3) (hs:w.ownsRow base' 2 1 s n cs) (hg:w.grownBy w' s.ownBlock):HartO base w' p h cm cr c1 c2 c3:=
 ⟨lW k.mem hg (kx k.mem hs (by decide)),lW k.regs hg (kx k.regs hs (by decide)),lW k.r1 hg (kx k.r1 hs (by decide)),lW k.r2 hg (kx k.r2 hs (by decide)),lW k.r3 hg (kx k.r3 hs (by decide)),k.d12,k.d13,k.d23⟩
def EU (p:PtrM) (h:HartM) (pa:Option Addr) (pc:Nat) (ps:List Int) (g:Nat):Prop:=Dl p h g∨(Value.slice pa ps.length pc).ownBlock=some g
end
section
attribute [local go_sem ↓] Go.wp_at_zero Go.wp_at_succ
theorem yV (base g len cap k:Nat) (zs:List Int) (val:Int) (w:World) (h:OwnC 5 1 w base g len cap (ex zs)) (hz:zs.length=len) (hk:k<len) (hl:len<=1048576) (hv0:0<=val) (hv1:val<=255):
 Calls Tryz.prog 83 #[SL g len cap,VU k,VU val] w fun e w'=>e=.returned (.tuple #[])∧OwnC 5 1 w' base g len cap (ex (zs.set k val))∧w.grownBy w' (some g):=by
 have g2:=aE h k (.int .u8 (zs[k]?.getD 0)) (by
  have:k<zs.length:=by omega
  simp [ex,this])
 have g3:=aQ h k;have O2:Hid (OwnC 5 1 (w.setCell (AD g k) (.int .u8 val)) base g len cap (ex (zs.set k val))):=by
  have:=aF h k (.int .u8 val);rw [show (ex zs).set k (.int .u8 val)=ex (zs.set k val) by simp [ex,List.map_set]] at this;exact this
 have G2:Hid _:=aq (aw w (some g)) k (.int .u8 val);have hg:=(OwnC.facts h).2.2.1;clear h;go_enter Tryz.func83,Tryz.ntmps83;go_wp2;go_end0;have e:IntKind.u8.wrap val=val:=by show val%256=val;omega
 exact ⟨rfl,O2.out,G2.out⟩
theorem rQ (zs:List Int) (p:Nat):mt zs p 2=atM zs p+256*atM zs (p+1):=by
 rw [qF,qF];simp [mt,num]
theorem DU (b len cap p base g n mc:Nat) (a:Option Addr) (zs mem:List Int) (w:World) (hR:RdAt w b a len cap zs p) (hM:OwnC 5 1 w base g n mc (ex mem)) (hml:mem.length=n) (hn:n<=4096) (hgb:g≠b) (hga:0<len->∀x,a=some x->x.block≠g):
 Calls Tryz.prog 38 #[PT b 0,SL g n mc] w fun e w'=>e=.returned (.tuple #[])∧RdAt w' b a len cap zs (p+3+(atM zs (p+2)).toNat)∧OwnC 5 1 w' base g n mc (ex (lM zs (atM zs (p+2)).toNat (p+3) (rh zs p) mem))∧Keeps w w' b g g:=by
 have HR:Hid _:=hR;have HM:Hid _:=hM;have HGa:Hid _:=hga;have HBd:Hid (∀i:Nat,0<=atM zs i∧atM zs i<=255):=hR.byt.2.1;clear hR hM hga;obtain ⟨A,hA⟩:∃A:Nat,rh zs p=A:=⟨_,rfl⟩;have hb0:=HBd.out p;have hb1:=HBd.out (p+1);have hb2:=HBd.out (p+2);have HA:Hid (mt zs p 2=(A:Int)):=by show _=_;rw [rQ,<-hA];unfold rh;omega
 have hA2:A<=65535:=by rw [<-hA];unfold rh;omega
 obtain ⟨m,hm⟩:∃m:Nat,atM zs (p+2)=m:=⟨(atM zs (p+2)).toNat,by omega⟩;have Hm:Hid _:=hm;rw [hm] at hb2;have hm2:m<=255:=by omega
 rw [hA,hm,Int.toNat_natCast];clear hA hm hb0 hb1 hb2;go_enter Tryz.func38,Tryz.ntmps38;go_wp2_with fail;refine (iH b len cap p 2 a zs w HR.out (by omega)).mono ?_;rintro e v1 ⟨rfl,hR1,hG1⟩;rw [HA.out];have HR1:Hid _:=hR1;have HG1:Hid _:=hG1;clear hR1 hG1;go_wp2_with fail;refine (iU b len cap (p+2) a zs v1 HR1.out).mono ?_;rintro e v2 ⟨rfl,hR2,hG2⟩;rw [Hm.out];have hG:=dY HG1.out hG2;have HR2:Hid _:=hR2;have HM2:Hid _:=OwnC.gb HM.out hG hgb;have K2:=hid (Keeps.of_gb b g g hG (.inl rfl));clear hR2 hG2 hG HG1 HR1;go_wp2;go_loopw [4,10] (fun av cv wr=>∃(k:Nat) (mk:List Int),k<=m∧cv=.int .u8 k∧av=VU ((A+k:Nat):Int)∧RdAt wr b a len cap zs (p+3+k)∧lM zs m (p+3) A mem=lM zs (m-k) (p+3+k) (A+k) mk∧mk.length=n∧OwnC 5 1 wr base g n mc (ex mk)∧Keeps w wr b g g) (fun _ cv _=>m-(intOf cv).toNat)
 case atStart=>exact ⟨0,mem,Nat.zero_le _,rfl,rfl,HR2.out,rfl,hml,HM2.out,K2.out⟩
 case round=>
  clear HR2 HM2 K2;obtain ⟨k,mk,hk,rfl,rfl,hRk,hLk,hmk,hOk,hKk⟩:=hrel;have HRk:Hid _:=hRk;have HLk:Hid _:=hLk;have HOk:Hid _:=hOk;have HKk:Hid _:=hKk;clear hRk hLk hOk hKk;by_cases hkm:k<m
  ·obtain ⟨z,hz⟩:∃z,atM zs (p+3+k)=z:=⟨_,rfl⟩;have HZ:Hid _:=hz;have bz:=HBd.out (p+3+k);rw [hz] at bz;obtain ⟨hz1,hz2⟩:=bz;clear hz;go_wp2_with fail;refine (iU b len cap (p+3+k) a zs wr HRk.out).mono ?_;rintro e v3 ⟨rfl,hR3,hG3⟩;rw [HZ.out];have HR3:Hid _:=hR3;have HO3:Hid _:=OwnC.gb HOk.out hG3 hgb;have K3:=hid (Keeps.trans HKk.out (Keeps.of_gb b g g hG3 (.inl rfl)));clear hR3 hG3;by_cases hin:A+k<n
   ·have HI:Hid (fR n ((A+k:Nat):Int) 1=true):=by show _=_;simp only [fR,decide_eq_true_eq];omega
    go_wp2_with fail;refine (rD (some (AD g 0)) n mc ((A+k:Nat):Int) 1 v3 (by omega) (by omega) (by omega) (by omega) (by omega)).mono ?_;rintro e v' ⟨rfl,hv'⟩;rw [hv',HI.out];clear hv' v';go_wp2_with fail;refine (yV base g n mc (A+k) mk z v3 HO3.out hmk hin (by omega) hz1 hz2).mono ?_;rintro e v4 ⟨rfl,hO4,hG4⟩;have HO4:Hid _:=hO4;have HR4:Hid _:=HR3.out.gb hG4 (Ne.symm hgb) HGa.out;have K4:=hid (Keeps.trans K3.out (Keeps.of_gb b g g hG4 (.inr (.inl rfl))));clear hO4 hG4;go_wp2_with fail;refine ⟨⟨k+1,mk.set (A+k) z,by omega,by go_num,by go_num,HR4.out,?_,by rw [List.length_set];exact hmk,HO4.out,K4.out⟩,?_⟩
    ·rw [HLk.out,show m-k=(m-(k+1))+1 by omega,lM,if_pos (by omega),HZ.out];rfl
    ·simp [intOf];omega
   ·have HI:Hid (fR n ((A+k:Nat):Int) 1=false):=by show _=_;simp only [fR,decide_eq_false_iff_not];omega
    go_wp2_with fail;refine (rD (some (AD g 0)) n mc ((A+k:Nat):Int) 1 v3 (by omega) (by omega) (by omega) (by omega) (by omega)).mono ?_;rintro e v' ⟨rfl,hv'⟩;rw [hv',HI.out];clear hv' v';go_wp2_with fail;refine ⟨⟨k+1,mk,by omega,by go_num,by go_num,HR3.out,?_,hmk,HO3.out,K3.out⟩,?_⟩
    ·rw [HLk.out,show m-k=(m-(k+1))+1 by omega,lM,if_neg (by omega)];rfl
    ·simp [intOf];omega
  ·have hkm':k=m:=by omega
   subst hkm';go_wp2;go_end0;have e:=HLk.out;rw [Nat.sub_self,lM] at e;rw [e];exact ⟨rfl,HRk.out,HOk.out,HKk.out⟩
end
end Go.Proofs.YtkenjknmfhoppaaGreat

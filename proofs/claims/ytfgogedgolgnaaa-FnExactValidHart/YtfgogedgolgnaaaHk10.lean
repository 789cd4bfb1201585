import Derived.Test.YtfgogedgolgnaaaHk09
namespace Go.Proofs.Ytfgogedgolgnaaa
open Go.RowKit
set_option linter.unusedVariables false
set_option maxHeartbeats 6400000
set_option maxRecDepth 20000
theorem cJ (v:Value) (t:TlbM) (w:World) (h:TlbAt w v t):
 Calls Try.prog 33 #[v] w fun e w'=>(∃s y l n c,e=.returned (.tuple #[.agg #[.int .i64 s,.int .i64 y,.slice l n c],.bool (ap t false)])∧(ap t false=true->∃g,s=t.sets∧y=t.ways∧l=some ⟨g,0,none⟩∧n=t.es.length∧c=t.es.length∧w'.ownsRow w.heap.size 123 6 (.slice (some ⟨g,0,none⟩) t.es.length t.es.length) t.es.length (av t.es)))∧Below w.heap.size w w':=by
 refine (ez v t w h).mono ?_;rintro e w' ⟨hc,nb⟩;refine ⟨?_,nb⟩;cases hv:ap t false
 ·rw [hv] at hc;dsimp only [cond] at hc;exact ⟨_,_,_,_,_,hc,fun h=>by cases h⟩
 ·rw [hv] at hc;dsimp only [cond] at hc;obtain ⟨g,he,ho⟩:=hc;exact ⟨_,_,_,_,_,he,fun _=>⟨g,rfl,rfl,rfl,rfl,rfl,ho⟩⟩
theorem er (v:Value) (t:TlbM) (w:World) (h:TlbAt w v t):
 Calls Try.prog 32 #[v] w fun e w'=>(∃s y l n c,e=.returned (.tuple #[.agg #[.int .i64 s,.int .i64 y,.slice l n c],.bool (ap t true)])∧(ap t true=true->∃g,s=t.sets∧y=t.ways∧l=some ⟨g,0,none⟩∧n=t.es.length∧c=t.es.length∧w'.ownsRow w.heap.size 118 6 (.slice (some ⟨g,0,none⟩) t.es.length t.es.length) t.es.length (av t.es)))∧Below w.heap.size w w':=by
 refine (eE v t w h).mono ?_;rintro e w' ⟨hc,nb⟩;refine ⟨?_,nb⟩;cases hv:ap t true
 ·rw [hv] at hc;dsimp only [cond] at hc;exact ⟨_,_,_,_,_,hc,fun h=>by cases h⟩
 ·rw [hv] at hc;dsimp only [cond] at hc;obtain ⟨g,he,ho⟩:=hc;exact ⟨_,_,_,_,_,he,fun _=>⟨g,rfl,rfl,rfl,rfl,rfl,ho⟩⟩
def gE (base:Nat) (w:World) (e:Ending) (k:KM):Prop:=∃gi gd gp,e=.returned (.tuple #[.agg (hD k gi gd gp),.bool true])∧RowsAt w base gi gd gp k
theorem dt (v:Value) (k:KM) (w:World) (h:KAt w v k):
 Calls Try.prog 58 #[v] w fun e w'=>cond (aK k) (gE w.heap.size w' e k) (e=.returned (.tuple #[.agg #[.int .i64 0,.int .i64 0,.slice none 0 0,.int .i64 0,.int .i64 0,.slice none 0 0,.int .i64 0,.int .i64 0,.slice none 0 0],.bool false]))∧Below w.heap.size w w':=by
 obtain ⟨a1,c1,a2,c2,a3,c3,rfl,T1,T2,T3⟩:=h;obtain ⟨q1,hq1⟩:∃q,ap k.i false=q:=⟨_,rfl⟩;obtain ⟨q2,hq2⟩:∃q,ap k.d false=q:=⟨_,rfl⟩;obtain ⟨q3,hq3⟩:∃q,ap k.p true=q:=⟨_,rfl⟩;have HQ1:Hid (ap k.i false=q1):=hq1;have HQ2:Hid (ap k.d false=q2):=hq2;have HQ3:Hid (ap k.p true=q3):=hq3;have hgood:aK k=(q1 && q2 && q3):=by unfold aK;rw [hq1,hq2,hq3]
 rw [hgood];clear hgood hq1 hq2 hq3;have HT1:Hid (∀u,Below w.heap.size w u->TlbAt u (.agg #[.int .i64 k.i.sets,.int .i64 k.i.ways,.slice a1 k.i.es.length c1]) k.i):=fun u hu=>T1.keep hu;have HT2:Hid (∀u,Below w.heap.size w u->TlbAt u (.agg #[.int .i64 k.d.sets,.int .i64 k.d.ways,.slice a2 k.d.es.length c2]) k.d):=fun u hu=>T2.keep hu;have HT3:Hid (∀u,Below w.heap.size w u->TlbAt u (.agg #[.int .i64 k.p.sets,.int .i64 k.p.ways,.slice a3 k.p.es.length c3]) k.p):=fun u hu=>T3.keep hu;clear T1 T2 T3;have n1:=((Below.refl w.heap.size w).alloc (Nat.le_refl _) (Obj.cells #[.int .i64 k.i.sets,.int .i64 k.i.ways,.slice a1 k.i.es.length c1,.int .i64 k.d.sets,.int .i64 k.d.ways,.slice a2 k.d.es.length c2,.int .i64 k.p.sets,.int .i64 k.p.ways,.slice a3 k.p.es.length c3] 61)).alloc (by simp) (Obj.cells #[.int .i64 0,.int .i64 0,.slice none 0 0,.int .i64 0,.int .i64 0,.slice none 0 0,.int .i64 0,.int .i64 0,.slice none 0 0] 106);have H1:Hid (((w.alloc (Obj.cells #[.int .i64 k.i.sets,.int .i64 k.i.ways,.slice a1 k.i.es.length c1,.int .i64 k.d.sets,.int .i64 k.d.ways,.slice a2 k.d.es.length c2,.int .i64 k.p.sets,.int .i64 k.p.ways,.slice a3 k.p.es.length c3] 61)).alloc (Obj.cells #[.int .i64 0,.int .i64 0,.slice none 0 0,.int .i64 0,.int .i64 0,.slice none 0 0,.int .i64 0,.int .i64 0,.slice none 0 0] 106)).heap[w.heap.size]?=some (.cells #[.int .i64 k.i.sets,.int .i64 k.i.ways,.slice a1 k.i.es.length c1,.int .i64 k.d.sets,.int .i64 k.d.ways,.slice a2 k.d.es.length c2,.int .i64 k.p.sets,.int .i64 k.p.ways,.slice a3 k.p.es.length c3] 61 (0,0))):=by
  show _=_;rw [heap_alloc_old _ _ (by simp)];exact heap_alloc_new w _
 have H2:Hid (((w.alloc (Obj.cells #[.int .i64 k.i.sets,.int .i64 k.i.ways,.slice a1 k.i.es.length c1,.int .i64 k.d.sets,.int .i64 k.d.ways,.slice a2 k.d.es.length c2,.int .i64 k.p.sets,.int .i64 k.p.ways,.slice a3 k.p.es.length c3] 61)).alloc (Obj.cells #[.int .i64 0,.int .i64 0,.slice none 0 0,.int .i64 0,.int .i64 0,.slice none 0 0,.int .i64 0,.int .i64 0,.slice none 0 0] 106)).heap[w.heap.size+1]?=some (.cells #[.int .i64 0,.int .i64 0,.slice none 0 0,.int .i64 0,.int .i64 0,.slice none 0 0,.int .i64 0,.int .i64 0,.slice none 0 0] 106 (0,0))):=by
  have:=heap_alloc_new (w.alloc (Obj.cells #[.int .i64 k.i.sets,.int .i64 k.i.ways,.slice a1 k.i.es.length c1,.int .i64 k.d.sets,.int .i64 k.d.ways,.slice a2 k.d.es.length c2,.int .i64 k.p.sets,.int .i64 k.p.ways,.slice a3 k.p.es.length c3] 61)) (Obj.cells #[.int .i64 0,.int .i64 0,.slice none 0 0,.int .i64 0,.int .i64 0,.slice none 0 0,.int .i64 0,.int .i64 0,.slice none 0 0] 106);simp only [World.size_alloc] at this;exact this
 have l1:((w.alloc (Obj.cells #[.int .i64 k.i.sets,.int .i64 k.i.ways,.slice a1 k.i.es.length c1,.int .i64 k.d.sets,.int .i64 k.d.ways,.slice a2 k.d.es.length c2,.int .i64 k.p.sets,.int .i64 k.p.ways,.slice a3 k.p.es.length c3] 61)).alloc (Obj.cells #[.int .i64 0,.int .i64 0,.slice none 0 0,.int .i64 0,.int .i64 0,.slice none 0 0,.int .i64 0,.int .i64 0,.slice none 0 0] 106)).heap.size=w.heap.size+2:=by simp
 go_enter Try.func58,Try.ntmps58;go_wp2_with fail;generalize ((w.alloc (Obj.cells #[.int .i64 k.i.sets,.int .i64 k.i.ways,.slice a1 k.i.es.length c1,.int .i64 k.d.sets,.int .i64 k.d.ways,.slice a2 k.d.es.length c2,.int .i64 k.p.sets,.int .i64 k.p.ways,.slice a3 k.p.es.length c3] 61)).alloc (Obj.cells #[.int .i64 0,.int .i64 0,.slice none 0 0,.int .i64 0,.int .i64 0,.slice none 0 0,.int .i64 0,.int .i64 0,.slice none 0 0] 106))=u0 at n1 H1 H2 l1 |-;have A1:=n1;have I1:=H1;have J1:=H2;clear n1 H1 H2;refine (cJ _ k.i u0 (HT1.out u0 A1)).mono ?_;rw [HQ1.out];rintro e z1 ⟨⟨s1,y1,t1,x1,cc1,rfl,hv1⟩,nz1⟩;have HV1:Hid _:=hv1;have m1:=nz1.alloc nz1.size (Obj.cells #[.int .i64 s1,.int .i64 y1,.slice t1 x1 cc1] 78);have mz1:=(Below.refl z1.heap.size z1).alloc (Nat.le_refl _) (Obj.cells #[.int .i64 s1,.int .i64 y1,.slice t1 x1 cc1] 78);have B11:Hid ((z1.alloc (Obj.cells #[.int .i64 s1,.int .i64 y1,.slice t1 x1 cc1] 78)).heap[z1.heap.size]?=some (.cells #[.int .i64 s1,.int .i64 y1,.slice t1 x1 cc1] 78 (0,0))):=heap_alloc_new z1 _;have A2:=Below.step A1 m1 (Nat.le_refl _);have J2:=aa J1 m1;have I2:=aa I1 m1;have IZ1:=az (aa I1 nz1).out;have lz1:w.heap.size<z1.heap.size:=(Array.getElem?_eq_some_iff.1 (aa I1 nz1).out).1;have ls1:=nz1.size;have lt1:z1.heap.size<(z1.alloc (Obj.cells #[.int .i64 s1,.int .i64 y1,.slice t1 x1 cc1] 78)).heap.size:=by simp
 obtain ⟨b0,b1,b2,b3,b4,b5,b6,b7,b8⟩:=IZ1;clear hv1 nz1;go_wp2_with fail;generalize z1.alloc (Obj.cells #[.int .i64 s1,.int .i64 y1,.slice t1 x1 cc1] 78)=u1 at m1 mz1 B11 A2 J2 I2 lt1 |-;clear b0 b1 b2 b3 b4 b5 b6 b7 b8;refine (cJ _ k.d u1 (HT2.out u1 A2)).mono ?_;rw [HQ2.out];rintro e z2 ⟨⟨s2,y2,t2,x2,cc2,rfl,hv2⟩,nz2⟩;have HV2:Hid _:=hv2;have m2:=nz2.alloc nz2.size (Obj.cells #[.int .i64 s2,.int .i64 y2,.slice t2 x2 cc2] 78);have mz2:=(Below.refl z2.heap.size z2).alloc (Nat.le_refl _) (Obj.cells #[.int .i64 s2,.int .i64 y2,.slice t2 x2 cc2] 78);have B22:Hid ((z2.alloc (Obj.cells #[.int .i64 s2,.int .i64 y2,.slice t2 x2 cc2] 78)).heap[z2.heap.size]?=some (.cells #[.int .i64 s2,.int .i64 y2,.slice t2 x2 cc2] 78 (0,0))):=heap_alloc_new z2 _;have A3:=Below.step A2 m2 (Nat.le_refl _);have J3:=aa J2 m2;have I3:=aa I2 m2;have B21:=aa B11 m2;have IZ2:=az (aa I2 nz2).out;have lz2:w.heap.size<z2.heap.size:=(Array.getElem?_eq_some_iff.1 (aa I2 nz2).out).1;have ls2:=nz2.size;have lt2:z2.heap.size<(z2.alloc (Obj.cells #[.int .i64 s2,.int .i64 y2,.slice t2 x2 cc2] 78)).heap.size:=by simp
 obtain ⟨b0,b1,b2,b3,b4,b5,b6,b7,b8⟩:=IZ2;clear hv2 nz2;go_wp2_with fail;generalize z2.alloc (Obj.cells #[.int .i64 s2,.int .i64 y2,.slice t2 x2 cc2] 78)=u2 at m2 mz2 B22 A3 J3 I3 lt2 B21 |-;clear b0 b1 b2 b3 b4 b5 b6 b7 b8;refine (er _ k.p u2 (HT3.out u2 A3)).mono ?_;rw [HQ3.out];rintro e z3 ⟨⟨s3,y3,t3,x3,cc3,rfl,hv3⟩,nz3⟩;have HV3:Hid _:=hv3;have A4:=Below.step A3 nz3 (Nat.le_refl _);have J4:=aa J3 nz3;have B31:=aa B21 nz3;have B32:=aa B22 nz3;have q31:z1.heap.size<z3.heap.size:=(Array.getElem?_eq_some_iff.1 B31.out).1;have q32:z2.heap.size<z3.heap.size:=(Array.getElem?_eq_some_iff.1 B32.out).1;have q33:w.heap.size+1<z3.heap.size:=(Array.getElem?_eq_some_iff.1 J4.out).1;clear hv3;obtain ⟨p0,p1,p2⟩:=(ao B31.out).1;obtain ⟨p3,p4,p5⟩:=(ao B32.out).1;obtain ⟨d0,d1,d2,d3,d4,d5,d6,d7,d8⟩:=az J4.out;have ff:=bX J4.out;have f0:=ff 0;have f1:=ff 1;have f2:=ff 2;have f3:=ff 3;have f4:=ff 4;have f5:=ff 5;have f6:=ff 6;have f7:=ff 7;have f8:=ff 8;clear ff;have r31:z1.heap.size≠z3.heap.size:=by omega
 have r32:z2.heap.size≠z3.heap.size:=by omega
 have r33:w.heap.size+1≠z3.heap.size:=by omega
 by_cases hall:q1=true∧q2=true∧q3=true
 ·obtain ⟨rfl,rfl,rfl⟩:=hall;obtain ⟨gi,rfl,rfl,rfl,rfl,rfl,oi⟩:=HV1.out (by trivial);obtain ⟨gd,rfl,rfl,rfl,rfl,rfl,od⟩:=HV2.out (by trivial);obtain ⟨gp,rfl,rfl,rfl,rfl,rfl,op⟩:=HV3.out (by trivial);have lgi:=(bs oi).2;have lgd:=(bs od).2;have lgp:=(bs op).2;simp only at lgi lgd lgp;have oi':=aq (aq (aq oi mz1) m2) nz3;have od':=aq (aq od mz2) nz3;have s1':=m2.size;have s2':=nz3.size;have s3':=m1.size;go_wp2_with fail;refine bodyPost_ret (v:=.tuple #[.agg (hD k gi gd gp),.bool true]) (by simp [results,Try.results58,go_sem,hD,d0,d1,d2,d3,d4,d5,d6,d7,d8,q33]) rfl ⟨⟨gi,gd,gp,rfl,?_⟩,(iJ A4 (by omega) _ _ _ _ _ _ _ _ _).alloc (by simp;omega) _⟩;have g9:=gb9 z3 (w.heap.size+1);exact RowsAt.keep ⟨bH (cG oi' (g9 _ _ _ _ _ _ _ _ _) (by omega)) (by omega),bH (cG od' (g9 _ _ _ _ _ _ _ _ _) (by omega)) (by omega),bH (cG op (g9 _ _ _ _ _ _ _ _ _) (by omega)) (by omega),by omega,by omega,by omega⟩ ((Below.refl _ _).alloc (Nat.le_refl _) _)
 ·have hall':(q1 && q2 && q3)=false:=by
   cases q1 <;> cases q2 <;> cases q3 <;> simp at hall |-
  cases q1 <;> cases q2 <;> cases q3;all_goals first | (exfalso;simp at hall';done) | skip
  all_goals
   go_wp2_with fail;exact bodyPost_ret (v:=.tuple #[.agg #[.int .i64 0,.int .i64 0,.slice none 0 0,.int .i64 0,.int .i64 0,.slice none 0 0,.int .i64 0,.int .i64 0,.slice none 0 0],.bool false]) (by simp [results,Try.results58,go_sem,d0,d1,d2,d3,d4,d5,d6,d7,d8,q33]) rfl ⟨rfl,(iJ A4 (by omega) _ _ _ _ _ _ _ _ _).alloc (by simp;omega) _⟩
section
attribute [local go_sem ↓] Go.wp_at_zero Go.wp_at_succ
theorem HartO.kept {base base' n:Nat} {w w':World} {p:PtrM} {h:HartM} {cm cr c1 c2 c3 cs:List Value} {s:Value} (k:HartO base w p h cm cr c1 c2 c3) (hs:w.ownsRow base' 2 1 s n cs) (hg:w.grownBy w' s.ownBlock):HartO base w' p h cm cr c1 c2 c3:=
 ⟨ci k.mem hg (bZ k.mem hs (by decide)),ci k.regs hg (bZ k.regs hs (by decide)),ci k.r1 hg (bZ k.r1 hs (by decide)),ci k.r2 hg (bZ k.r2 hs (by decide)),ci k.r3 hg (bZ k.r3 hs (by decide)),k.d12,k.d13,k.d23⟩
def iV (p:PtrM) (h:HartM) (pa:Option Addr) (pc:Nat) (ps:List Int) (g:Nat):Prop:=iz p h g∨(Value.slice pa ps.length pc).ownBlock=some g
end
theorem HartIn.row {w:World} {p:PtrM} {h:HartM} (k:HartIn w p h):HartR w p h∧h.k.i.es.length<=1048576∧h.k.d.es.length<=1048576∧h.k.p.es.length<=1048576:=by
 obtain ⟨a1,c1,a2,c2,a3,c3,he,t1,t2,t3⟩:=k.ks;simp only [kA,Value.agg.injEq,Array.mk.injEq,List.cons.injEq,Value.slice.injEq,true_and,and_true] at he;obtain ⟨⟨rfl,rfl⟩,⟨rfl,rfl⟩,rfl,rfl⟩:=he;exact ⟨⟨k.mem,k.regs,t1.row.1,t2.row.1,t3.row.1⟩,t1.row.2,t2.row.2,t3.row.2⟩
theorem ep {P:Program} {ops:Array Oper} {Q:Exit->Act->World->Prop} {rest:List Oper} {a:Act} {d:Tmp} {T ty:TypeId} {x:Operand} {pos:String} {af:Array Edge} {g:Option (Nat × Bool)} {w:World} {b o:Nat} {V:Value} (hw:Region.wanted { dst:=some d,op:=.load T x,type:=ty,pos:=pos,after:=af,guard:=g } (yielded ops a.tmps)=true) (hx:a.eval x=.pointer (some ⟨b,o,none⟩)) (hl:(Instr.loadAt T (.pointer (some ⟨b,o,none⟩))).run P w=.ok V w)
 (h:wpList P ops Q rest (a.put (some d) V) w):wpList P ops Q ({ dst:=some d,op:=.load T x,type:=ty,pos:=pos,after:=af,guard:=g }::rest) a w:=
 wpList_step fun K hK=>by
  rw [if_pos hw];unfold Oper.wp execOp;simp only [hx,Sem.run_bind,hl,Result.andThen_ok,Sem.run_pure];exact hK _ _ h
structure ScrO (base:Nat) (v:World) (p:PtrM) (h:HartM) (pa:Option Addr) (pc:Nat) (ps:List Int):Prop where
 hart:HartO base v p h (iZ h.mem) (bv h.regs) (ak h.k.i.es) (ak h.k.d.es) (ak h.k.p.es)
 pick:v.ownsRow base 2 1 (.slice pa ps.length pc) ps.length (iP ps)
theorem ScrO.keep {base:Nat} {v v':World} {p:PtrM} {h:HartM} {pa:Option Addr} {pc:Nat} {ps:List Int} (k:ScrO base v p h pa pc ps) (hb:Below v.heap.size v v'):ScrO base v' p h pa pc ps:=
 ⟨k.hart.keep hb,aq k.pick hb⟩
theorem ScrO.low {base:Nat} {v:World} {p:PtrM} {h:HartM} {pa:Option Addr} {pc:Nat} {ps:List Int} (k:ScrO base v p h pa pc ps):∀g,iV p h pa pc ps g->base<=g:=by
 rintro g (h1 | h1)
 ·exact (k.hart.low g h1).1
 ·exact (k.pick.lt g h1).1
section
attribute [local go_sem ↓] Go.wp_at_zero Go.wp_at_succ
def bx (h:HartM):Prop:=((h.mem.length:Int)%64=0∧64<=(h.mem.length:Int)∧(h.mem.length:Int)<=4096)∧(h.regs.length:Int)=8∧h.regs[0]?.getD 0=0∧(0<=h.mode∧h.mode<=2)∧(0<=h.emode∧h.emode<=2)∧aY h.satp=true∧h.tvec%4=0∧(0<=h.cause∧h.cause<=63)
theorem bD (h:HartM):(bc h.mem.length && bo h)=true↔bx h:=by
 simp only [bc,bo,bx,Bool.and_eq_true,decide_eq_true_eq,beq_iff_eq];constructor
 ·rintro ⟨⟨a,b,c⟩,⟨⟨⟨⟨⟨⟨d,e⟩,f⟩,g⟩,i⟩,j⟩,k⟩⟩;exact ⟨⟨by omega,by omega,by omega⟩,by omega,e,f,g,i,j,k⟩
 ·rintro ⟨⟨a,b,c⟩,d,e,f,g,i,j,k⟩;exact ⟨⟨by omega,by omega,by omega⟩,⟨⟨⟨⟨⟨⟨by omega,e⟩,f⟩,g⟩,i⟩,j⟩,k⟩⟩
theorem ea {w:World} {a:Option Addr} {xs:List Int} (h:RowC w a xs.length 1 (bv xs)) (h8:xs.length=8):∃b off,a=some ⟨b,off,none⟩∧b<w.heap.size∧w.cell? ⟨b,off,none⟩=some (.int .u64 (xs[0]?.getD 0)):=by
 rcases h.2 with h0 | ⟨b,off,rfl,hlt,hc⟩
 ·omega
 ·refine ⟨b,off,rfl,hlt,?_⟩;have:=hc 0 (.int .u64 (xs[0]?.getD 0)) (by
   have:0<xs.length:=by omega
   simp [bv,List.getElem?_eq_getElem this])
  simpa using this
theorem dm (p:PtrM) (h:HartM) (w:World) (hi:HartIn w p h) (s0:0<=h.satp) (s1:h.satp<=18446744073709551615) (t0:0<=h.tvec) (h8:h.regs.length=8):
 Calls Try.prog 25 #[.agg (ae p h)] w fun e w'=>e=.returned (.bool (aT h))∧Below w.heap.size w w':=by
 have F:=cg w (ae p h) 63;have A0:Hid ((ae p h)[0]?=some (.slice p.am h.mem.length p.cm)):=by show _=_;rfl
 have A1:Hid ((ae p h)[1]?=some (.slice p.ar h.regs.length p.cr)):=by show _=_;rfl
 have A3:Hid ((ae p h)[3]?=some (.int .i64 h.mode)):=by show _=_;rfl
 have A6:Hid ((ae p h)[6]?=some (.int .u64 h.satp)):=by show _=_;rfl
 have A7:Hid ((ae p h)[7]?=some (.int .u64 h.tvec)):=by show _=_;rfl
 have A9:Hid ((ae p h)[9]?=some (.int .i64 h.emode)):=by show _=_;rfl
 have A10:Hid ((ae p h)[10]?=some (.int .i64 h.cause)):=by show _=_;rfl
 have KP:Hid (((ae p h).toList.drop 12).take 9=(kA p h.k).toList):=by show _=_;rfl
 obtain ⟨R,hR⟩:∃R,aT h=R:=⟨_,rfl⟩;have HF:Hid (R=true->bx h∧aK h.k=true):=fun hr=>by
  rw [<-hR,aT,Bool.and_eq_true] at hr;exact ⟨(bD h).1 hr.1,hr.2⟩
 have HT:Hid (bx h->aK h.k=true->R=true):=fun h1 h2=>by
  rw [<-hR,aT,Bool.and_eq_true];exact ⟨(bD h).2 h1,h2⟩
 unfold bx at HF HT;rw [hR];have S1:Hid (∀u,Calls Try.prog 53 #[.int .u64 h.satp] u fun e w'=>e=.returned (.bool (aY h.satp))∧Below u.heap.size u w'):=fun u=>cT h.satp u s0 s1;have S2:Hid (∀u,Below w.heap.size w u->Calls Try.prog 54 #[.agg (kA p h.k)] u fun e w'=>e=.returned (.bool (aK h.k))∧Below u.heap.size u w'):=fun u hu=>bY _ h.k u (hi.ks.keep hu);obtain ⟨rb,ro,hra,rlt,rc⟩:=ea hi.regs h8;have g8:(h.regs.length:Int)=8:=by omega
 rw [hra] at A1;clear hi hR h8;generalize ae p h=A at *;generalize h.mem.length=n at *;generalize h.regs.length=m at *;generalize h.regs[0]?.getD 0=r0 at *;go_enter Try.func25,Try.ntmps25;go_upto_region 1 with fail;generalize (w.alloc (Obj.cells A 63))=u0 at F |-;obtain ⟨f1,hz,nB⟩:=F;have H1:Hid _:=f1;clear f1;have m8:m=8:=by omega
 subst m8;have x0:u0.cell? ⟨rb,ro,none⟩=some (.int .u64 r0):=(nB.cell (by exact rlt)).trans rc;clear rc;have c0:=ab H1.out 0 A0.out;have c1:=ab H1.out 1 A1.out;have c3:=ab H1.out 3 A3.out;have c6:=ab H1.out 6 A6.out;have c7:=ab H1.out 7 A7.out;have c9:=ab H1.out 9 A9.out;have c10:=ab H1.out 10 A10.out;go_wp2_with fail
 any_goals (
  go_ret;refine ⟨?_,nB⟩;have hq:R=false:=(by
   cases R with
   | false=>rfl
   | true=>
    obtain ⟨⟨⟨q1,q2,q3⟩,q4,q5,⟨q6,q7⟩,⟨q8,q9⟩,q10,q11,⟨q12,q13⟩⟩,q14⟩:=HF.out rfl;first
    | (exfalso;omega)
    | (rw [hs] at q10;cases q10)
    | (rw [hs] at q14;cases q14))
  subst hq;exact rfl)
 refine (S1.out u0).mono ?_;rintro e u1 ⟨rfl,k1⟩;replace nB:=Below.step nB k1 (Nat.le_refl _);replace H1:=aa H1 k1;clear c0 c1 c3 c6 c7 c9 c10 x0 k1;have c7:=ab H1.out 7 A7.out;have c10:=ab H1.out 10 A10.out;have J1:Hid _:=bM (P:=Try.prog) (T:=61) H1.out Try.underlying61 rfl (o:=12) (kA p h.k).toList kI KP.out rfl;rw [show (kA p h.k).toList.toArray=kA p h.k from rfl] at J1;generalize kA p h.k=KA at *;rcases Bool.eq_false_or_eq_true (aY h.satp) with hs | hs
 rotate_left 1
 ·rw [hs];go_wp2_with fail
  any_goals (
   go_ret;refine ⟨?_,nB⟩;have hq:R=false:=(by
    cases R with
    | false=>rfl
    | true=>
     obtain ⟨⟨⟨q1,q2,q3⟩,q4,q5,⟨q6,q7⟩,⟨q8,q9⟩,q10,q11,⟨q12,q13⟩⟩,q14⟩:=HF.out rfl;first
     | (exfalso;omega)
     | (rw [hs] at q10;cases q10)
     | (rw [hs] at q14;cases q14))
   subst hq;exact rfl)
 have HS:Hid (aY h.satp=true):=hs;rw [hs];clear hs;go_wp2_with (first | ((with_reducible refine ep ?_ ?_ J1.out ?_);(exact rfl);(exact rfl)))
 any_goals (
  go_ret;refine ⟨?_,nB⟩;have hq:R=false:=(by
   cases R with
   | false=>rfl
   | true=>
    obtain ⟨⟨⟨q1,q2,q3⟩,q4,q5,⟨q6,q7⟩,⟨q8,q9⟩,q10,q11,⟨q12,q13⟩⟩,q14⟩:=HF.out rfl;first
    | (exfalso;omega)
    | (rw [hs] at q10;cases q10)
    | (rw [hs] at q14;cases q14))
  subst hq;exact rfl)
 refine (S2.out u1 nB).mono ?_;rintro e u2 ⟨rfl,k2⟩;replace nB:=Below.step nB k2 (Nat.le_refl _);clear c7 c10 k2 H1 J1;have HG:Hid (aK h.k=R):=by
  show _=_;rcases Bool.eq_false_or_eq_true (aK h.k) with hg | hg
  ·rw [hg];exact (HT.out ⟨⟨by assumption,by assumption,by assumption⟩,by omega,by omega,⟨by omega,by omega⟩,⟨by omega,by omega⟩,HS.out,by omega,⟨by omega,by omega⟩⟩ hg).symm
  ·rw [hg];cases R with
   | false=>rfl
   | true=>have:=(HF.out rfl).2;rw [hg] at this;cases this
 rw [HG.out];go_wp2_with fail;go_ret;exact ⟨rfl,nB⟩
theorem dn (p:PtrM) (h:HartM) (w:World) (hi:HartIn w p h) (s0:0<=h.satp) (s1:h.satp<=18446744073709551615) (t0:0<=h.tvec) (h8:¬h.regs.length=8):
 Calls Try.prog 25 #[.agg (ae p h)] w fun e w'=>e=.returned (.bool (aT h))∧Below w.heap.size w w':=by
 have F:=cg w (ae p h) 63;have A0:Hid ((ae p h)[0]?=some (.slice p.am h.mem.length p.cm)):=by show _=_;rfl
 have A1:Hid ((ae p h)[1]?=some (.slice p.ar h.regs.length p.cr)):=by show _=_;rfl
 have A3:Hid ((ae p h)[3]?=some (.int .i64 h.mode)):=by show _=_;rfl
 have A6:Hid ((ae p h)[6]?=some (.int .u64 h.satp)):=by show _=_;rfl
 have A7:Hid ((ae p h)[7]?=some (.int .u64 h.tvec)):=by show _=_;rfl
 have A9:Hid ((ae p h)[9]?=some (.int .i64 h.emode)):=by show _=_;rfl
 have A10:Hid ((ae p h)[10]?=some (.int .i64 h.cause)):=by show _=_;rfl
 have KP:Hid (((ae p h).toList.drop 12).take 9=(kA p h.k).toList):=by show _=_;rfl
 obtain ⟨R,hR⟩:∃R,aT h=R:=⟨_,rfl⟩;have HF:Hid (R=true->bx h∧aK h.k=true):=fun hr=>by
  rw [<-hR,aT,Bool.and_eq_true] at hr;exact ⟨(bD h).1 hr.1,hr.2⟩
 have HT:Hid (bx h->aK h.k=true->R=true):=fun h1 h2=>by
  rw [<-hR,aT,Bool.and_eq_true];exact ⟨(bD h).2 h1,h2⟩
 unfold bx at HF HT;rw [hR];have S1:Hid (∀u,Calls Try.prog 53 #[.int .u64 h.satp] u fun e w'=>e=.returned (.bool (aY h.satp))∧Below u.heap.size u w'):=fun u=>cT h.satp u s0 s1;have S2:Hid (∀u,Below w.heap.size w u->Calls Try.prog 54 #[.agg (kA p h.k)] u fun e w'=>e=.returned (.bool (aK h.k))∧Below u.heap.size u w'):=fun u hu=>bY _ h.k u (hi.ks.keep hu);have g8:¬(h.regs.length:Int)=8:=by omega
 clear hi hR h8;generalize ae p h=A at *;generalize h.mem.length=n at *;generalize h.regs.length=m at *;generalize h.regs[0]?.getD 0=r0 at *;go_enter Try.func25,Try.ntmps25;go_upto_region 1 with fail;generalize (w.alloc (Obj.cells A 63))=u0 at F |-;obtain ⟨f1,hz,nB⟩:=F;have H1:Hid _:=f1;clear f1;have c0:=ab H1.out 0 A0.out;have c1:=ab H1.out 1 A1.out;have c3:=ab H1.out 3 A3.out;have c6:=ab H1.out 6 A6.out;have c7:=ab H1.out 7 A7.out;have c9:=ab H1.out 9 A9.out;have c10:=ab H1.out 10 A10.out;go_wp2_with fail
 any_goals (
  go_ret;refine ⟨?_,nB⟩;have hq:R=false:=(by
   cases R with
   | false=>rfl
   | true=>
    obtain ⟨⟨⟨q1,q2,q3⟩,q4,q5,⟨q6,q7⟩,⟨q8,q9⟩,q10,q11,⟨q12,q13⟩⟩,q14⟩:=HF.out rfl;first
    | (exfalso;omega)
    | (rw [hs] at q10;cases q10)
    | (rw [hs] at q14;cases q14))
  subst hq;exact rfl)
theorem cM (p:PtrM) (h:HartM) (w:World) (hi:HartIn w p h) (s0:0<=h.satp) (s1:h.satp<=18446744073709551615) (t0:0<=h.tvec):
 Calls Try.prog 25 #[.agg (ae p h)] w fun e w'=>e=.returned (.bool (aT h))∧Below w.heap.size w w':=by
 by_cases h8:h.regs.length=8
 ·exact dm p h w hi s0 s1 t0 h8
 ·exact dn p h w hi s0 s1 t0 h8
theorem cB (n:Nat) (w:World) (hl:n<=1048576):Calls Try.prog 87 #[.int .i64 n] w fun e w'=>e=.returned (.bool (bc n))∧w'=w:=by
 obtain ⟨R,hR⟩:∃R,bc n=R:=⟨_,rfl⟩;have HF:Hid (R=true↔((n:Int)%64=0∧64<=(n:Int)∧(n:Int)<=4096)):=by
  show _↔_;rw [<-hR,bc,decide_eq_true_eq];omega
 rw [hR];clear hR;go_enter Try.func87,Try.ntmps87;go_wp2_with fail;all_goals (
  go_ret;refine ⟨?_,rfl⟩;have q:=HF.out;cases R with
  | false=>simp at q |- <;> omega
  | true=>simp at q |- <;> omega)
end
section
attribute [local go_sem ↓] Go.wp_at_zero Go.wp_at_succ
theorem fi (p:PtrM) (h:HartM) (w:World) (hi:HartIn w p h) (hl:h.mem.length<=1048576) (s0:0<=h.satp) (s1:h.satp<=18446744073709551615) (t0:0<=h.tvec) (h8:h.regs.length=8):
 Calls Try.prog 59 #[.agg (ae p h)] w fun e w'=>e=.returned (.bool (bc h.mem.length && bo h))∧Below w.heap.size w w':=by
 have F:=cg w (ae p h) 63;have A0:Hid ((ae p h)[0]?=some (.slice p.am h.mem.length p.cm)):=by show _=_;rfl
 have A1:Hid ((ae p h)[1]?=some (.slice p.ar h.regs.length p.cr)):=by show _=_;rfl
 have A3:Hid ((ae p h)[3]?=some (.int .i64 h.mode)):=by show _=_;rfl
 have A6:Hid ((ae p h)[6]?=some (.int .u64 h.satp)):=by show _=_;rfl
 have A7:Hid ((ae p h)[7]?=some (.int .u64 h.tvec)):=by show _=_;rfl
 have A9:Hid ((ae p h)[9]?=some (.int .i64 h.emode)):=by show _=_;rfl
 have A10:Hid ((ae p h)[10]?=some (.int .i64 h.cause)):=by show _=_;rfl
 obtain ⟨R,hR⟩:∃R,(bc h.mem.length && bo h)=R:=⟨_,rfl⟩;have HF:Hid (R=true->bx h):=fun hr=>(bD h).1 (hR.trans hr);have HT:Hid (bx h->R=true):=fun h1=>hR.symm.trans ((bD h).2 h1);unfold bx at HF HT;rw [hR];have P1:Hid (∀u,Calls Try.prog 87 #[.int .i64 h.mem.length] u fun e w'=>e=.returned (.bool (bc h.mem.length))∧w'=u):=fun u=>cB h.mem.length u hl;have P2:Hid (∀m u,Calls Try.prog 88 #[.int .i64 m] u fun e w'=>e=.returned (.bool (decide (0<=m∧m<=2)))∧w'=u):=fun m u=>cP m u;have P3:Hid (∀u,Calls Try.prog 89 #[.int .u64 h.satp] u fun e w'=>e=.returned (.bool (aY h.satp))∧w'=u):=fun u=>cn h.satp u s0 s1;obtain ⟨rb,ro,hra,rlt,rc⟩:=ea hi.regs h8;have g8:(h.regs.length:Int)=8:=by omega
 rw [hra] at A1;clear hi hR h8;generalize ae p h=A at *;generalize h.mem.length=n at *;generalize h.regs.length=m at *;generalize h.regs[0]?.getD 0=r0 at *;go_enter Try.func59,Try.ntmps59;go_upto_region 1 with fail;generalize (w.alloc (Obj.cells A 63))=u0 at F |-;obtain ⟨f1,hz,nB⟩:=F;have H1:Hid _:=f1;clear f1;have m8:m=8:=by omega
 subst m8;have x0:u0.cell? ⟨rb,ro,none⟩=some (.int .u64 r0):=(nB.cell (by exact rlt)).trans rc;clear rc;have c0:=ab H1.out 0 A0.out;have c1:=ab H1.out 1 A1.out;have c3:=ab H1.out 3 A3.out;have c6:=ab H1.out 6 A6.out;have c7:=ab H1.out 7 A7.out;have c9:=ab H1.out 9 A9.out;have c10:=ab H1.out 10 A10.out;go_wp2_with fail;refine (P1.out u0).mono ?_;rintro e _ ⟨rfl,rfl⟩;by_cases hzz:(n:Int)%64=0∧64<=(n:Int)∧(n:Int)<=4096
 rotate_left 1
 ·rw [show bc n=false from (by unfold bc;exact decide_eq_false (by omega))];go_wp2_with fail
  any_goals (
   go_ret;refine ⟨?_,nB⟩;have hq:R=false:=(by
    cases R with
    | false=>rfl
    | true=>
     obtain ⟨⟨q1,q2,q3⟩,q4,q5,⟨q6,q7⟩,⟨q8,q9⟩,q10,q11,⟨q12,q13⟩⟩:=HF.out rfl;first
     | (exfalso;omega)
     | (simp_all))
   subst hq;exact rfl)
 rw [show bc n=true from (by unfold bc;exact decide_eq_true (by omega))];by_cases hr0:r0=0
 rotate_left 1
 ·have dr:(r0 != 0)=true:=by simpa using hr0
  go_wp2_with fail
  any_goals (
   go_ret;refine ⟨?_,nB⟩;have hq:R=false:=(by
    cases R with
    | false=>rfl
    | true=>
     obtain ⟨⟨q1,q2,q3⟩,q4,q5,⟨q6,q7⟩,⟨q8,q9⟩,q10,q11,⟨q12,q13⟩⟩:=HF.out rfl;first
     | (exfalso;omega)
     | (simp_all))
   subst hq;exact rfl)
 subst hr0;go_wp2_with fail;refine (P2.out h.mode _).mono ?_;rintro e _ ⟨rfl,rfl⟩;by_cases hm:0<=h.mode∧h.mode<=2
 rotate_left 1
 ·rw [decide_eq_false hm];go_wp2_with fail
  any_goals (
   go_ret;refine ⟨?_,nB⟩;have hq:R=false:=(by
    cases R with
    | false=>rfl
    | true=>
     obtain ⟨⟨q1,q2,q3⟩,q4,q5,⟨q6,q7⟩,⟨q8,q9⟩,q10,q11,⟨q12,q13⟩⟩:=HF.out rfl;first
     | (exfalso;omega)
     | (simp_all))
   subst hq;exact rfl)
 rw [decide_eq_true hm];have HM:Hid _:=hm;clear hm;go_wp2_with fail;refine (P2.out h.emode _).mono ?_;rintro e _ ⟨rfl,rfl⟩;by_cases he:0<=h.emode∧h.emode<=2
 rotate_left 1
 ·rw [decide_eq_false he];go_wp2_with fail
  any_goals (
   go_ret;refine ⟨?_,nB⟩;have hq:R=false:=(by
    cases R with
    | false=>rfl
    | true=>
     obtain ⟨⟨q1,q2,q3⟩,q4,q5,⟨q6,q7⟩,⟨q8,q9⟩,q10,q11,⟨q12,q13⟩⟩:=HF.out rfl;first
     | (exfalso;omega)
     | (simp_all))
   subst hq;exact rfl)
 rw [decide_eq_true he];have HE:Hid _:=he;clear he;go_wp2_with fail
 any_goals (
  go_ret;refine ⟨?_,nB⟩;have hq:R=false:=(by
   cases R with
   | false=>rfl
   | true=>
    obtain ⟨⟨q1,q2,q3⟩,q4,q5,⟨q6,q7⟩,⟨q8,q9⟩,q10,q11,⟨q12,q13⟩⟩:=HF.out rfl;first
    | (exfalso;omega)
    | (simp_all))
  subst hq;exact rfl)
 refine (P3.out _).mono ?_;rintro e _ ⟨rfl,rfl⟩;rcases Bool.eq_false_or_eq_true (aY h.satp) with hs | hs
 rotate_left 1
 ·rw [hs];go_wp2_with fail
  any_goals (
   go_ret;refine ⟨?_,nB⟩;have hq:R=false:=(by
    cases R with
    | false=>rfl
    | true=>
     obtain ⟨⟨q1,q2,q3⟩,q4,q5,⟨q6,q7⟩,⟨q8,q9⟩,q10,q11,⟨q12,q13⟩⟩:=HF.out rfl;first
     | (exfalso;omega)
     | (simp_all))
   subst hq;exact rfl)
 rw [hs];have HS:Hid _:=hs;clear hs;by_cases h4:h.tvec%4=0
 ·have hq:R=true:=HT.out ⟨hzz,by first | trivial | rfl | omega,by first | trivial | rfl | omega,HM.out,HE.out,HS.out,h4,⟨by omega,by omega⟩⟩;subst hq;go_wp2_with fail;go_ret;exact ⟨rfl,nB⟩
 ·have hq:R=false:=(by
   cases R with
   | false=>rfl
   | true=>
    obtain ⟨⟨q1,q2,q3⟩,q4,q5,⟨q6,q7⟩,⟨q8,q9⟩,q10,q11,⟨q12,q13⟩⟩:=HF.out rfl;exfalso;omega)
  subst hq;have d4:(h.tvec%4 == 0)=false:=by simpa using h4
  go_wp2_with fail;go_ret;exact ⟨rfl,nB⟩
theorem fj (p:PtrM) (h:HartM) (w:World) (hi:HartIn w p h) (hl:h.mem.length<=1048576) (s0:0<=h.satp) (s1:h.satp<=18446744073709551615) (t0:0<=h.tvec) (h8:¬h.regs.length=8):
 Calls Try.prog 59 #[.agg (ae p h)] w fun e w'=>e=.returned (.bool (bc h.mem.length && bo h))∧Below w.heap.size w w':=by
 have F:=cg w (ae p h) 63;have A0:Hid ((ae p h)[0]?=some (.slice p.am h.mem.length p.cm)):=by show _=_;rfl
 have A1:Hid ((ae p h)[1]?=some (.slice p.ar h.regs.length p.cr)):=by show _=_;rfl
 have A3:Hid ((ae p h)[3]?=some (.int .i64 h.mode)):=by show _=_;rfl
 have A6:Hid ((ae p h)[6]?=some (.int .u64 h.satp)):=by show _=_;rfl
 have A7:Hid ((ae p h)[7]?=some (.int .u64 h.tvec)):=by show _=_;rfl
 have A9:Hid ((ae p h)[9]?=some (.int .i64 h.emode)):=by show _=_;rfl
 have A10:Hid ((ae p h)[10]?=some (.int .i64 h.cause)):=by show _=_;rfl
 obtain ⟨R,hR⟩:∃R,(bc h.mem.length && bo h)=R:=⟨_,rfl⟩;have HF:Hid (R=true->bx h):=fun hr=>(bD h).1 (hR.trans hr);have HT:Hid (bx h->R=true):=fun h1=>hR.symm.trans ((bD h).2 h1);unfold bx at HF HT;rw [hR];have P1:Hid (∀u,Calls Try.prog 87 #[.int .i64 h.mem.length] u fun e w'=>e=.returned (.bool (bc h.mem.length))∧w'=u):=fun u=>cB h.mem.length u hl;have P2:Hid (∀m u,Calls Try.prog 88 #[.int .i64 m] u fun e w'=>e=.returned (.bool (decide (0<=m∧m<=2)))∧w'=u):=fun m u=>cP m u;have P3:Hid (∀u,Calls Try.prog 89 #[.int .u64 h.satp] u fun e w'=>e=.returned (.bool (aY h.satp))∧w'=u):=fun u=>cn h.satp u s0 s1;have g8:¬(h.regs.length:Int)=8:=by omega
 clear hi hR h8;generalize ae p h=A at *;generalize h.mem.length=n at *;generalize h.regs.length=m at *;generalize h.regs[0]?.getD 0=r0 at *;go_enter Try.func59,Try.ntmps59;go_upto_region 1 with fail;generalize (w.alloc (Obj.cells A 63))=u0 at F |-;obtain ⟨f1,hz,nB⟩:=F;have H1:Hid _:=f1;clear f1;have c0:=ab H1.out 0 A0.out;have c1:=ab H1.out 1 A1.out;have c3:=ab H1.out 3 A3.out;have c6:=ab H1.out 6 A6.out;have c7:=ab H1.out 7 A7.out;have c9:=ab H1.out 9 A9.out;have c10:=ab H1.out 10 A10.out;go_wp2_with fail;refine (P1.out u0).mono ?_;rintro e _ ⟨rfl,rfl⟩;by_cases hzz:(n:Int)%64=0∧64<=(n:Int)∧(n:Int)<=4096
 rotate_left 1
 ·rw [show bc n=false from (by unfold bc;exact decide_eq_false (by omega))];go_wp2_with fail
  any_goals (
   go_ret;refine ⟨?_,nB⟩;have hq:R=false:=(by
    cases R with
    | false=>rfl
    | true=>
     obtain ⟨⟨q1,q2,q3⟩,q4,q5,⟨q6,q7⟩,⟨q8,q9⟩,q10,q11,⟨q12,q13⟩⟩:=HF.out rfl;first
     | (exfalso;omega)
     | (simp_all))
   subst hq;exact rfl)
 rw [show bc n=true from (by unfold bc;exact decide_eq_true (by omega))];go_wp2_with fail
 any_goals (
  go_ret;refine ⟨?_,nB⟩;have hq:R=false:=(by
   cases R with
   | false=>rfl
   | true=>
    obtain ⟨⟨q1,q2,q3⟩,q4,q5,⟨q6,q7⟩,⟨q8,q9⟩,q10,q11,⟨q12,q13⟩⟩:=HF.out rfl;first
    | (exfalso;omega)
    | (simp_all))
  subst hq;exact rfl)
theorem dT (p:PtrM) (h:HartM) (w:World) (hi:HartIn w p h) (hl:h.mem.length<=1048576) (s0:0<=h.satp) (s1:h.satp<=18446744073709551615) (t0:0<=h.tvec):
 Calls Try.prog 59 #[.agg (ae p h)] w fun e w'=>e=.returned (.bool (bc h.mem.length && bo h))∧Below w.heap.size w w':=by
 by_cases h8:h.regs.length=8
 ·exact fi p h w hi hl s0 s1 t0 h8
 ·exact fj p h w hi hl s0 s1 t0 h8
theorem cU (p:PtrM) (h:HartM) (w:World) (hi:HartIn w p h) (hl:h.mem.length<=1048576) (s0:0<=h.satp) (s1:h.satp<=18446744073709551615) (t0:0<=h.tvec):
 Calls Try.prog 27 #[.agg (ae p h)] w fun e w'=>e=.returned (.bool (aT h))∧Below w.heap.size w w':=by
 have F:=cg w (ae p h) 63;have KP:Hid (((ae p h).toList.drop 12).take 9=(kA p h.k).toList):=by show _=_;rfl
 have SA:Hid ((ae p h).size=21):=rfl;have C1:Hid (∀u,Below w.heap.size w u->Calls Try.prog 58 #[.agg (kA p h.k)] u fun e w'=>cond (aK h.k) (gE u.heap.size w' e h.k) (e=.returned (.tuple #[.agg #[.int .i64 0,.int .i64 0,.slice none 0 0,.int .i64 0,.int .i64 0,.slice none 0 0,.int .i64 0,.int .i64 0,.slice none 0 0],.bool false]))∧Below u.heap.size u w'):=fun u hu=>dt _ h.k u (hi.ks.keep hu);have C2:Hid (∀u,Below w.heap.size w u->Calls Try.prog 59 #[.agg (ae p h)] u fun e w'=>e=.returned (.bool (bc h.mem.length && bo h))∧Below u.heap.size u w'):=fun u hu=>dT p h u (hi.keep hu) hl s0 s1 t0;obtain ⟨V,hV⟩:∃V,aT h=V:=⟨_,rfl⟩;have HV1:Hid (aK h.k=true->(bc h.mem.length && bo h)=V):=fun hg=>by rw [<-hV,aT,hg,Bool.and_true]
 have HV0:Hid (aK h.k=false->false=V):=fun hg=>by rw [<-hV,aT,hg,Bool.and_false]
 rw [hV];clear hi hV;generalize (bc h.mem.length && bo h)=R at *;generalize ae p h=A at *;go_enter Try.func27,Try.ntmps27;go_upto_region 1 with fail;generalize (w.alloc (Obj.cells A 63))=u0 at F |-;obtain ⟨f1,hz,nB⟩:=F;have H1:Hid _:=f1;clear f1;have J1:Hid _:=bM (P:=Try.prog) (T:=61) H1.out Try.underlying61 rfl (o:=12) (kA p h.k).toList kI KP.out rfl;rw [show (kA p h.k).toList.toArray=kA p h.k from rfl] at J1;generalize kA p h.k=KA at *;go_wp2_with (first | ((with_reducible refine bl ?_ J1.out ?_);(exact rfl)));refine (C1.out u0 nB).mono ?_;rintro e u1 ⟨hc,k1⟩;replace nB:=Below.step nB k1 (Nat.le_refl _);replace H1:=aa H1 k1;clear J1 k1;rcases Bool.eq_false_or_eq_true (aK h.k) with hg | hg
 ·rw [hg] at hc;obtain ⟨gi,gd,gp,rfl,_⟩:=hc;have hv:=HV1.out hg;subst hv;clear HV1 HV0;have l1:w.heap.size<u1.heap.size:=by have:=(Array.getElem?_eq_some_iff.1 H1.out).1;exact this
  unfold hD;go_upto_region 2 with fail;have n2:Below w.heap.size w (u1.alloc (Obj.cells #[Value.int .i64 h.k.i.sets,Value.int .i64 h.k.i.ways,Value.slice (some ⟨gi,0,none⟩) h.k.i.es.length h.k.i.es.length,Value.int .i64 h.k.d.sets,Value.int .i64 h.k.d.ways,Value.slice (some ⟨gd,0,none⟩) h.k.d.es.length h.k.d.es.length,Value.int .i64 h.k.p.sets,Value.int .i64 h.k.p.ways,Value.slice (some ⟨gp,0,none⟩) h.k.p.es.length h.k.p.es.length] 106)):=nB.alloc nB.size _;have H2:Hid ((u1.alloc (Obj.cells #[Value.int .i64 h.k.i.sets,Value.int .i64 h.k.i.ways,Value.slice (some ⟨gi,0,none⟩) h.k.i.es.length h.k.i.es.length,Value.int .i64 h.k.d.sets,Value.int .i64 h.k.d.ways,Value.slice (some ⟨gd,0,none⟩) h.k.d.es.length h.k.d.es.length,Value.int .i64 h.k.p.sets,Value.int .i64 h.k.p.ways,Value.slice (some ⟨gp,0,none⟩) h.k.p.es.length h.k.p.es.length] 106)).heap[w.heap.size]?=some (.cells A 63 (0,0))):=(heap_alloc_old u1 _ l1).trans H1.out;generalize u1.alloc (Obj.cells #[Value.int .i64 h.k.i.sets,Value.int .i64 h.k.i.ways,Value.slice (some ⟨gi,0,none⟩) h.k.i.es.length h.k.i.es.length,Value.int .i64 h.k.d.sets,Value.int .i64 h.k.d.ways,Value.slice (some ⟨gd,0,none⟩) h.k.d.es.length h.k.d.es.length,Value.int .i64 h.k.p.sets,Value.int .i64 h.k.p.ways,Value.slice (some ⟨gp,0,none⟩) h.k.p.es.length h.k.p.es.length] 106)=u2 at n2 H2 |-;have J2:Hid _:=cy (P:=Try.prog) (T:=63) H2.out Try.underlying63 rfl (by rw [SA.out];exact dX);go_wp2_with (first | ((with_reducible refine ep ?_ ?_ J2.out ?_);(exact rfl);(exact rfl)));refine (C2.out u2 n2).mono ?_;rintro e u3 ⟨rfl,k3⟩;replace n2:=Below.step n2 k3 (Nat.le_refl _);clear k3 H2 J2;go_wp2_with fail;go_ret;exact ⟨rfl,n2⟩
 ·rw [hg] at hc;obtain rfl:=hc;have hv:=HV0.out hg;subst hv;clear HV1 HV0;go_wp2_with fail;go_ret;exact ⟨rfl,nB.alloc nB.size _⟩
end
section
attribute [local go_sem ↓] Go.wp_at_zero Go.wp_at_succ
theorem HartArg.keep {w w':World} {p:PtrM} {h:HartM} (k:HartArg w p h) (hb:Below w.heap.size w w'):HartArg w' p h:=
 ⟨k.mem.keep hb,k.regs.keep hb,⟨k.t1.1.keep hb,k.t1.2⟩,⟨k.t2.1.keep hb,k.t2.2⟩,⟨k.t3.1.keep hb,k.t3.2⟩⟩
theorem gM (v:World) (V:Array Value) (hs:V.size=21) (h1:V.all (·.oneCell')=true):
 ∃v',(Instr.storeAt 63 (.pointer (some ⟨v.heap.size,0,none⟩)) (.agg V)).run Try.prog (v.alloc (Obj.cells cD 63))=.ok () v'∧v'.heap[v.heap.size]?=some (.cells V 63 (0,0))∧v.heap.size<v'.heap.size∧Below v.heap.size v v':=by
 have a:=cg v cD 63;refine ⟨_,fZ (P:=Try.prog) (T:=63) a.1 (by rw [hs];exact dX) (by rw [hs];rfl) h1,fp a.1 (by rw [hs];rfl),?_,?_⟩
 ·rw [cx,a.2.1];exact Nat.lt_succ_self _
 ·exact cW (Nat.le_refl _) _ _ _ a.2.2
theorem eQ {v:World} {g:Nat} {V:Array Value} (hs:V.size=21) (h:v.heap[g]?=some (.cells V 63 (0,0))):(Instr.loadAt 63 (.pointer (some ⟨g,0,none⟩))).run Try.prog v=.ok (.agg V) v:=
 cy h Try.underlying63 rfl (by rw [hs];exact dX)
theorem cu {v:World} {g:Nat} {V:Array Value} (hs:V.size=21) (h:v.heap[g]?=some (.cells V 57 (0,0))):(Instr.loadAt 57 (.pointer (some ⟨g,0,none⟩))).run Try.prog v=.ok (.agg V) v:=
 cy h Try.underlying57 rfl (by rw [hs];kernel_rfl)
theorem hZ (p:PtrM) (h:HartM) (w:World) (ha:HartArg w p h) (hl:(h.mem.length:Int)<=9223372036854775807∧(h.regs.length:Int)<=9223372036854775807∧(h.k.i.es.length:Int)<=9223372036854775807∧(h.k.d.es.length:Int)<=9223372036854775807∧(h.k.p.es.length:Int)<=9223372036854775807) (hs:0<=h.satp∧h.satp<=18446744073709551615) (ht:0<=h.tvec):
 Calls Try.prog 7 #[.agg (ae p h)] w fun e w'=>e=.returned (.bool true)∧Below w.heap.size w w':=by
 have F:=cg w (ae p h) 57;have CZ:Hid (∀u,Calls Try.prog 24 #[.agg (ae p h),.int .i64 1048576] u fun e w'=>(∃r:Int,e=.returned (.int .i64 r)∧ -1<=r∧r<=1048576∧(0<=r->HartB h))∧Below u.heap.size u w'):=fun u=>fM p h u hl.1 hl.2.1 hl.2.2.1 hl.2.2.2.1 hl.2.2.2.2;have CT:Hid (HartB h->∀u,Below w.heap.size w u->Calls Try.prog 26 #[.agg (ae p h)] u fun e w'=>(∃q,e=.returned (.agg (ae q h))∧HartIn w' q h)∧Below u.heap.size u w'):=fun hb u hu=>fN p h u (ha.keep hu) hb;have CS:Hid (∀q u,HartIn u q h->Calls Try.prog 25 #[.agg (ae q h)] u fun e w'=>e=.returned (.bool (aT h))∧Below u.heap.size u w'):=fun q u hq=>cM q h u hq hs.1 hs.2 ht;have CI:Hid (HartB h->∀q u,HartIn u q h->Calls Try.prog 27 #[.agg (ae q h)] u fun e w'=>e=.returned (.bool (aT h))∧Below u.heap.size u w'):=fun hb q u hq=>cU q h u hq hb.m hs.1 hs.2 ht;have SA:(ae p h).size=21:=rfl;clear ha hl hs ht;generalize aT h=V at *;generalize ae p h=A at *;go_enter Try.func7,Try.ntmps7;go_upto_region 1 with fail;generalize (w.alloc (Obj.cells A 57))=u0 at F |-;obtain ⟨f1,hz,nB⟩:=F;have H1:Hid _:=f1;clear f1;have J:Hid _:=cu SA H1.out;go_wp2_with (first | ((with_reducible refine bl ?_ J.out ?_);(exact rfl)));clear J;refine (CZ.out u0).mono ?_;rintro e u1 ⟨⟨r,rfl,r1,r2,r3⟩,k1⟩;replace nB:=Below.step nB k1 (Nat.le_refl _);replace H1:=aa H1 k1;clear k1;by_cases t:r<0
 ·have d3:decide (r<0)=true:=by simp;omega
  go_wp2_with fail;go_ret;exact ⟨rfl,nB⟩
 have d3:decide (r<0)=false:=by simp;omega
 have HB:Hid (HartB h):=r3 (by omega);clear r3;have J:Hid _:=cu SA H1.out;go_wp2_with (first | ((with_reducible refine bl ?_ J.out ?_);(exact rfl)));clear J d3;refine (CT.out HB.out u1 nB).mono ?_;rintro e u2 ⟨⟨q,rfl,hq⟩,k2⟩;replace nB:=Below.step nB k2 (Nat.le_refl _);replace H1:=aa H1 k2;clear k2;go_wp2_with fail;refine (CS.out q u2 hq).mono ?_;rintro e u3 ⟨rfl,k3⟩;replace nB:=Below.step nB k3 (Nat.le_refl _);replace H1:=aa H1 k3;clear k3 hq;have J:Hid _:=cu SA H1.out;go_wp2_with (first | ((with_reducible refine bl ?_ J.out ?_);(exact rfl)));clear J;refine (CT.out HB.out u3 nB).mono ?_;rintro e u4 ⟨⟨x,rfl,hx⟩,k4⟩;replace nB:=Below.step nB k4 (Nat.le_refl _);replace H1:=aa H1 k4;clear k4;obtain ⟨u5,hs5,P5,l5,n5⟩:=gM u4 (ae x h) rfl (eK _ _);have HX:Hid _:=hx.keep n5;have EI:Hid (∀u,HartIn u x h->Calls Try.prog 27 #[.agg (ae x h)] u fun e w'=>e=.returned (.bool V)∧Below u.heap.size u w'):=fun u hu=>CI.out HB.out x u hu;have EE:Hid (∀u y,HartIn u x h->HartIn u y h->Calls Try.prog 28 #[.agg (ae x h),.agg (ae y h)] u fun e w'=>e=.returned (.bool true)∧Below u.heap.size u w'):=fun u y h1 h2=>fH x y h u h1.row.1 h2.row.1 HB.out;have SX:(ae x h).size=21:=rfl;generalize ae x h=X at *;replace nB:=Below.step nB n5 (Nat.le_refl _);replace H1:=aa H1 n5;have HS5:Hid _:=hs5;have Q5:Hid _:=P5;have J:Hid _:=eQ SX P5;clear hs5 P5 n5 hx;go_wp2_with (first | ((with_reducible refine df ?_ ?_ HS5.out ?_);(exact rfl);(exact rfl)) | ((with_reducible refine bl ?_ J.out ?_);(exact rfl)));clear J HS5;refine (EI.out u5 HX.out).mono ?_;rintro e u6 ⟨rfl,k6⟩;replace nB:=Below.step nB k6 (Nat.le_refl _);replace H1:=aa H1 k6;replace Q5:=aa Q5 k6;replace HX:Hid _:=HX.out.keep k6;have l6:=k6.size;clear k6;have hv:(V != V)=false:=by simp
 go_upto_region 10 with fail;have nD:Below u6.heap.size u6 u6.drew:=(Below.refl _ _).drew;have HL1:Hid (∀u:World,(u.heap[w.heap.size]?=some (.cells A 57 (0,0))∧u.heap[u4.heap.size]?=some (.cells X 63 (0,0)))->(Instr.loadAt 57 (.pointer (some ⟨w.heap.size,0,none⟩))).run Try.prog u=.ok (.agg A) u):=fun u hu=>cu SA hu.1;have HL2:Hid (∀u:World,(u.heap[w.heap.size]?=some (.cells A 57 (0,0))∧u.heap[u4.heap.size]?=some (.cells X 63 (0,0)))->(Instr.loadAt 63 (.pointer (some ⟨u4.heap.size,0,none⟩))).run Try.prog u=.ok (.agg X) u):=fun u hu=>eQ SX hu.2;have HBo:Hid (∀u:World,Below u6.heap.size u6 u->(u.heap[w.heap.size]?=some (.cells A 57 (0,0))∧u.heap[u4.heap.size]?=some (.cells X 63 (0,0)))):=fun u hu=>⟨(aa H1 hu).out,(aa Q5 hu).out⟩;have hF:=HBo.out u6.drew nD;refine dp (fun u=>u.heap[w.heap.size]?=some (.cells A 57 (0,0))∧u.heap[u4.heap.size]?=some (.cells X 63 (0,0))) 4 (by kernel_rfl) ?_;refine ee 0 22 (.agg X) rfl (by kernel_rfl) (by kernel_rfl) (by kernel_rfl) (by kernel_rfl) rfl (by kernel_rfl) (fun _ _ _ h=>h) (by kernel_rfl) (fun u hu=>eo rfl (HL2.out u hu)) hF (by kernel_rfl) ?_;simp only [Act.put,List.setIfInBounds_toArray,List.set_cons_succ,List.set_cons_zero];refine ee 1 23 (.agg A) rfl (by kernel_rfl) (by kernel_rfl) (by kernel_rfl) (by kernel_rfl) rfl (by kernel_rfl) (fun _ _ _ h=>h) (by kernel_rfl) (fun u hu=>eo rfl (HL1.out u hu)) hF (by kernel_rfl) ?_;simp only [Act.put,List.setIfInBounds_toArray,List.set_cons_succ,List.set_cons_zero];refine ef 2 24 (by kernel_rfl) rfl (by kernel_rfl) (by kernel_rfl) (f:=26) (args:=#[.agg A]) (by kernel_rfl) ?_;refine (CT.out HB.out u6.drew (Below.step nB nD (Nat.le_refl _))).mono ?_;rintro e u7 ⟨⟨y,rfl,hy⟩,k7⟩;have m7:Below u6.heap.size u6 u7:=Below.step nD k7 (Nat.le_refl _);refine ⟨_,rfl,fun _=>HBo.out u7 m7,?_⟩;simp only [Act.put,List.setIfInBounds_toArray,List.set_cons_succ,List.set_cons_zero];have HE:Hid (Calls Try.prog 28 #[.agg X,.agg (ae y h)] u7 fun e w'=>e=.returned (.bool true)∧Below u7.heap.size u7 w'):=EE.out u7 y (HX.out.keep m7) hy;generalize ae y h=Y at *;refine ef 3 25 (by kernel_rfl) rfl (by kernel_rfl) (by kernel_rfl) (f:=28) (args:=#[.agg X,.agg Y]) (by kernel_rfl) ?_;refine HE.out.mono ?_;rintro e u8 ⟨rfl,k8⟩;have m8:Below u6.heap.size u6 u8:=Below.step m7 k8 (Nat.le_refl _);refine ⟨_,rfl,fun _=>HBo.out u8 m8,?_⟩;simp only [Act.put,List.setIfInBounds_toArray,List.set_cons_succ,List.set_cons_zero];refine gL 4 26 (.bool false) (w':=u8) (by kernel_rfl) rfl (by kernel_rfl) (by kernel_rfl) (by go_simp) (fun _=>HBo.out u8 m8) ?_;simp only [Act.put,List.setIfInBounds_toArray,List.set_cons_succ,List.set_cons_zero];refine gx (by kernel_rfl) ?_ _;have nE:=Below.step nB m8 (Nat.le_refl _);go_wp2_with fail;go_ret;exact ⟨rfl,nE⟩
end
end Go.Proofs.Ytfgogedgolgnaaa

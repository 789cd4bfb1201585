import Derived.Test.YtpdddbobhndbjaaGreatPk27
namespace Go.Proofs.YtpdddbobhndbjaaGreat
open Go.RowKit
set_option linter.unusedVariables false
set_option maxHeartbeats 6400000
set_option maxRecDepth 20000
theorem uR (w:World):(method 395 147 (.agg #[]) "loop.example/s0051/impl.phys").run Tryz.prog w=.ok (196,.agg #[]) w:=by kernel_rfl
theorem uf (w:World):(method 395 147 (.agg #[]) "loop.example/s0051/impl.fence").run Tryz.prog w=.ok (195,.agg #[]) w:=by kernel_rfl
theorem ug (w:World):(method 395 147 (.agg #[]) "loop.example/s0051/impl.begin").run Tryz.prog w=.ok (194,.agg #[]) w:=by kernel_rfl
theorem xu (args:Array Value) (w:World):(callFunc 196 args).run Tryz.prog w=.ok (.enter 196 args) w:=by kernel_rfl
theorem uS (args:Array Value) (w:World):(callFunc 195 args).run Tryz.prog w=.ok (.enter 195 args) w:=by kernel_rfl
theorem uT (args:Array Value) (w:World):(callFunc 194 args).run Tryz.prog w=.ok (.enter 194 args) w:=by kernel_rfl
theorem xx (zs:List Int) (mode:Int) (sum mxr:Bool) (satp kind va:Int) (hk:0<=kind∧kind<=2) (hm:0<=mode∧mode<=2):
 iF zs mode sum mxr satp kind va=(if (jf zs mode sum mxr satp kind va).2=1 then 0 else if (jf zs mode sum mxr satp kind va).2=2 then eA kind else bL kind,(jf zs mode sum mxr satp kind va).1)∧((jf zs mode sum mxr satp kind va).2=1∨(jf zs mode sum mxr satp kind va).2=2∨(jf zs mode sum mxr satp kind va).2=3):=by
 have hcd:=mQ zs satp va;refine ⟨?_,?_⟩
 ·unfold iF;rw [if_neg (by omega)];unfold jf;cases onM mode satp
  ·simp
  ·simp only [Bool.true_eq_false,if_false];exact xq (dv zs satp va) mode sum mxr kind va hcd
 ·unfold jf;cases onM mode satp
  ·simp
  ·simp only [Bool.true_eq_false,if_false];exact yX (dv zs satp va) mode sum mxr kind va hcd
theorem BS (r:RunM) (sv:Value) (kind va:Int) (w:World) (hs:SrcAt w sv r.h.mem) (hr:ROk r) (hv:inU va):
 Calls Tryz.prog 196 #[.agg #[],sv,ql r.h,.int .i64 kind,.int .u64 va] w fun e w'=>e=.returned (.tuple #[.int .u64 (jf r.h.mem r.h.mode r.h.sum r.h.mxr r.h.satp kind va).1,cF (jf r.h.mem r.h.mode r.h.sum r.h.mxr r.h.satp kind va).2])∧Bw w w':=by
 have F:=jw w #[] #[.int .i64 r.h.mode,.bool r.h.sum,.bool r.h.mxr,.int .u64 r.h.satp] 147 172;have HS:Hid _:=hs;have hsp:=hr.h.satp;obtain ⟨hv0,hv1⟩:=hv;clear hs hr;generalize r.h.mem=zs at HS |-;unfold ql;generalize r.h.satp=satp at hsp F |-;generalize r.h.mode=mode at F |-;generalize r.h.sum=sum at F |-;generalize r.h.mxr=mxr at F |-;go_enter Tryz.func196,Tryz.ntmps196;go_upto_region 1 with fail;generalize (w.alloc (Obj.cells #[] 147)).alloc (Obj.cells #[.int .i64 mode,.bool sum,.bool mxr,.int .u64 satp] 172)=v1 at F |-;obtain ⟨f1,f2,f3,n1⟩:=F;have c0:=ab f2 0 (v:=.int .i64 mode) rfl;have c1:=ab f2 1 (v:=.bool sum) rfl;have c2:=ab f2 2 (v:=.bool mxr) rfl;have c3:=ab f2 3 (v:=.int .u64 satp) rfl;have HN1:Hid _:=n1;have HC:Hid _:=sK sv zs mode sum mxr satp kind va v1 (SrcAt.keep HS.out n1) hv0 hv1 hsp.1 hsp.2;unfold dV at HC;clear f1 f2 f3 n1;go_wp2_with fail;refine Calls.mono HC.out ?_;rintro e v2 ⟨rfl,n2⟩;have HN2:=hid (bst HN1.out n2);obtain ⟨A,hA⟩:∃A,jf zs mode sum mxr satp kind va=A:=⟨_,rfl⟩;rw [hA];have HA:Hid _:=hA;clear hA n2 c0 c1 c2 c3;go_wp2_with fail;exact bodyPost_ret (v:=.tuple #[.int .u64 A.1,cF A.2]) (by simp [results,Tryz.results196,go_sem]) rfl ⟨by rw [HA.out],HN2.out⟩
theorem Ah (pick:Int) (w:World):Calls Tryz.prog 194 #[.agg #[],.int .i64 pick] w fun e w'=>e=.returned (.tuple #[])∧Bw w w':=by
 have F:=bS w #[] 147;go_enter Tryz.func194,Tryz.ntmps194;go_wp2_with fail;exact ⟨rfl,.tuple #[],by kernel_rfl,rfl,F.2.2⟩
theorem Ai (cv:Value) (w:World):Calls Tryz.prog 195 #[.agg #[],cv] w fun e w'=>e=.returned (.tuple #[])∧Bw w w':=by
 have F:=bS w #[] 147;go_enter Tryz.func195,Tryz.ntmps195;go_wp2_with fail;exact ⟨rfl,.tuple #[],by kernel_rfl,rfl,F.2.2⟩
structure Path (m:MP) (plain:Bool) (base:Nat) (X:Nat->Prop) (PI:KM->World->Prop) (PA:Int->World->RunM->Prop):Prop where
 ok:∀pick h0,0<=pick∧pick<=255->PathOk m plain pick h0 X (PI h0.k) (PA pick)
 next:∀pick w r,PA pick w r->PI r.h.k w
 rows:∀k w,PI k w->RowsAt w base m.gi m.gd m.gp k
theorem Path.cached (m:MP) (pb base:Nat) (hd:CDist m pb) (hbp:m.b≠pb):Path m false base (cX m pb) (cI m pb base) (fun pick w r=>cA m pb base pick r.h.k w):=
 ⟨fun pick h0 hp=>vL m pb base hd hbp pick hp h0,fun pick w r h=>⟨pick,h⟩,fun k w h=>h.elim fun _ h=>h.1⟩
def pX (m:MP) (i:Nat):Prop:=i=m.gi∨i=m.gd∨i=m.gp
theorem tw {w w':World} {m:MP} {base:Nat} {k:KM} (h:RowsAt w base m.gi m.gd m.gp k) (hx:∀i,pX m i->w'.heap[i]?=w.heap[i]?):RowsAt w' base m.gi m.gd m.gp k:=
 ⟨jK h.1 (hx _ (.inl rfl)),jK h.2.1 (hx _ (.inr (.inl rfl))),jK h.2.2.1 (hx _ (.inr (.inr rfl))),h.2.2.2⟩
theorem mF {w w':World} {m:MP} {base:Nat} {k:KM} (h:RowsAt w base m.gi m.gd m.gp k) (n:Bw w w'):RowsAt w' base m.gi m.gd m.gp k:=h.keep n
theorem Path.plain (m:MP) (base:Nat) (hpd:m.pd=147) (hpx:m.px=.agg #[]):Path m true base (pX m) (fun k w=>RowsAt w base m.gi m.gd m.gp k) (fun _ w r=>RowsAt w base m.gi m.gd m.gp r.h.k):=by
 refine ⟨fun pick h0 hp=>⟨fun w w' r h _ hx=>tw h hx,fun w w' h _ hx=>tw h hx,fun w r r' h e _ _ _=>by rw [e];exact h,?_,?_,?_⟩,fun _ _ _ h=>h,fun _ _ h=>h⟩
 ·intro w r sv kind va hA _ hs hc hr hk0 hk2 hv;rw [hpd,hpx];refine ⟨_,_,uR w,fun args u=>xu args u,?_⟩;refine (BS r sv kind va w hs hr hv).mono ?_;rintro e w' ⟨rfl,n⟩;have h:=xx r.h.mem r.h.mode r.h.sum r.h.mxr r.h.satp kind va ⟨hk0,hk2⟩ hr.h.v.mode;refine ⟨_,_,rfl,h.2,?_,?_,Kp.of_below _ n⟩
  ·unfold br;rw [if_pos rfl];exact h.1
  ·exact mF (m:=m) hA n
 ·intro w r cv f hA _ _ _ _ _;rw [hpd,hpx];refine ⟨_,_,uf w,fun args u=>uS args u,?_⟩;exact (Ai cv w).mono fun e w' h=>⟨h.1,mF (m:=m) hA h.2,Kp.of_below _ h.2⟩
 ·intro w hI _ _;rw [hpd,hpx];refine ⟨_,_,ug w,fun args u=>uT args u,?_⟩;refine (Ah pick w).mono fun e w' h=>⟨h.1,?_,Kp.of_below _ h.2⟩;have e:(cL true pick h0).h.k=h0.k:=by
   unfold cL fW;rw [if_neg (by simp)];rfl
  rw [e];exact mF (m:=m) hI h.2
end Go.Proofs.YtpdddbobhndbjaaGreat

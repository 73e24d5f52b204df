import Derived.Laws.IdiomCopy
import Derived.Test.YtnfeiginmngknaaGreatFZ06
namespace Go.Proofs.YtnfeiginmngknaaGreat
set_option maxRecDepth 100000
set_option linter.unusedVariables false
set_option linter.unusedSimpArgs false
open Go.ChangeShapes Go.WideShapes Go.ChangeAt Go.RowKit
theorem q8b{α:Type}{El:ElP α}(hM:YZ El){S:Nat->Bool}{w:World}{vs:List Value}{x:α}(h:El (qL S w) vs x)(o:Obj):El (qL S (w.alloc o)) vs x:=
 wL hM h (by simp) fun b hb hs=>⟨hs,Below.heap_alloc w o b hb⟩
theorem ZV.lt{α:Type}{El:ElP α}{w:World}{base e k:Nat}{v:Value}{l:List α}(h:ZV El w base e k v l):∀g,v.ownBlock=some g->g<w.heap.size:=by
 obtain⟨_,_,_,h3,_⟩:=h;exact fun g hg=>(h3.lt g hg).2
def LstGet{α:Type}(At:qV α)(k:Nat)(enc:α->List Int)(ok:α->Prop)(N:Nat)(most:Int)(rest:List Int)(bad:Bool)(w:World)(e:Ending)(w':World):Prop:=
 ∃A cap l rest' bad',e= .returned (.slice A l.length cap)/\zd At k (qL (old w) w') w'.heap.size A cap l/\Rd w' N rest' bad'/\w.grownBy w' (some N)/\zS (fun l:List α=>zG l.length++l.flatMap enc) (fun l=>(l.length:Int)<=most/\∀y ∈l,ok y) rest bad l rest' bad'
structure GL{α:Type}(El:ElP α)(k:Nat)(T:TypeId)(enc:α->List Int)(ok:α->Prop)(N:Nat)(w wr:World)(r1:List Int)(b1:Bool)(v:Value)(l:List α)(r:List Int)(b:Bool):Prop where
 row:ZV El wr w.heap.size T k v l
 rd:Rd wr N r b
 g:w.grownBy wr (some N)
 rel:zS (fun l:List α=>l.flatMap enc) (fun z=>z.length=l.length/\∀y ∈z,ok y) r1 b1 l r b
 lt:N<w.heap.size
structure GO{α:Type}(El:ElP α)(k:Nat)(T:TypeId)(enc:α->List Int)(ok:α->Prop)(N:Nat)(w wr w1:World)(r1:List Int)(b1:Bool)(v:Value)(l:List α)(r r2:List Int)(b b2:Bool)(cs:List Value)(x:α):Prop where
 h:GL El k T enc ok N w wr r1 b1 v l r b
 rd:Rd w1 N r2 b2
 g:wr.grownBy w1 (some N)
 rel:zS enc ok r b x r2 b2
 el:El (qL (old wr) w1) cs x
section
variable{α:Type}{El:ElP α}{k:Nat}{T:TypeId}{enc:α->List Int}{ok:α->Prop}{N:Nat}{w wr w1:World}{r1 r r2:List Int}{b1 b b2:Bool}{v:Value}{l:List α}{cs:List Value}{x:α}
theorem zS.bts{rest:List Int}{bad:Bool}(h:zS enc ok rest bad x r b):Bts r:=h.1
theorem GL.bts(h:GL El k T enc ok N w wr r1 b1 v l r b):Bts r:=h.rel.1
theorem GL.n_lt(h:GL El k T enc ok N w wr r1 b1 v l r b):N<wr.heap.size:=h.rd.lt
theorem GL.start(hrd:Rd wr N r b)(hg:w.grownBy wr (some N))(hb:Bts r)(hlt:N<w.heap.size):GL El k T enc ok N w wr r b (.slice none 0 0) [] r b:=⟨ZV.nil _,hrd,hg,zS.ls_nil hb,hlt⟩
theorem GL.got(h:GL El k T enc ok N w wr r1 b1 v l r b)(hrd:Rd w1 N r2 b2)(hg:wr.grownBy w1 (some N))(hrel:zS enc ok r b x r2 b2)(hel:El (qL (old wr) w1) cs x):GO El k T enc ok N w wr w1 r1 b1 v l r r2 b b2 cs x:=⟨h,hrd,hg,hrel,hel⟩
theorem qd9{P:Program}{ops:Array Oper}{rest:List Oper}{o:Oper}{a:Act}{Q:Exit->Act->World->Prop}(hgd:o.guard=none)(s y:Operand)(t:TypeId)(ho:o.op= .call {callee:= .builtin .append,args:= #[s,y],argTypes:= #[t,t]})
  (i:TypeInfo) (z:Value) (bytes:Nat) (ht:P.underlying t=some (.slice T)) (hi:P.info? T=some i) (hz:i.zero=some z) (hsize:i.size=k) (hby:i.bytes=bytes) (hzs:z.cells.size=k) (hM:YZ El) (H:GO El k T enc ok N w wr w1 r1 b1 v l r r2 b b2 cs x)
  (hcl:cs.length=k) (hk:0<k) (h1:cs.all (fun u=>u.oneCell')=true) (hs:a.eval s=v) (hx:a.eval y= .slice (some ⟨w1.heap.size,0,none⟩) 1 1) (hl:l.length<=1000) (hb:bytes<=1000)
  (hq:∀g c w2,Hid (GL El k T enc ok N w w2 r1 b1 (.slice (some ⟨g,0,none⟩) (l.length+1) c) (l++[x]) r2 b2)->wpList P ops Q rest (a.put o.dst (.slice (some ⟨g,0,none⟩) (l.length+1) c)) w2):wpList P ops Q (o::rest) a (w1.alloc (.cells cs.toArray T)):=by
 have hr1:=ZV.keep hM H.h.row H.g H.h.lt;obtain⟨vI,v1,v2,v3,v4⟩:=ZV.alloc hM hr1 (.cells cs.toArray T);have hz1:=H.h.g.size;have hz2:=H.g.size;have hbb:(l.length+1)*bytes<=140737488355328:=Xe (Nat.mul_le_mul (show l.length+1<=1001 by omega) hb) (by decide);refine wpList_append_lies _ hgd s y t ho w.heap.size T i z k bytes ht hi hz hsize hby hzs hk v _ _ hs v3 ⟨w1.heap.size,0,none⟩ 1 1 cs hx (by omega) (World.news_of_block (Xz w1 _)) (fun u hu=>Xy.mp h1 u hu) (by decide) (by unfold maxLen;omega) hbb (by simp;omega) _ rfl ?_;intro g c w2 hown hgrow hor _;have hr:=ZV.snoc hM v1 v2 v3 v4 hcl hz1 (ZV.lt H.h.row) (q8b hM H.el _) hown hgrow hor;have hw:Below w.heap.size (w1.alloc (.cells cs.toArray T)) w2:=(zb w.heap.size _).grown hgrow (by simp;omega) (fun k hk=>(v3.lt k hk).1);refine hq g c w2 (zH ⟨hr,((H.rd.keep (zk)).keep_to hw H.h.lt),q54 (Q3 (dY H.h.g H.g) _) hgrow (fun k hk=>(v3.lt k hk).1),?_,H.h.lt⟩);have e:=zS.ls_snoc H.h.rel H.rel;rw[show(l++[x]).length=l.length+1 by simp];exact e
end
structure GD{α:Type}(El:ElP α)(At:qV α)(k bytes:Nat)(T t:TypeId)(enc:α->List Int)(ok:α->Prop):Prop where
 info:∃i z,Tryz.prog.info? T=some i/\i.zero=some z/\z.cells.size=k/\i.size=k/\i.bytes=bytes
 und:Tryz.prog.underlying t=some (.slice T)
 mono:YZ El
 at_:nH El At k
abbrev GLs{α:Type}(f g:FuncId)(At:qV α)(k:Nat)(enc:α->List Int)(ok:α->Prop):Prop:=∀{N:Nat} {most:Int} {rest:List Int} {bad:Bool} {w:World},(0<=most/\most<=64)->Hid (Bts rest)->Hid (Rd w N rest bad)->
 Calls Tryz.prog f #[.pointer (some ⟨N,0,none⟩),.int .i64 most,.func (.func g) #[] #[]] w (LstGet At k enc ok N most rest bad w)
section
variable{α:Type}{El:ElP α}{At:qV α}{k bytes:Nat}{T t:TypeId}{enc:α->List Int}{ok:α->Prop}{N:Nat}{w wr w1:World}{r1 r r2:List Int}{b1 b b2:Bool}{v:Value}{l:List α}{cs:List Value}{x:α}
abbrev GLof(_:GD El At k bytes T t enc ok):=GL El k T enc ok
theorem GD.start(_:GD El At k bytes T t enc ok)(hrd:Rd wr N r b)(hg:w.grownBy wr (some N))(hb:Bts r)(hlt:N<w.heap.size):GL El k T enc ok N w wr r b (.slice none 0 0) [] r b:=GL.start hrd hg hb hlt
theorem qdk(D:GD El At k bytes T t enc ok){ops:Array Oper}{rest:List Oper}{o:Oper}{a:Act}{Q:Exit->Act->World->Prop}(hgd:o.guard=none)(s y:Operand)(ho:o.op= .call {callee:= .builtin .append,args:= #[s,y],argTypes:= #[t,t]})
  (H:Hid (GO El k T enc ok N w wr w1 r1 b1 v l r r2 b b2 cs x)) (hcl:cs.length=k) (hk:0<k) (h1:cs.all (fun u=>u.oneCell')=true) (hs:a.eval s=v) (hx:a.eval y= .slice (some ⟨w1.heap.size,0,none⟩) 1 1) (hl:l.length<=1000) (hb:bytes<=1000)
  (hq:∀g c w2,Hid (GL El k T enc ok N w w2 r1 b1 (.slice (some ⟨g,0,none⟩) (l.length+1) c) (l++[x]) r2 b2)->wpList Tryz.prog ops Q rest (a.put o.dst (.slice (some ⟨g,0,none⟩) (l.length+1) c)) w2):wpList Tryz.prog ops Q (o::rest) a (w1.alloc (.cells cs.toArray T)):=by
 obtain⟨i,z,hi,hz0,hz1,hz2,hz3⟩:=D.info;exact qd9 hgd s y t ho i z bytes D.und hi hz0 hz2 hz3 hz1 D.mono H.out hcl hk h1 hs hx hl hb hq
end
theorem lfG{P:Prop}(h:P:=by
 have hlt:=h.out.lt;go_wp2_with(go_at_call 79;(with_reducible refine(gU _ _ _ _ _ hb.out hm.1 (by omega) h.out).mono ?_);rintro e w0 ⟨n,r1,b1,rfl,n0,n5,hrd,hg,hrel⟩;have ky:=zH hrd;have qN:=zH hrel;have qX:=zH hg;clear hrd hg hrel)
 have qX:=zH (D.start ky.out qX.out qN.out.1 hlt);go_loopw [7,11] (fun v i wr=>∃l r' b',l.length<=n.toNat/\i= .int .i64 l.length/\Hid (GLof D N w wr r1 b1 v l r' b')) (fun _ i _=>n.toNat - (intOf i).toNat)
 case atStart=>exact⟨[],r1,b1,by simp,rfl,qX⟩
 case round=>
  clear qX;obtain⟨l,r',b',hll,rfl,HG⟩:=hrel;by_cases hlt':(l.length:Int)<n
  ·have hN:=HG.out.n_lt;go_wp2_with(first
    |(go_at_call 72;(with_reducible refine(UJ N _ _ _ HG.out.bts HG.out.rd).mono ?_);rintro e w1 ⟨x,r2,b2,rfl,hrd,hg,hrel⟩;have H1:=zH (HG.out.got (cs:=[.int .i64 x.1,.int .i64 x.2]) hrd hg hrel rfl);clear hrd hg hrel)
    |(go_at_call 78;(with_reducible refine(qh3 N _ _ _ HG.out.bts HG.out.rd).mono ?_);rintro e w1 ⟨x,r2,b2,rfl,x0,x1,hrd,hg,hrel⟩;have H1:=zH (HG.out.got (cs:=[.int .i64 x]) hrd hg hrel rfl);clear hrd hg hrel)
    |(go_at_call 123;(with_reducible refine(U2 N _ _ _ HG.out.bts HG.out.rd).mono ?_);rintro e w1 ⟨x,r2,b2,rfl,x0,x1,hrd,hg,hrel⟩;have H1:=zH (HG.out.got (cs:=[.int .i64 x]) hrd hg hrel rfl);clear hrd hg hrel)
    |(go_at_call 74;(with_reducible refine(qh7 N _ _ _ HG.out.bts HG.out.rd).mono ?_);rintro e w1 ⟨x,r2,b2,rfl,hok,hrd,hg,hrel⟩;have H1:=zH (HG.out.got (cs:=[.int .i32 x]) hrd hg hrel ⟨rfl,hok⟩);clear hrd hg hrel)
    |(go_at_call 122;(with_reducible refine(qd8 N _ _ _ HG.out.bts HG.out.rd).mono ?_);rintro e w1 ⟨x,r2,b2,rfl,hrd,hg,hrel⟩;have H1:=zH (HG.out.got (cs:=[.int .i64 x.1,.int .i64 x.2.1,.int .i64 x.2.2]) hrd hg hrel rfl);clear hrd hg hrel)
    |(go_at_call 70;(with_reducible refine(qi7 N _ _ _ HG.out.bts HG.out.rd).mono ?_);rintro e w1 ⟨x,A1,k1,A2,k2,r2,b2,rfl,hel,hrd,hg,hrel⟩;have H1:=zH (HG.out.got (cs:=[.int .i64 x.sup,.slice A1 x.fields.length k1,.slice A2 x.slots.length k2]) hrd hg hrel hel);clear hrd hg hrel)
    |(go_at_call 76;(with_reducible refine(qfc N _ _ _ HG.out.bts HG.out.rd).mono ?_);rintro e w1 ⟨x,A0,k0,A1,k1,A4,k4,A7,k7,r2,b2,rfl,hel,hrd,hg,hrel⟩;have H1:=zH (HG.out.got (cs:=[.slice A0 x.args.length k0,.slice A1 x.locals.length k1,.int .i64 x.ret.1,.int .i64 x.ret.2,.slice A4 x.code.length k4,.int .i64 x.depth,.int .i64 x.pot,.slice A7 x.phi.length k7]) hrd hg hrel hel);clear hrd hg hrel)
    |(at_builtin;refine qdk D rfl _ _ rfl H1 rfl (by decide) rfl rfl rfl (by omega) (by decide) ?_;intro g6 c6 w2 HG2))
   go_roundw;case rel=>exact⟨l++[x],_,_,by simp;omega,by simp,HG2⟩
   case measure=>simp[intOf];omega
  ·obtain⟨A,c,rfl,hs⟩:=HG.out.row.slice D.at_ D.mono (by decide);have HS:=zH hs;clear hs;go_wp2_with fail
   go_ret;exact⟨A,c,l,r',b',rfl,HS.out,HG.out.rd,HG.out.g,zS.ls_end n0 (show l.length=n.toNat by omega) rfl qN.out HG.out.rel⟩):P:=h
set_option maxHeartbeats 1600000 in
theorem DJ:GLs 71 72 zf 2 jA (fun t=>qG t=true):=by
 intro N most rest bad w hm hb h;have D:GD rZ zf 2 16 45 24 jA (fun t=>qG t=true):=⟨pJ (by kernel_rfl),Tryz.underlying24,rZ.mono,rZ.at_⟩
 go_enter Tryz.func71,Tryz.ntmps71;exact lfG
set_option maxHeartbeats 1600000 in
theorem Ue:GLs 77 78 zu 1 vu (fun n=>0<=n/\n<=11):=by
 intro N most rest bad w hm hb h;have D:GD fw zu 1 8 3 27 vu (fun n=>0<=n/\n<=11):=⟨pJ (by kernel_rfl),Tryz.underlying27,fw.mono,fw.at_⟩
 go_enter Tryz.func77,Tryz.ntmps77;exact lfG
set_option maxHeartbeats 1600000 in
theorem qda:GLs 77 123 zu 1 vu (fun n=>0<=n/\n<=4096):=by
 intro N most rest bad w hm hb h;have D:GD fw zu 1 8 3 27 vu (fun n=>0<=n/\n<=4096):=⟨pJ (by kernel_rfl),Tryz.underlying27,fw.mono,fw.at_⟩
 go_enter Tryz.func77,Tryz.ntmps77;exact lfG
set_option maxHeartbeats 1600000 in
theorem q8g:GLs 73 74 Jt 1 ZZ OkL:=by
 intro N most rest bad w hm hb h;have D:GD rG Jt 1 4 21 25 ZZ OkL:=⟨pJ (by kernel_rfl),Tryz.underlying25,rG.mono,rG.at_⟩
 go_enter Tryz.func73,Tryz.ntmps73;exact lfG
set_option maxHeartbeats 1600000 in
theorem qdb:GLs 121 122 ju 3 kb (fun i=>qs i.1 i.2.1 i.2.2=true):=by
 intro N most rest bad w hm hb h;have D:GD rH ju 3 24 50 46 kb (fun i=>qs i.1 i.2.1 i.2.2=true):=⟨pJ (by kernel_rfl),Tryz.underlying46,rH.mono,rH.at_⟩
 go_enter Tryz.func121,Tryz.ntmps121;exact lfG
theorem pW{S S':Nat->Bool}{w w':World}{B C:Nat}{h:zh}{m:za}(H:zr (qL S w) B h m)(hC:B<=C)(hs:∀b,b<B->S b=false->S' b=false/\w'.heap[b]? =w.heap[b]?):zr (qL S' w') C h m:=
 ⟨H.classes.hole vw.mono hC hs,H.statics.hole zf.mono hC hs,H.ints.hole Jt.mono hC hs,H.methods.hole kd.mono hC hs,H.entries.hole zu.mono hC hs⟩
theorem Dt{S:Nat->Bool}{w:World}{B:Nat}{h:zh}{m:za}(H:zr (qL S w) B h m):zr w B h m:=
 ⟨H.classes.of_hole vw.mono,H.statics.of_hole zf.mono,H.ints.of_hole Jt.mono,H.methods.of_hole kd.mono,H.entries.of_hole zu.mono⟩
def CGet(N:Nat)(rest:List Int)(bad:Bool)(w:World)(e:Ending)(w':World):Prop:=
 ∃c A1 k1 A2 k2 rest' bad',e= .returned (.agg #[.int .i64 c.sup,.slice A1 c.fields.length k1,.slice A2 c.slots.length k2])/\ni (qL (old w) w') [.int .i64 c.sup,.slice A1 c.fields.length k1,.slice A2 c.slots.length k2] c/\Rd w' N rest' bad'/\w.grownBy w' (some N)/\zS kw (fun c=>Qa c=true) rest bad c rest' bad'
def MGet(N:Nat)(rest:List Int)(bad:Bool)(w:World)(e:Ending)(w':World):Prop:=
 ∃x A0 k0 A1 k1 A4 k4 A7 k7 rest' bad',e= .returned (.agg #[.slice A0 x.args.length k0,.slice A1 x.locals.length k1,.int .i64 x.ret.1,.int .i64 x.ret.2,.slice A4 x.code.length k4,.int .i64 x.depth,.int .i64 x.pot,.slice A7 x.phi.length k7])/\
  ng (qL (old w) w') [.slice A0 x.args.length k0,.slice A1 x.locals.length k1,.int .i64 x.ret.1,.int .i64 x.ret.2,.slice A4 x.code.length k4,.int .i64 x.depth,.int .i64 x.pot,.slice A7 x.phi.length k7] x/\Rd w' N rest' bad'/\w.grownBy w' (some N)/\zS vN (fun x=>vi x=true) rest bad x rest' bad'
def GetImg(N:Nat)(rest:List Int)(bad:Bool)(w:World)(e:Ending)(w':World):Prop:=
 ∃m h rest' bad',e= .returned (zv h m)/\zr (qL (old w) w') w'.heap.size h m/\Rd w' N rest' bad'/\w.grownBy w' (some N)/\zS ib iF rest bad m rest' bad'
structure PG(w wa w':World)(N:Nat)(T:TypeId)(cs ds:List Value)(Q:World->Prop)(r:List Int)(b:Bool):Prop where
 K:w'.heap[w.heap.size+1]? =some (.cells cs.toArray T (0,0))
 J:w'.heap[w.heap.size]? =some (.cells ds.toArray T (0,0))
 R:Rd w' N r b
 G:w.grownBy w' (some N)
 Z:wa.heap.size<=w'.heap.size
 S:wa.heap.size=w.heap.size+2
 lt:N<w.heap.size
 q:Q w'
 c1:∀W W1,Q W->W.grownBy W1 (some N)->Q W1
 c2:∀W (a:Addr) v,Q W->a.block<wa.heap.size->Q (W.setCell a v)
section
variable{w wa w' w1:World}{N:Nat}{T:TypeId}{cs ds:List Value}{Q:World->Prop}{r r1:List Int}{b b1:Bool}
theorem PG.start(h:Rd w N r b)(cs:List Value)(T:TypeId):PG w ((w.alloc (.cells cs.toArray T)).alloc (.cells cs.toArray T)) ((w.alloc (.cells cs.toArray T)).alloc (.cells cs.toArray T)) N T cs cs (fun _=>True) r b:=by
 have hW:Below w.heap.size w (w.alloc (.cells cs.toArray T)):=zk;have hs:(w.alloc (.cells cs.toArray T)).heap.size=w.heap.size+1:=by simp
 have hk:=Xz (w.alloc (.cells cs.toArray T)) (.cells cs.toArray T);rw[hs]at hk;exact⟨hk,(Below.heap_alloc _ _ _ (by rw[hs];omega)).trans (Xz _ _),(h.keep hW).keep (zk),dY (World.grownBy_alloc w _ (some N)) (World.grownBy_alloc _ _ (some N)),zn _,by simp,h.lt,Xs,fun _ _ _ _=>Xs,fun _ _ _ _ _=>Xs⟩
theorem PG.call(h:PG w wa w' N T cs ds Q r b)(hrd:Rd w1 N r1 b1)(hg:w'.grownBy w1 (some N)):PG w wa w1 N T cs ds Q r1 b1:=
 have:=h.lt
 ⟨wh h.K hg (by omega),wh h.J hg (by omega),hrd,dY h.G hg,Xe h.Z hg.size,h.S,h.lt,h.c1 _ _ h.q hg,h.c1,h.c2⟩
theorem PG.list{α:Type}{At:qV α}{k:Nat}{A:Option Addr}{cap:Nat}{l:List α}(h:PG w wa w' N T cs ds Q r b)(hK:Jz At)(hsl:zd At k (qL (old w') w1) w1.heap.size A cap l)(hrd:Rd w1 N r1 b1)(hg:w'.grownBy w1 (some N)):
  PG w wa w1 N T cs ds (fun W=>Q W/\zd At k (qL (old wa) W) W.heap.size A cap l) r1 b1:=
 have p:=h.call hrd hg;have:=h.lt;have:=h.S
 ⟨p.K,p.J,p.R,p.G,p.Z,p.S,p.lt,⟨p.q,aA hK hsl h.Z⟩,fun W W1 q g=>⟨h.c1 _ _ q.1 g,qbb hK q.2 g (by omega)⟩,fun W a v q g=>⟨h.c2 _ _ _ q.1 g,qj6 hK q.2 g v⟩⟩
theorem PG.put(h:PG w wa w' N T cs ds Q r b)(i:Nat)(v:Value):PG w wa (w'.setCell ⟨w.heap.size+1,i,none⟩ v) N T (cs.set i v) ds Q r b:=
 have:=h.lt;have:=h.S
 ⟨Us h.K v,Rb h.J (by show w.heap.size≠w.heap.size+1;omega) v,h.R.keep_to ((zb (w.heap.size+1) _).setCell (p:=⟨w.heap.size+1,i,none⟩) (zn _) v) (by omega),aC h.G (by show w.heap.size<=w.heap.size+1;omega) v,q0u h.Z _ _,h.S,h.lt,h.c2 _ _ _ h.q (by show w.heap.size+1<_;omega),h.c1,h.c2⟩
theorem PG.sets:∀(vs:List Value) (o:Nat) (w':World) (ds:List Value),PG w wa w' N T cs ds Q r b->∃ds',PG w wa (w'.setCells w.heap.size o vs) N T cs ds' Q r b
 | [],_,_,ds,h=>⟨ds,h⟩
 |v::vs,o,w',ds,h=>
  have:=h.lt;have:=h.S
  PG.sets vs (o+1) _ (ds.set o v) ⟨Rb h.K (by show w.heap.size+1≠w.heap.size;omega) v,Us h.J v,h.R.keep_to ((zb w.heap.size _).setCell (p:=⟨w.heap.size,o,none⟩) (zn _) v) h.lt,aC h.G (zn _) v,q0u h.Z _ _,h.S,h.lt,h.c2 _ _ _ h.q (by show w.heap.size<_;omega),h.c1,h.c2⟩
theorem PG.fin(h:PG w wa w' N T cs ds Q r b)(vs:List Value):Rd (w'.setCells w.heap.size 0 vs) N r b/\w.grownBy (w'.setCells w.heap.size 0 vs) (some N)/\Q (w'.setCells w.heap.size 0 vs)/\w.heap.size<=wa.heap.size:=by
 obtain⟨_,p⟩:=PG.sets vs 0 w' ds h;exact⟨p.R,p.G,p.q,by rw[p.S];omega⟩
theorem PG.at_(h:PG w wa w' N T cs ds Q r b){i:Nat}{v:Value}(hv:cs[i]? =some v):w'.cell? ⟨w.heap.size+1,i,none⟩=some v/\w'.frozen? ⟨w.heap.size+1,i,none⟩=false:=⟨zR h.K i v hv,zU h.K i⟩
theorem PG.cells(h:PG w wa w' N T cs ds Q r b):zQ w' (w.heap.size+1) cs/\zQ w' w.heap.size ds/\(∀i,w'.frozen? ⟨w.heap.size+1,i,none⟩=false)/\∀i,w'.frozen? ⟨w.heap.size,i,none⟩=false:=⟨fun i v hv=>zR h.K i v hv,fun i v hv=>zR h.J i v hv,fun i=>zU h.K i,fun i=>zU h.J i⟩
end
set_option maxHeartbeats 6400000 in
theorem qi7(N:Nat)(rest:List Int)(bad:Bool)(w:World)(hb:Bts rest)(h:Rd w N rest bad):
  Calls Tryz.prog 70 #[.pointer (some ⟨N,0,none⟩)] w (CGet N rest bad w):=by
 have HB:=zH hb;have P0:=zH (PG.start h [.int .i64 0,.slice none 0 0,.slice none 0 0] 60);clear hb h;go_enter Tryz.func70,Tryz.ntmps70;go_upto_region 2 with fail
 generalize(w.alloc (.cells #[.int .i64 0,.slice none 0 0,.slice none 0 0] 60)).alloc (.cells #[.int .i64 0,.slice none 0 0,.slice none 0 0] 60)=wa at*
 have hN2:w.heap.size+1<wa.heap.size:=by have:=P0.out.S;omega
 go_wp2_with(first
  |(go_at_call 79;(with_reducible refine(gU _ _ _ _ _ HB.out (by decide) (by decide) P0.out.R).mono ?_);rintro e w1 ⟨n,r1,b1,rfl,n1a,n1b,hrd,hg,hrel⟩;have P:=zH (P0.out.call hrd hg);obtain⟨q0,f0⟩:=P.out.at_ (i:=0) rfl;have P1:=zH (P.out.put 0 (.int .i64 (n - 1)));have kC:=zH hrel;clear P hrd hg hrel)
  |(go_at_call 71;(with_reducible refine(DJ (by decide) (zH kC.out.bts) (zH P1.out.R)).mono ?_);rintro e w2 ⟨A2,c2,f,r2,b2,rfl,hsl,hrd,hg,hrel⟩;have P:=zH (P1.out.list zf.mono hsl hrd hg);obtain⟨q1,f1⟩:=P.out.at_ (i:=1) rfl;have P2:=zH (P.out.put 1 (.slice A2 f.length c2));have HL2:=zH hrel;clear P hrd hg hrel hsl)
  |(go_at_call 77;(with_reducible refine(Ue (by decide) (zH HL2.out.bts) (zH P2.out.R)).mono ?_);rintro e w3 ⟨A3,c3,l,r3,b3,rfl,hsl,hrd,hg,hrel⟩;have P:=zH (P2.out.list zu.mono hsl hrd hg);obtain⟨hk,hj,fk,fj⟩:=P.out.cells;obtain⟨q0,q1,q2⟩:=qv hk;obtain⟨p0,p1,p2⟩:=qv hj;clear hk hj;have P3:=zH (P.out.put 2 (.slice A3 l.length c3));have QH:=zH hrel;clear P hrd hg hrel hsl))
 obtain⟨F1,F2,F3,F4⟩:=P3.out.fin [.int .i64 (n - 1),.slice A2 f.length c2,.slice A3 l.length c3];refine Xk (v:= .agg #[.int .i64 (n - 1),.slice A2 f.length c2,.slice A3 l.length c3]) (by simp[results,Tryz.results70,go_sem,p0,p1,p2]) rfl ?_;obtain⟨⟨_,s1⟩,s2⟩:=F3;refine⟨⟨n - 1,f,l⟩,A2,c2,A3,c3,r3,b3,rfl,⟨A2,c2,A3,c3,rfl,?_,?_,by dsimp only;omega,by dsimp only;omega⟩,F1,F2,zS.cls n1a kC.out HL2.out QH.out⟩
 ·rw[Vv];exact aA zf.mono s1 F4
 ·rw[Vv];exact aA zu.mono s2 F4
set_option maxHeartbeats 1600000 in
theorem q45:GLs 69 70 vw 3 kw (fun c=>Qa c=true):=by
 intro N most rest bad w hm hb h;have D:GD ni vw 3 56 60 23 kw (fun c=>Qa c=true):=⟨pJ (by kernel_rfl),Tryz.underlying23,ni.mono,ni.at_⟩
 go_enter Tryz.func69,Tryz.ntmps69;exact lfG
set_option maxHeartbeats 6400000 in
theorem qfc(N:Nat)(rest:List Int)(bad:Bool)(w:World)(hb:Bts rest)(h:Rd w N rest bad):
  Calls Tryz.prog 76 #[.pointer (some ⟨N,0,none⟩)] w (MGet N rest bad w):=by
 have HB:=zH hb;have P0:=zH (PG.start h [.slice none 0 0,.slice none 0 0,.int .i64 0,.int .i64 0,.slice none 0 0,.int .i64 0,.int .i64 0,.slice none 0 0] 48);clear hb h;go_enter Tryz.func76,Tryz.ntmps76;go_upto_region 2 with fail
 generalize(w.alloc (.cells #[.slice none 0 0,.slice none 0 0,.int .i64 0,.int .i64 0,.slice none 0 0,.int .i64 0,.int .i64 0,.slice none 0 0] 48)).alloc (.cells #[.slice none 0 0,.slice none 0 0,.int .i64 0,.int .i64 0,.slice none 0 0,.int .i64 0,.int .i64 0,.slice none 0 0] 48)=wa at*
 have hN2:w.heap.size+1<wa.heap.size:=by have:=P0.out.S;omega
 go_wp2_with(first
  |(go_at_call 71;(with_reducible refine(DJ (by decide) HB (zH P0.out.R)).mono ?_);rintro e w1 ⟨A1,c1,a,r1,b1,rfl,hsl,hrd,hg,hrel⟩;have P:=zH (P0.out.list zf.mono hsl hrd hg);obtain⟨q0,f0⟩:=P.out.at_ (i:=0) rfl;have P1:=zH (P.out.put 0 (.slice A1 a.length c1));have kC:=zH hrel;clear P hrd hg hrel hsl)
  |(go_at_call 71;(with_reducible refine(DJ (by decide) (zH kC.out.bts) (zH P1.out.R)).mono ?_);rintro e w2 ⟨A2,c2,l,r2,b2,rfl,hsl,hrd,hg,hrel⟩;have P:=zH (P1.out.list zf.mono hsl hrd hg);obtain⟨q1,f1⟩:=P.out.at_ (i:=1) rfl;have P2:=zH (P.out.put 1 (.slice A2 l.length c2));have HL2:=zH hrel;clear P hrd hg hrel hsl)
  |(go_at_call 72;(with_reducible refine(UJ N _ _ _ HL2.out.bts P2.out.R).mono ?_);rintro e w3 ⟨t,r3,b3,rfl,hrd,hg,hrel⟩;have P:=zH (P2.out.call hrd hg);obtain⟨q2,f2⟩:=P.out.at_ (i:=2) rfl;obtain⟨q3,f3⟩:=P.out.at_ (i:=3) rfl;have P3:=zH ((P.out.put 2 (.int .i64 t.1)).put 3 (.int .i64 t.2));have QH:=zH hrel;clear P hrd hg hrel)
  |(go_at_call 121;(with_reducible refine(qdb (by decide) (zH QH.out.bts) (zH P3.out.R)).mono ?_);rintro e w4 ⟨A4,c4,c,r4,b4,rfl,hsl,hrd,hg,hrel⟩;have P:=zH (P3.out.list ju.mono hsl hrd hg);obtain⟨q4,f4⟩:=P.out.at_ (i:=4) rfl;have P4:=zH (P.out.put 4 (.slice A4 c.length c4));have JE:=zH hrel;clear P hrd hg hrel hsl)
  |(go_at_call 79;(with_reducible refine(gU _ _ _ _ _ JE.out.bts (by decide) (by decide) P4.out.R).mono ?_);rintro e w5 ⟨d,r5,b5,rfl,n5a,n5b,hrd,hg,hrel⟩;have P:=zH (P4.out.call hrd hg);obtain⟨q5,f5⟩:=P.out.at_ (i:=5) rfl;have P5:=zH (P.out.put 5 (.int .i64 d));have qh:=zH hrel;clear P hrd hg hrel)
  |(go_at_call 123;(with_reducible refine(U2 N _ _ _ qh.out.bts P5.out.R).mono ?_);rintro e w6 ⟨p,r6,b6,rfl,n6a,n6b,hrd,hg,hrel⟩;have P:=zH (P5.out.call hrd hg);obtain⟨q6,f6⟩:=P.out.at_ (i:=6) rfl;have P6:=zH (P.out.put 6 (.int .i64 p));have bG:=zH hrel;clear P hrd hg hrel)
  |(go_at_call 77;(with_reducible refine(qda (by decide) (zH bG.out.bts) (zH P6.out.R)).mono ?_);rintro e w7 ⟨A7,c7,f,r7,b7,rfl,hsl,hrd,hg,hrel⟩;have P:=zH (P6.out.list zu.mono hsl hrd hg);obtain⟨hk,hj,fk,fj⟩:=P.out.cells;obtain⟨q0,q1,q2,q3,q4,q5,q6,q7⟩:=qp hk;obtain⟨p0,p1,p2,p3,p4,p5,p6,p7⟩:=qp hj;clear hk hj;have P7:=zH (P.out.put 7 (.slice A7 f.length c7));have ol:=zH hrel;clear P hrd hg hrel hsl))
 obtain⟨F1,F2,F3,F4⟩:=P7.out.fin [.slice A1 a.length c1,.slice A2 l.length c2,.int .i64 t.1,.int .i64 t.2,.slice A4 c.length c4,.int .i64 d,.int .i64 p,.slice A7 f.length c7];refine Xk (v:= .agg #[.slice A1 a.length c1,.slice A2 l.length c2,.int .i64 t.1,.int .i64 t.2,.slice A4 c.length c4,.int .i64 d,.int .i64 p,.slice A7 f.length c7]) (by simp[results,Tryz.results76,go_sem,p0,p1,p2,p3,p4,p5,p6,p7]) rfl ?_;obtain⟨⟨⟨⟨_,s1⟩,s2⟩,s3⟩,s4⟩:=F3;refine⟨⟨a,l,t,c,d,p,f⟩,A1,c1,A2,c2,A4,c4,A7,c7,r7,b7,rfl,⟨A1,c1,A2,c2,A4,c4,A7,c7,rfl,?_,?_,?_,?_⟩,F1,F2,zS.mth kC.out HL2.out QH.out JE.out qh.out bG.out ol.out⟩
 ·rw[Vv];exact aA zf.mono s1 F4
 ·rw[Vv];exact aA zf.mono s2 F4
 ·rw[Vv];exact aA ju.mono s3 F4
 ·rw[Vv];exact aA zu.mono s4 F4
set_option maxHeartbeats 1600000 in
theorem q44:GLs 75 76 kd 8 vN (fun x=>vi x=true):=by
 intro N most rest bad w hm hb h;have D:GD ng kd 8 128 48 26 vN (fun x=>vi x=true):=⟨pJ (by kernel_rfl),Tryz.underlying26,ng.mono,ng.at_⟩
 go_enter Tryz.func75,Tryz.ntmps75;exact lfG
set_option maxHeartbeats 6400000 in
theorem qhi(N:Nat)(rest:List Int)(bad:Bool)(w:World)(hb:Bts rest)(h:Rd w N rest bad):
  Calls Tryz.prog 46 #[.pointer (some ⟨N,0,none⟩)] w (GetImg N rest bad w):=by
 have HB:=zH hb;have P0:=zH (PG.start h [.slice none 0 0,.slice none 0 0,.slice none 0 0,.slice none 0 0,.slice none 0 0,.int .i64 0,.int .i64 0] 29);clear hb h;go_enter Tryz.func46,Tryz.ntmps46;go_upto_region 2 with fail
 generalize(w.alloc (.cells #[.slice none 0 0,.slice none 0 0,.slice none 0 0,.slice none 0 0,.slice none 0 0,.int .i64 0,.int .i64 0] 29)).alloc (.cells #[.slice none 0 0,.slice none 0 0,.slice none 0 0,.slice none 0 0,.slice none 0 0,.int .i64 0,.int .i64 0] 29)=wa at*
 have hN2:w.heap.size+1<wa.heap.size:=by have:=P0.out.S;omega
 go_wp2_with(first
  |(go_at_call 69;(with_reducible refine(q45 (by decide) HB (zH P0.out.R)).mono ?_);rintro e w1 ⟨A1,c1,cl,r1,b1,rfl,hsl,hrd,hg,hrel⟩;have P:=zH (P0.out.list vw.mono hsl hrd hg);obtain⟨q0,f0⟩:=P.out.at_ (i:=0) rfl;have P1:=zH (P.out.put 0 (.slice A1 cl.length c1));have kC:=zH hrel;clear P hrd hg hrel hsl)
  |(go_at_call 71;(with_reducible refine(DJ (by decide) (zH kC.out.bts) (zH P1.out.R)).mono ?_);rintro e w2 ⟨A2,c2,st,r2,b2,rfl,hsl,hrd,hg,hrel⟩;have P:=zH (P1.out.list zf.mono hsl hrd hg);obtain⟨q1,f1⟩:=P.out.at_ (i:=1) rfl;have P2:=zH (P.out.put 1 (.slice A2 st.length c2));have HL2:=zH hrel;clear P hrd hg hrel hsl)
  |(go_at_call 73;(with_reducible refine(q8g (by decide) (zH HL2.out.bts) (zH P2.out.R)).mono ?_);rintro e w3 ⟨A3,c3,it,r3,b3,rfl,hsl,hrd,hg,hrel⟩;have P:=zH (P2.out.list Jt.mono hsl hrd hg);obtain⟨q2,f2⟩:=P.out.at_ (i:=2) rfl;have P3:=zH (P.out.put 2 (.slice A3 it.length c3));have QH:=zH hrel;clear P hrd hg hrel hsl)
  |(go_at_call 75;(with_reducible refine(q44 (by decide) (zH QH.out.bts) (zH P3.out.R)).mono ?_);rintro e w4 ⟨A4,c4,me,r4,b4,rfl,hsl,hrd,hg,hrel⟩;have P:=zH (P3.out.list kd.mono hsl hrd hg);obtain⟨q3,f3⟩:=P.out.at_ (i:=3) rfl;have P4:=zH (P.out.put 3 (.slice A4 me.length c4));have JE:=zH hrel;clear P hrd hg hrel hsl)
  |(go_at_call 77;(with_reducible refine(Ue (by decide) (zH JE.out.bts) (zH P4.out.R)).mono ?_);rintro e w5 ⟨A5,c5,en,r5,b5,rfl,hsl,hrd,hg,hrel⟩;have P:=zH (P4.out.list zu.mono hsl hrd hg);obtain⟨q4,f4⟩:=P.out.at_ (i:=4) rfl;have P5:=zH (P.out.put 4 (.slice A5 en.length c5));have qh:=zH hrel;clear P hrd hg hrel hsl)
  |(go_at_call 79;(with_reducible refine(gU _ _ _ _ _ qh.out.bts (by decide) (by decide) P5.out.R).mono ?_);rintro e w6 ⟨sk,r6,b6,rfl,n6a,n6b,hrd,hg,hrel⟩;have P:=zH (P5.out.call hrd hg);obtain⟨q5,f5⟩:=P.out.at_ (i:=5) rfl;have P6:=zH (P.out.put 5 (.int .i64 sk));have bG:=zH hrel;clear P hrd hg hrel)
  |(go_at_call 79;(with_reducible refine(gU _ _ _ _ _ bG.out.bts (by decide) (by decide) P6.out.R).mono ?_);rintro e w7 ⟨hp,r7,b7,rfl,n7a,n7b,hrd,hg,hrel⟩;have P:=zH (P6.out.call hrd hg);obtain⟨hk,hj,fk,fj⟩:=P.out.cells;obtain⟨q0,q1,q2,q3,q4,q5,q6⟩:=ck7 hk;obtain⟨p0,p1,p2,p3,p4,p5,p6⟩:=ck7 hj;clear hk hj;have P7:=zH (P.out.put 6 (.int .i64 hp));have ol:=zH hrel;clear P hrd hg hrel))
 obtain⟨F1,F2,F3,F4⟩:=P7.out.fin [.slice A1 cl.length c1,.slice A2 st.length c2,.slice A3 it.length c3,.slice A4 me.length c4,.slice A5 en.length c5,.int .i64 sk,.int .i64 hp];refine Xk (v:= .agg #[.slice A1 cl.length c1,.slice A2 st.length c2,.slice A3 it.length c3,.slice A4 me.length c4,.slice A5 en.length c5,.int .i64 sk,.int .i64 hp]) (by simp[results,Tryz.results46,go_sem,p0,p1,p2,p3,p4,p5,p6]) rfl ?_;obtain⟨⟨⟨⟨⟨_,s1⟩,s2⟩,s3⟩,s4⟩,s5⟩:=F3;exact⟨⟨cl,st,it,me,en,sk,hp⟩,⟨A1,A2,A3,A4,A5,c1,c2,c3,c4,c5⟩,r7,b7,rfl,⟨aA vw.mono s1 F4,aA zf.mono s2 F4,aA Jt.mono s3 F4,aA kd.mono s4 F4,aA zu.mono s5 F4⟩,F1,F2,zS.img kC.out HL2.out QH.out JE.out qh.out bG.out ol.out⟩

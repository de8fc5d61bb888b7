import PyProof.Rows.All
import KE.KTabLook
import KE.KLam
import Wide.All
import OpenK.AllK
import Wide.FinOn
import Lean
import PyProof.EqAt
import PyProof.EqKinds
import PyProof.TupleCall
import PySem.Challenge.RW_bentwires_k61_ticks
set_option compiler.extract_closed false
set_option maxHeartbeats 3900000
set_option maxRecDepth 100000
set_option Elab.async false
set_option linter.all false
open PySem.W(Frag keepIn nsIn fnOf kitOne CodeHd tabIn kqdOk Dat)
noncomputable section
abbrev bz:=@List.length_map
abbrev bQ:=@List.length_append
abbrev ck:=@Nat.le_refl
abbrev cE:=@List.getElem?_eq_getElem
abbrev cF:=@List.getD_eq_getElem?_getD
abbrev cV:=@List.length_take
abbrev cW:=@List.map_append
abbrev cZ:=@List.mem_cons_self
abbrev dj:=@Option.some.inj
abbrev dm:=@List.size_toArray
abbrev dq:=@List.append_assoc
abbrev dB:=@PySem.W.mg_of
abbrev dG:=@PySem.Heap.lt_size
abbrev dH:=@PySem.Heap.get?_push_of_some
abbrev dI:=@List.mem_singleton
abbrev dS:=@List.mem_cons
abbrev dU:=@List.mem_map
abbrev dZ:=@List.mem_append
abbrev ee:=@List.length_replicate
abbrev eF:=@List.length_cons
abbrev eI:=@List.getElem?_map
abbrev eJ:=@List.length_drop
abbrev fe:=@Int.one_mul
abbrev ft:=@Nat.le_trans
abbrev fu:=@List.mem_cons_of_mem
abbrev gi:=@List.getElem?_eq_some_iff
abbrev gj:=@List.mem_of_getElem?
abbrev gq:=@List.take_add_one
abbrev gy:=@Bool.false_ne_true
abbrev gz:=@List.getElem?_append_left
abbrev gP:=@Bool.and_eq_true
abbrev gX:=@Nat.ne_of_lt
abbrev gY:=@List.append_nil
abbrev gZ:=@List.getElem?_append_right
abbrev ij:=@PySem.Heap.get?_push_size
abbrev ip:=@Nat.lt_of_lt_of_le
abbrev iU:=@List.mem_append_right
abbrev iV:=@List.getElem?_eq_none
abbrev jh:=@List.getElem_mem
abbrev ji:=@PySem.F.plainAttrs_list
abbrev jR:=@Int.emod_nonneg
abbrev jS:=@Int.emod_lt_of_pos
abbrev jT:=@Int.dvd_sub
abbrev jU:=@List.mem_of_mem_take
abbrev jV:=@Nat.add_assoc
abbrev kq:=@List.take_length
abbrev kr:=@PySem.PassesOwn.never
abbrev lD:=@List.mem_filter
abbrev lE:=@List.mem_of_mem_drop
abbrev lH:=@PySem.W.mg_none_of
abbrev mh:=@List.mem_append_left
abbrev mi:=@Nat.zero_le
abbrev mj:=@Int.mul_comm
abbrev ml:=@List.length_range
abbrev mn:=@PySem.F.slot_list_append
abbrev mq:=@PySem.F.type_list_append
abbrev nK:=@List.mem_range
abbrev nL:=@PySem.W.kia_one
abbrev nM:=@PySem.mem_of_lookup
abbrev nN:=@List.replicate_succ
abbrev nO:=@List.map_cons
abbrev nP:=@PySem.Heap.SameBut.update
abbrev nQ:=@List.take_of_length_le
abbrev oO:=@Nat.le_of_lt
abbrev oP:=@Nat.le_add_right
abbrev oQ:=@Int.zero_add
abbrev oR:=@Int.dvd_add
abbrev pU:=@List.length_nil
abbrev qB:=@Nat.add_comm
abbrev qC:=@List.lookup_cons
abbrev qD:=@PySem.Heap.size_push
abbrev qE:=@List.all_eq_true
abbrev qF:=@PySem.AutoSeq1.wpAny_loadPart'
abbrev qG:=@Int.sub_zero
abbrev sG:=@Nat.lt_irrefl
abbrev sH:=@PySem.Heap.get?_update_self
abbrev sJ:=@List.flatten_cons
abbrev sM:=@List.mem_iff_getElem
abbrev sN:=@List.filter_append
abbrev sO:=@List.filter_nil
abbrev vb:=@List.of_mem_zip
abbrev vc:=@List.getElem?_replicate
abbrev vd:=@Int.dvd_mul_of_dvd_right
abbrev ve:=@List.length_take_le
abbrev vf:=@Nat.min_eq_left
abbrev vg:=@List.eq_of_mem_replicate
abbrev vh:=@List.dropLast_concat_getLast
abbrev xM:=@PyProof.Rows.slot_tuple_getitem
abbrev xN:=@List.filter_cons_of_pos
abbrev xO:=@List.getD_cons_zero
abbrev xP:=@List.getD_cons_succ
abbrev BE:=@PyProof.Rows.callWith_type1
abbrev BF:=@PySem.W.cellsFrom_some
abbrev BG:=@List.filter_cons_of_neg
abbrev BH:=@PySem.F.slot_list_pop
abbrev BI:=@PySem.F.type_list_pop
abbrev BJ:=@List.length_filter_le
abbrev FO:=@PySem.F.slot_tuple_iterator_next
abbrev FP:=@Int.mul_le_mul_of_nonneg_left
abbrev aa:=@decide_eq_false
abbrev ae:=@if_pos
abbrev ah:=@if_neg
abbrev ai:=@PySem.wpAny_mono
abbrev aj:=@PySem.wpAny_truthy_bool
abbrev ao:=@congrArg
abbrev aq:=@PySem.wpAny_bind
abbrev ar:=@PySem.wpAny_holding
abbrev au:=@PySem.wpAny_passesOwn
abbrev av:=@PySem.wpAny_pure
abbrev ax:=@PySem.wpAny_Call_Name_kw
abbrev ay:=@PySem.wpAny_newFunctionEnv_cells
abbrev az:=@PySem.wpAny_callSpecial?_slot
abbrev aA:=@PySem.wpAny_call_entry
abbrev aC:=@PySem.wpAny_newObj_type
abbrev aD:=@PySem.call_meets
abbrev aE:=@decide_eq_true
abbrev aF:=@PySem.wpAny_ite_false
abbrev aG:=@decide_eq_true_eq
abbrev aH:=@of_decide_eq_true
abbrev Kp(K:Frag)(f:PySem.Addr):Prop:=keepIn K (.ref f)=true
abbrev Mg(m:PySem.Str→Option PySem.Value)(x:PySem.Str)(f:PySem.Addr):Prop:=m x=some (.ref f)
abbrev QV:=PySem.Value→PySem.Shared→Prop
abbrev LL:=List (List Int)
variable{P:PySem.Program}{w:PySem.World}{K:Frag}{mg:PySem.Str→Option PySem.Value}{base:PySem.Heap}
namespace L2
open PySem PySem.Spec PyProof.Rows
variable{A:Around}{D:Ends}{E:QV}{H:Hp}{M:Model}{Q:Unit→Shared→Prop}{X:Cx}{a b:Addr}{body:List Stmt}{c e tg:Expr}{ch fp:List Addr}{f:Value→Value→Sem Value}{g:TG}{h:Heap}{i t':Nat}{o:Obj}{op:CmpOp}{aI:List (Addr×Obj)}{s:Shared}{tb:TS}{u:Value}{us:List Value}{v:V}{x:Str}{xs:List V}{σ:St}
abbrev Key:=Sum Int Str
noncomputable def sP:Key→Value→Bool
 | .inl k,v=>Value.isInt k v
 | .inr x,v=>Value.isStrOf x v
noncomputable def NT(w:World):Key→Int
 | .inl k=>hashInt k
 | .inr x=>hashStr w x
theorem oS:∀{k:Key}{v:Value},sP k v=true→(∃i t,k=Sum.inl i∧v=Value.int i t)∨(∃x t,k=Sum.inr x∧v=Value.str x t)
 | .inl i,v,h=>by
  obtain⟨t,e⟩:=Value.isInt_shape (k:=i) (v:=v) h;exact .inl ⟨i,t,rfl,e⟩
 | .inr x,v,h=>by
  obtain⟨t,e⟩:=Value.isStrOf_shape (x:=x) (v:=v) h;exact .inr ⟨x,t,rfl,e⟩
theorem NU(i:Int)(t:Tok):sP (.inl i) (.int i t)=true:=by simp[sP,Value.isInt]
theorem NV(x:Str)(t:Tok):sP (.inr x) (.str x t)=true:=by simp[sP,Value.isStrOf]
theorem NW(a b:Int):decide ((Sum.inl a:Key)=Sum.inl b)=(a==b):=by
 by_cases e:a=b
 ·subst e;simp
 ·have h:¬(Sum.inl a:Key)=Sum.inl b:=λq=>e (Sum.inl.inj q);rw[aa h];exact(beq_eq_false_iff_ne.mpr e).symm
theorem NX(a b:Str):decide ((Sum.inr a:Key)=Sum.inr b)=decide (a=b):=by
 by_cases e:a=b
 ·subst e;simp
 ·have h:¬(Sum.inr a:Key)=Sum.inr b:=λq=>e (Sum.inr.inj q);rw[aa h,aa e]
theorem NY(a:Int)(b:Str):decide ((Sum.inl a:Key)=Sum.inr b)=false:=aa (λq=>nomatch q)
theorem NZ(a:Str)(b:Int):decide ((Sum.inr a:Key)=Sum.inl b)=false:=aa (λq=>nomatch q)
noncomputable def jW(prog:Program)(w:World):PySem.KeyKind prog w Key where
 is:=sP
 hash:=NT w
 inj:=λv a b ha hb=>by
  rcases oS ha with⟨i,t,rfl,rfl⟩|⟨x,t,rfl,rfl⟩
  ·rcases oS hb with⟨j,u,rfl,e⟩|⟨y,u,rfl,e⟩
   ·injection e with e1 _;rw[e1]
   ·exact nomatch e
  ·rcases oS hb with⟨j,u,rfl,e⟩|⟨y,u,rfl,e⟩
   ·exact nomatch e
   ·injection e with e1 _;rw[e1]
 byValue:=λk v h=>by
  rcases oS h with⟨i,t,rfl,rfl⟩|⟨x,t,rfl,rfl⟩<;>rfl
 pyHash:=λhv h=>by
  rcases oS hv with⟨i,t,rfl,rfl⟩|⟨x,t,rfl,rfl⟩
  ·exact wpAny_pyHash_int h
  ·exact wpAny_pyHash_str h
 eqBool:=λhu hv h=>by
  rcases oS hu with⟨i,t,rfl,rfl⟩|⟨x,t,rfl,rfl⟩
  ·rcases oS hv with⟨j,u,rfl,rfl⟩|⟨y,u,rfl,rfl⟩
   ·rw[NW]at h;exact wpAny_eqBool_int h
   ·rw[NY]at h;exact SeqAt.EqAt.int_str i t y u _ _ _ _ h
  ·rcases oS hv with⟨j,u,rfl,rfl⟩|⟨y,u,rfl,rfl⟩
   ·rw[NZ]at h;exact SeqAt.EqAt.str_int x t j u _ _ _ _ h
   ·rw[NX]at h;exact wpAny_eqBool_str h
 «strs»:=λk x t v h=>by
  rcases oS h with⟨i,u,rfl,e⟩|⟨y,u,rfl,e⟩
  ·exact nomatch e
  ·injection e with e1 _;subst e1;cases v<;>rfl
theorem N0(prog:Program)(w:World)(i:Int)(t:Tok):(jW prog w).is (.inl i) (.int i t)=true:=NU i t
theorem N1(prog:Program)(w:World)(x:Str)(t:Tok):(jW prog w).is (.inr x) (.str x t)=true:=NV x t
inductive V where
 |cI|bl (b:Bool)|int (i:Int)|str (x:Str)|ku (b:Array UInt8)|sQ (b:UInt64)|ref (a:Addr)|ty (n:String)
 deriving DecidableEq
def RelV:V→Value→Prop
 | .cI,u=>u=Value.none
 | .bl b,u=>u=Value.bool b
 | .int i,u=>∃t,u=Value.int i t
 | .str x,u=>∃t,u=Value.str x t
 | .ku b,u=>∃t,u=Value.bytes b t
 | .sQ b,u=>∃t,u=Value.float b t
 | .ref a,u=>u=Value.ref a
 | .ty n,u=>u=Value.type n
abbrev Vals:List V→List Value→Prop:=Paired RelV
theorem Vals.length{xs:List V}{us:List Value}(r:Vals xs us):xs.length=us.length:=Paired.length r
theorem Vals.get:∀{xs:List V}{us:List Value}{i:Nat}{x:V},Vals xs us→xs[i]?=some x→∃u,us[i]?=some u∧RelV x u
 |_,_,_,_,.nil,e=>by simp at e
 |_,_,0,_,.cons r _,e=>by simp at e;subst e;exact⟨_,rfl,r⟩
 |_,_,i+1,x,.cons _ t,e=>by
  obtain⟨u,h1,h2⟩:=Vals.get (i:=i) (x:=x) t (by simpa using e);exact⟨u,by simpa using h1,h2⟩
theorem Vals.set{x:V}{u:Value}(r:RelV x u):∀{xs:List V}{us:List Value}(i:Nat),Vals xs us→Vals (xs.set i x) (us.set i u)
 |_,_,_,.nil=>.nil
 |_,_,0,.cons _ t=>.cons r t
 |_,_,i+1,.cons q t=>.cons q (Vals.set r i t)
theorem Vals.append:∀{xs ys:List V}{us ws:List Value},Vals xs us→Vals ys ws→Vals (xs++ys) (us++ws)
 |_,_,_,_,.nil,s=>s
 |_,_,_,_,.cons r t,s=>.cons r (Vals.append t s)
theorem Vals.take:∀{xs:List V}{us:List Value}(n:Nat),Vals xs us→Vals (xs.take n) (us.take n)
 |_,_,0,_=>.nil
 |_,_,_+1,.nil=>.nil
 |_,_,n+1,.cons r t=>.cons r (Vals.take n t)
theorem Vals.drop:∀{xs:List V}{us:List Value}(n:Nat),Vals xs us→Vals (xs.drop n) (us.drop n)
 |_,_,0,r=>r
 |_,_,_+1,.nil=>.nil
 |_,_,n+1,.cons _ t=>Vals.drop n t
def mr:Option V→Option Value→Prop
 |some v,some u=>RelV v u
 |none,none=>True
 |_,_=>False
def KV{κ:Type}:List (κ×V)→List (κ×Value)→Prop:=Paired λ(p:κ×V)(q:κ×Value)=>p.1=q.1∧RelV p.2 q.2
noncomputable def kV:Key→V
 | .inl i=>.int i
 | .inr x=>.str x
inductive HO where
 |lst (xs:List V)
 |tup (xs:List V)
 |dK (aV:List (Key×V))|dT (aV:List (List Key×V))
 |set (S:Int→Bool) (n:Nat)
 |ins (C dx:Addr) (fs:List (Str×V))
 |own (x:Addr)
 |xd (fs:List (Str×V))
 |met (f x:Addr)
 |BK (lo hi:Int)
 |iW (o:Obj) (u:HO)
 |eK (ps:Array Value)
 |ext (φ:Heap→Prop)
abbrev Hp:=Addr→Option HO
noncomputable def upd(H:Hp)(a:Addr)(o:HO):Hp:=λb=>if b=a then some o else H b
theorem aX{o:HO}:upd H a o a=some o:=by unfold upd;rw[ae rfl]
theorem cn{o:HO}(h:b≠a):upd H a o b=H b:=by unfold upd;rw[ah h]
theorem N2{o u:HO}(h:H a=some o)(h':H b=some u)(d:o≠u):a≠b:=by
 intro e;subst e;rw[h]at h';exact d (dj h')
theorem eT{o:HO}(h:H a=some o)(h':H b=none):a≠b:=by
 intro e;subst e;rw[h]at h';cases h'
def nR(h:Heap)(a:Addr)(items:Array Value):Prop:=∃o,h.get? a=some o∧o.cls=.type "tuple"∧o.dict=none∧∃n,o.data=.seq items n
theorem nR.tup{items:Array Value}(x:nR h a items):IsTup h a items:=let ⟨o,e,c,_,n,d⟩:=x;⟨o,e,c,n,d⟩
theorem nR.new(h:Heap)(items:Array Value):nR (h.push { cls:=.type "tuple",data:=.seq items }) h.objs.size items:=⟨_,ij _ rfl,rfl,rfl,_,rfl⟩
section
variable(P:Program)(w:World)
def dW(H:Hp)(h:Heap)(a:Addr):HO→Prop
 | .lst xs=>xs.length≤sizeLine∧∃(its:List Value)(n:Nat),Vals xs its∧h.get? a=some { cls:=.type "list",data:=.seq its.toArray n }
 | .tup xs=>xs.length≤sizeLine∧∃its:List Value,Vals xs its∧nR h a its.toArray
 | .dK aV=>aV.length≤sizeLine∧(a==sysModules)=false∧∃vs,KV aV vs∧h.DictOf (jW P w) a vs
 | .dT aV=>aV.length≤sizeLine∧(a==sysModules)=false∧∃xs:List (List Key×Addr×Value),
   Paired (λ(p:List Key×V)(q:List Key×Addr×Value)=>p.1=q.1∧H q.2.1=some (.tup (p.1.map kV))∧RelV p.2 q.2.2) aV xs∧
   ∃o es ep,h.get? a=some o∧o.ExactDict∧o.data=.dict es ep∧es.toList=xs.map (entryOfKey (tupleKind (jW P w)))∧(xs.map (·.1)).Nodup
 | .set S n=>h.SetOf (intKind P w) a S n
 | .ins C dx fs=>H dx=some (.own a)∧fs.length≤1000∧dx≠a∧h.get? a=some (PySem.W.instObj C dx)∧
   ∃mA,h.Ns1 dx mA∧(∀f,mr (fs.lookup f) (mA f))∧PySem.Within mA (fs.map (·.1))
 | .own _=>∃o,h.get? a=some o
 | .xd fs=>∃mA,h.Ns1 a mA∧∀f,mr (fs.lookup f) (mA f)
 | .BK lo hi=>∃t u v,h.get? a=some { cls:=.type "range",data:=.fields #[.int lo t,.int hi u,.int 1 v] }
 | .iW o u=>h.get? a=some o∧dW H h a u
 | .eK ps=>h.get? a=some { cls:=.none,data:=.fields ps }
 | .met f x=>h.get? a=some (PySem.W.methodObj (.ref f) (.ref x))
 | .ext φ=>φ h∧(∃o,h.get? a=some o)∧∀h1 h2:Heap,φ h1→(∀o,h1.get? a=some o→h2.get? a=some o)→φ h2
def eh(H:Hp)(h:Heap):Prop:=∀a o,H a=some o→dW P w H h a o
end
section
variable{P:Program}{w:World}{H H':Hp}{h h':Heap}{a:Addr}{o:HO}
theorem dW.lt(x:dW P w H h a o):a<h.objs.size:=by
 cases o with
 |lst xs=>obtain⟨_,_,_,_,e⟩:=x;exact dG e
 |tup xs=>obtain⟨_,_,_,p⟩:=x;exact p.tup.lt
 |dK aV=>obtain⟨_,_,_,_,o,_,_,e,_⟩:=x;exact dG e
 |dT aV=>obtain⟨_,_,_,_,o,_,_,e,_⟩:=x;exact dG e
 |set S n=>obtain⟨o,_,_,_,e,_⟩:=x;exact dG e
 |ins C dx fs=>obtain⟨_,_,_,e,_⟩:=x;exact dG e
 |own y=>obtain⟨_,e⟩:=x;exact dG e
 |xd fs=>obtain⟨_,⟨_,_,_,e,_⟩,_⟩:=x;exact dG e
 |BK lo hi=>obtain⟨_,_,_,e⟩:=x;exact dG e
 |iW ob u=>obtain⟨e,_⟩:=x;exact dG e
 |eK ps=>exact dG (show h.get? a=some _ from x)
 |met f y=>exact dG (show h.get? a=some _ from x)
 |ext φ=>obtain⟨_,⟨_,e⟩,_⟩:=x;exact dG e
theorem Paired.BL{α β:Type}{F G:α→β→Prop}:∀{l₁:List α}{l₂:List β},Paired F l₁ l₂→(∀a b,F a b→G a b)→Paired G l₁ l₂
 |_,_,.nil,_=>.nil
 |_,_,.cons r t,f=>.cons (f _ _ r) (Paired.BL t f)
theorem dW.oT(x:dW P w H h a o)(k:∀b u,(b=a∨H b=some (.own a))→h.get? b=some u→h'.get? b=some u)
  (ho:∀b,H b=some (.own a)→H' b=some (.own a)) (ht:∀b xs,H b=some (.tup xs)→H' b=some (.tup xs)):dW P w H' h' a o:=by
 induction o with
 |lst xs=>obtain⟨z,its,n,r,e⟩:=x;exact⟨z,its,n,r,k _ _ (.inl rfl) e⟩
 |tup xs=>obtain⟨z,its,r,ob,e,c⟩:=x;exact⟨z,its,r,ob,k _ _ (.inl rfl) e,c⟩
 |dK aV=>obtain⟨z,y,vs,r,ob,es,ep,e,c⟩:=x;exact⟨z,y,vs,r,ob,es,ep,k _ _ (.inl rfl) e,c⟩
 |dT aV=>
  obtain⟨z,y,xs,r,ob,es,ep,e,c⟩:=x;exact⟨z,y,xs,Paired.BL r λp q z=>⟨z.1,ht _ _ z.2.1,z.2.2⟩,ob,es,ep,k _ _ (.inl rfl) e,c⟩
 |set S n=>obtain⟨ob,es,ep,t,e,c⟩:=x;exact⟨ob,es,ep,t,k _ _ (.inl rfl) e,c⟩
 |ins C dx fs=>
  obtain⟨d,z,ne,e,mA,⟨od,es,ep,e2,c⟩,r⟩:=x;exact⟨ho _ d,z,ne,k _ _ (.inl rfl) e,mA,⟨od,es,ep,k _ _ (.inr d) e2,c⟩,r⟩
 |own y=>obtain⟨ob,e⟩:=x;exact⟨ob,k _ _ (.inl rfl) e⟩
 |xd fs=>obtain⟨mA,⟨od,es,ep,e,c⟩,r⟩:=x;exact⟨mA,⟨od,es,ep,k _ _ (.inl rfl) e,c⟩,r⟩
 |BK lo hi=>obtain⟨t,u,v,e⟩:=x;exact⟨t,u,v,k _ _ (.inl rfl) e⟩
 |iW ob u ih=>obtain⟨e,q⟩:=x;exact⟨k _ _ (.inl rfl) e,ih q⟩
 |eK ps=>
  have e:h.get? a=some { cls:=.none,data:=.fields ps }:=x;show h'.get? a=some { cls:=.none,data:=.fields ps };exact k a _ (.inl rfl) e
 |met f y=>
  have e:h.get? a=some (PySem.W.methodObj (.ref f) (.ref y)):=x;show h'.get? a=some (PySem.W.methodObj (.ref f) (.ref y));exact k a _ (.inl rfl) e
 |ext φ=>obtain⟨p,⟨o,e⟩,st⟩:=x;exact⟨st _ _ p λo q=>k _ _ (.inl rfl) q,⟨o,k _ _ (.inl rfl) e⟩,st⟩
theorem eh.lt(x:eh P w H h)(e:H a=some o):a<h.objs.size:=(x a o e).lt
theorem eh.fresh(x:eh P w H h)(e:h.objs.size≤a):H a=none:=by
 cases q:H a with
 |none=>rfl
 |some u=>exact absurd (ip (x.lt q) e) (sG _)
theorem eh.kept(x:eh P w H h)(k:∀b u,h.get? b=some u→h'.get? b=some u):eh P w H h':=λa o e=>
 (x a o e).oT (λb u _ q=>k b u q) (λ_ q=>q) λ_ _ q=>q
theorem eh.laid(x:eh P w H h)(k:∀b u,h.get? b=some u→h'.get? b=some u)(hp:h.objs.size≤a)(new:dW P w (upd H a o) h' a o):eh P w (upd H a o) h':=λb u e=>by
 have hn:=x.fresh hp;by_cases hb:b=a
 ·subst hb;rw[aX]at e;cases e;exact new
 ·rw[cn hb]at e;exact(x b u e).oT (λc v _ q=>k c v q) (λc q=>by rw[cn (eT q hn)];exact q) λc xs q=>by rw[cn (eT q hn)];exact q
end
def Rd(H:Hp)(a:Addr)(u:HO):Prop:=H a=some u∨∃o,H a=some (.iW o u)
theorem Rd.ok{P:Program}{w:World}{u:HO}(r:Rd H a u)(x:eh P w H h):dW P w H h a u:=by
 rcases r with r|⟨o,r⟩
 ·exact x a u r
 ·obtain⟨_,q⟩:=x a _ r;exact q
def vi:Option HO→Prop
 |some (.lst _)=>True
 |some (.dK _)=>True
 |some (.dT _)=>True
 |some (.set _ _)=>True
 |some (.ins _ _ _)=>True
 |some (.ext _)=>True
 |_=>False
section
variable{P:Program}{w:World}{H:Hp}{h h':Heap}{x e:Addr}{o':HO}
theorem eh.write(ok:eh P w H h)(mu:vi (H x))(he:e=x∨H e=some (.own x))(k:∀b u,b≠e→h.get? b=some u→h'.get? b=some u)(sR:∃u,h'.get? e=some u)
  (new:dW P w (upd H x o') h' x o'):eh P w (upd H x o') h':=λb u q=>by
 have FQ:∀c y,H c=some (.own y)→c≠x:=λc y r z=>by subst z;rw[r]at mu;exact mu
 have N3:∀c xs,H c=some (.tup xs)→c≠x:=λc xs r z=>by subst z;rw[r]at mu;exact mu
 by_cases hb:b=x
 ·subst hb;rw[aX]at q;cases q;exact new
 ·rw[cn hb]at q;by_cases qH:b=e
  ·have q':H b=some (.own x):=by
    rcases he with z|z
    ·exact absurd (qH.trans z) hb
    ·rw[qH];exact z
   rw[q]at q';cases q';obtain⟨v,hv⟩:=sR;exact⟨v,by rw[qH];exact hv⟩
  ·refine(ok b u q).oT (λc v hc r=>k c v ?_ r) (λc r=>by rw[cn (FQ c b r)];exact r) λc xs r=>by rw[cn (N3 c xs r)];exact r
   rcases hc with rfl|hc
   ·exact qH
   ·rintro rfl;rcases he with z|z
    ·exact FQ c b hc z
    ·rw[hc]at z;cases z;exact hb rfl
end
structure Un(fs ex:List Addr)(H H':Hp)(h h':Heap):Prop where
 keep:∀b o,h.get? b=some o→H b=none→b ∉ fs→b ∉ ex→h'.get? b=some o
 slot:∀b o,h.get? b=some o→H b=none→b∈fs→b ∉ ex→∃sl,h'.get? b=some { o with slots:=sl }
 free:∀b o,h.get? b=some o→H b=none→b ∉ ex→H' b=none
 there:∀b o,h.get? b=some o→b ∉ ex→∃o',h'.get? b=some o'
 oU:∀b xs,H b=some (.tup xs)→H' b=some (.tup xs)
 nS:∀b o u,H b=some (.iW o u)→H' b=some (.iW o u)
 nT:∀b ps,H b=some (.eK ps)→∃oV,H' b=some (.eK (ps++oV))
section
variable{fs N4 ex ex':List Addr}{H H1 H2:Hp}{h h1 h2 h':Heap}{a x e:Addr}{o:HO}
theorem Un.any(u:Un fs ex H H1 h h1){ob:Obj}(q:h.get? b=some ob)(n:H b=none)(hx:b ∉ ex):∃sl,h1.get? b=some { ob with slots:=sl }:=by
 by_cases hb:b∈fs
 ·exact u.slot b ob q n hb hx
 ·exact⟨ob.slots,u.keep b ob q n hb hx⟩
theorem Un.kept(k:∀b u,h.get? b=some u→h'.get? b=some u):Un fs ex H H h h':=
 ⟨λb ob q _ _ _=>k b ob q,λb ob q _ _ _=>⟨ob.slots,k b ob q⟩,λ_ _ _ n _=>n,λb ob q _=>⟨ob,k b ob q⟩,λ_ _ q=>q,λ_ _ _ q=>q,λ_ ps q=>⟨#[],by rw[q];simp⟩⟩
theorem Un.refl:Un fs ex H H h h:=Un.kept λ_ _ q=>q
theorem Un.laid(k:∀b u,h.get? b=some u→h'.get? b=some u)(hp:h.objs.size≤a)(hn:H a=none):Un fs ex H (upd H a o) h h' where
 keep:=λb u q _ _ _=>k b u q
 slot:=λb u q _ _ _=>⟨u.slots,k b u q⟩
 free:=λb u q n _=>by rw[cn (gX (ip (dG q) hp))];exact n
 there:=λb u q _=>⟨u,k b u q⟩
 oU:=λb xs q=>by rw[cn (eT q hn)];exact q
 nS:=λb u xs q=>by rw[cn (eT q hn)];exact q
 nT:=λb ps q=>⟨#[],by rw[cn (eT q hn),q];simp⟩
theorem Un.write(mu:vi (H x))(he:e=x∨H e=some (.own x))(k:∀b u,b≠e→h.get? b=some u→h'.get? b=some u)(sR:∃u,h'.get? e=some u):Un fs ex H (upd H x o) h h':=by
 have hx:∀b,H b=none→b≠x:=λb n z=>by subst z;rw[n]at mu;exact mu
 have hb:∀b,H b=none→b≠e:=λb n z=>by
  subst z;rcases he with r|r
  ·exact hx b n r
  ·rw[n]at r;cases r
 have hm:∀b u,H b=some u→¬vi (some u)→b≠x:=λb u q nm z=>by subst z;rw[q]at mu;exact nm mu
 refine⟨λb u q n _ _=>k b u (hb b n) q,λb u q n _ _=>⟨u.slots,k b u (hb b n) q⟩,λb u q n _=>by rw[cn (hx b n)];exact n,λb u q _=>?_,
  λb xs q=>by rw[cn (hm b _ q λz=>z)];exact q,λb u xs q=>by rw[cn (hm b _ q λz=>z)];exact q,λb ps q=>⟨#[],by rw[cn (hm b _ q λz=>z),q];simp⟩⟩
 by_cases qH:b=e
 ·subst qH;exact sR
 ·exact⟨u,k b u qH q⟩
end
noncomputable def xQ(h:Heap)(H:Hp):List Addr:=(List.range h.objs.size).filter λa=>(H a).isSome
noncomputable def mv(h:Heap)(H:Hp):Heap:=PySem.W.hideAll h (xQ h H)
theorem N5(h:Heap)(H:Hp):(mv h H).objs.size=h.objs.size:=PySem.W.hideAll_size _ _
theorem N6(e:h.get? b=some o)(n:H b=none):(mv h H).get? b=some o:=
 PySem.W.hideAll_get _ e λhm=>by
  have q:(H b).isSome=true:=(lD.mp hm).2;rw[n]at q;simp at q
theorem N7(e:(mv h H).get? b=some o):h.get? b=some o∧H b=none:=by
 have e':h.get? b=some o:=PySem.W.of_hideAll (xQ h H) e;refine⟨e',?_⟩;cases q:H b with
 |none=>rfl
 |some x=>
  have hm:b∈xQ h H:=lD.mpr ⟨nK.mpr (dG e'),by simp[q]⟩;have z:(mv h H).get? b=none:=PySem.W.hideAll_none (xQ h H) hm;rw[z]at e;cases e
noncomputable def N8(g h:Heap)(L:Addr):List (Addr×Obj):=(List.range h.objs.size).filterMap λa=>if a=L∨(g.get? a).isSome=true then none else(h.get? a).map λo=>(a,o)
noncomputable def ef(g h:Heap)(L d:Addr):List (Addr×Obj):=(N8 g h L).filter λp=>decide (p.1≠d)
structure Mod(K:Frag)(mg:Str→Option Value)(base:Heap):Prop where
 qI:K.In base
 glob:base.Ns mainGlobals mg
 blt:∃mb,base.Ns builtinsNs mb∧∀x:Str,x ≠ "__name__"→mb x=bootBuiltins x
 nolimit:base.NoLimit
structure Cx where
 prog:Program
 w:World
 K:Frag
 mg:Str→Option Value
 base:Heap
 A:Around
 N:List Str
 s₀:Shared
 H₀:Hp
 env:Env
 outer:List Env
 stack:List Env
 ex:List Addr
 fn:Str→Bool
 calm:Bool
 pn:List (Addr×Obj)
 xe:QV
noncomputable def jX(l:List Env):List Addr:=l.filterMap (·.frame)
noncomputable abbrev Cx.fs(X:Cx):List Addr:=jX X.outer
def vj(sc:Scope)(x:Str):Prop:=sc.names.lookup x=some .local∨sc.names.lookup x=some .cell∨sc.names.lookup x=some .free
def Loc(sc:Scope)(x:Str):Prop:=sc.names.lookup x=some .local∨sc.names.lookup x=some .cell
def Look(env:Env)(h:Heap)(m:Str→Option Value)(x:Str)(u:Value):Prop:=
 (env.kindOf x=some .local∧m x=some u)∨((env.kindOf x=some .cell∨env.kindOf x=some .free)∧∃c,env.cells.lookup x=some c∧h.IsCell c (some u))
structure Cx.Ok(X:Cx):Prop where
 mod:Mod X.K X.mg X.base
 kind:X.env.scope.kind=.function
 glob:X.env.globals=mainGlobals
 blt:X.env.builtins=builtinsNs
 above:X.s₀.heap.objs.size≤X.env.locals
 inj:∀x y c,X.env.cells.lookup x=some c→X.env.cells.lookup y=some c→x=y
 has:∀x,(X.env.kindOf x=some .cell∨X.env.kindOf x=some .free)→∃c,X.env.cells.lookup x=some c
 vk:∀x c,X.fn x=true→X.env.cells.lookup x=some c→X.s₀.heap.objs.size≤c
 hd:X.calm=true→X.A.handled=none
 frames:X.A.frames=some X.stack
 xR:X.stack=X.outer∨(X.stack=X.env::X.outer∧X.env.frame=some X.env.locals)
 vm:∀b∈X.ex,b≠X.env.locals∧∀x c,X.env.cells.lookup x=some c→c≠b
 bs:∀b o,X.base.get? b=some o→X.s₀.heap.get? b=some o∧X.H₀ b=none
 oW:X.base.objs.size≤X.s₀.heap.objs.size
 vn:∀b o,X.base.get? b=some o→b ∉ X.ex
 sS:∀b∈X.ex,b ∉ X.fs
 lI:X.s₀.heap.FunFrames X.base X.outer
 qJ:∀b∈X.fs,X.H₀ b=none
structure Inv(X:Cx)(aI:List (Addr×Obj))(σ:List (Option V))(H:Hp)(s:Shared):Prop where
 ok:X.Ok
 os:s.os=X.s₀.os
 bare:AllBare s.gens
 base:Un X.fs X.ex X.H₀ H X.s₀.heap s.heap
 loc:∃m,s.heap.Ns X.env.locals m∧∀(i:Nat)(x:Str)(v:V),X.N[i]?=some x→σ[i]?=some (some v)→vj X.env.scope x→∃u,RelV v u∧Look X.env s.heap m x u
 cell:∀x c,X.env.cells.lookup x=some c→∃v,s.heap.IsCell c v
 free:H X.env.locals=none
 mw:∀x c,X.env.cells.lookup x=some c→H c=none
 pin:∀p∈X.pn++aI,s.heap.get? p.1=some p.2∧H p.1=none∧p.1≠X.env.locals∧p.1 ∉ X.fs∧∀v,p.2.data≠.cell v
 bH:eh X.prog X.w H s.heap
 len:σ.length=X.N.length
section
variable{X:Cx}{aI:List (Addr×Obj)}{σ:List (Option V)}{H H':Hp}{s:Shared}{h':Heap}
theorem Cx.Ok.N9(ok:X.Ok)(e:X.base.get? b=some o):b ∉ X.fs:=λhb=>by
 have:=(ok.lI.mem hb).1
 rw[e]at this;cases this
theorem Inv.bs(I:Inv X aI σ H s):∀b o,X.base.get? b=some o→s.heap.get? b=some o∧H b=none:=λb o e=>
 ⟨I.base.keep b o (I.ok.bs b o e).1 (I.ok.bs b o e).2 (I.ok.N9 e) (I.ok.vn b o e),I.base.free b o (I.ok.bs b o e).1 (I.ok.bs b o e).2 (I.ok.vn b o e)⟩
theorem Inv.bk(I:Inv X aI σ H s):∀b o,X.base.get? b=some o→s.heap.get? b=some o:=λb o e=>(I.bs b o e).1
theorem Inv.mod(I:Inv X aI σ H s):Mod X.K X.mg X.base:=I.ok.mod
theorem Inv.ff(I:Inv X aI σ H s):X.K.In s.heap:=I.ok.mod.qI.keeps I.bk
theorem Inv.lt(I:Inv X aI σ H s):X.env.locals<s.heap.objs.size:=let ⟨_,hn,_⟩:=I.loc;hn.lt
theorem Inv.sz(I:Inv X aI σ H s):X.s₀.heap.objs.size≤s.heap.objs.size:=ft I.ok.above (oO I.lt)
theorem Inv.Oa(I:Inv X aI σ H s)(h:s.heap.objs.size≤a):a ∉ X.fs:=λhb=>by
 obtain⟨_,o,ho,_⟩:=I.ok.lI.mem hb;exact absurd (ip (dG ho) (ft I.sz h)) (sG _)
theorem Inv.qK(I:Inv X aI σ H s):∀x c,X.env.cells.lookup x=some c→c≠X.env.locals:=λx c e z=>by
 obtain⟨v,o,ho,hd⟩:=I.cell x c e;obtain⟨m,⟨o',es,ep,qL,Ob,_⟩,_⟩:=I.loc;rw[z,qL]at ho;cases ho;rw[Ob]at hd;cases hd
theorem Inv.lI(I:Inv X aI σ H s):s.heap.FunFrames X.base X.outer:=by
 have all:∀(l:List Env),(∀b∈jX l,b∈X.fs)→X.s₀.heap.FunFrames X.base l→s.heap.FunFrames X.base l:=by
  intro l;induction l with
  |nil=>intro _ _;trivial
  |cons env r ih=>
   intro hs hl;obtain⟨hk,⟨L,o,hf,hn,ho,hd⟩,hr⟩:=hl;have hL:L∈X.fs:=hs L (by unfold jX;rw[List.filterMap_cons,hf];exact cZ);obtain⟨sl,e⟩:=I.base.slot L o ho (I.ok.qJ L hL) hL λz=>I.ok.sS L z hL;exact⟨hk,⟨L,_,hf,hn,e,hd⟩,ih (λb hb=>hs b (by unfold jX;rw[List.filterMap_cons,hf];exact fu _ hb)) hr⟩
 exact all X.outer (λ_ hb=>hb) I.ok.lI
theorem Inv.stack(I:Inv X aI σ H s):s.heap.FunFrames X.base X.stack:=by
 rcases I.ok.xR with e|⟨e,hf⟩
 ·rw[e];exact I.lI
 ·rw[e];obtain⟨m,hn,_⟩:=I.loc;refine .cons (by rw[I.ok.kind];decide) hf hn ?_ I.lI;exact Heap.get?_none_of_le (ft I.ok.oW I.ok.above)
theorem Inv.BM(I:Inv X aI σ H s):∀b∈jX X.stack,b∈X.env.locals::X.fs:=λb hb=>by
 rcases I.ok.xR with e|⟨e,hf⟩
 ·rw[e]at hb;exact fu _ hb
 ·rw[e]at hb;unfold jX at hb;rw[List.filterMap_cons,hf]at hb;exact hb
theorem Inv.FR(I:Inv X aI σ H s):∀b∈jX X.stack,H b=none:=λb hb=>by
 rcases dS.mp (I.BM b hb)with e|hb
 ·rw[e];exact I.free
 ·obtain⟨_,o,ho,_⟩:=I.ok.lI.mem hb;exact I.base.free b o ho (I.ok.qJ b hb) λz=>I.ok.sS b z hb
theorem Inv.step{g':Array GenState}{d':Drawn}(I:Inv X aI σ H s)
  (nU:∀b∈ch,(b∈X.ex∨X.s₀.heap.objs.size≤b)∧b≠X.env.locals∧(∀x c,X.env.cells.lookup x=some c→c≠b)∧∀p∈X.pn++aI,p.1≠b)
  (keep:∀b o,b≠X.env.locals→b ∉ X.fs→b ∉ ch→s.heap.get? b=some o→H b=none→h'.get? b=some o)
  (slot:∀b o,b≠X.env.locals→b∈X.fs→b ∉ ch→s.heap.get? b=some o→H b=none→∃sl,h'.get? b=some { o with slots:=sl }) (free:∀b o,b ∉ ch→s.heap.get? b=some o→H b=none→H' b=none)
  (there:∀b o,b ∉ ch→s.heap.get? b=some o→∃o',h'.get? b=some o')
  (oU:∀b xs,H b=some (.tup xs)→H' b=some (.tup xs)) (nS:∀b o u,H b=some (.iW o u)→H' b=some (.iW o u)) (nT:∀b ps,H b=some (.eK ps)→∃oV,H' b=some (.eK (ps++oV)))
  (ns:∀m,s.heap.Ns X.env.locals m→h'.Ns X.env.locals m) (bH:eh X.prog X.w H' h') (hg:AllBare g') :
  Inv X aI σ H' { s with heap:=h',gens:=g',drawn:=d',toks:=t' }:=by
 have pV:∀b o,X.s₀.heap.get? b=some o→b≠X.env.locals:=λb o e=>gX (ip (dG e) I.ok.above);have xS:∀b o,X.s₀.heap.get? b=some o→b ∉ X.ex→b ∉ ch:=λb o e hx hb=>by
  rcases(nU b hb).1 with z|z
  ·exact hx z
  ·exact absurd (ip (dG e) z) (sG _)
 have FU:∀x c,X.env.cells.lookup x=some c→∀v,s.heap.IsCell c v→h'.IsCell c v:=λx c e v ⟨o,ho,hd⟩=>by
  have vo:c ∉ ch:=λz=>(nU c z).2.2.1 x c e rfl;by_cases hc:c∈X.fs
  ·obtain⟨sl,q⟩:=slot c o (I.qK x c e) hc vo ho (I.mw x c e);exact⟨_,q,hd⟩
  ·exact⟨o,keep c o (I.qK x c e) hc vo ho (I.mw x c e),hd⟩
 refine⟨I.ok,I.os,hg,⟨λb o e n hb hx=>?_,λb o e n hb hx=>?_,λb o e n hx=>?_,λb o e hx=>?_,λb xs e=>oU b xs (I.base.oU b xs e),λb o xs e=>nS b o xs (I.base.nS b o xs e),λb ps e=>?_⟩,?_,λx c e=>?_,?_,λx c e=>?_,λp hp=>?_,bH,I.len⟩
 ·exact keep b o (pV b o e) hb (xS b o e hx) (I.base.keep b o e n hb hx) (I.base.free b o e n hx)
 ·obtain⟨sl,e1⟩:=I.base.slot b o e n hb hx;obtain⟨BN,e2⟩:=slot b _ (pV b o e) hb (xS b o e hx) e1 (I.base.free b o e n hx);exact⟨BN,e2⟩
 ·obtain⟨o',e1⟩:=I.base.there b o e hx;exact free b o' (xS b o e hx) e1 (I.base.free b o e n hx)
 ·obtain⟨o',e1⟩:=I.base.there b o e hx;exact there b o' (xS b o e hx) e1
 ·obtain⟨m1,e1⟩:=I.base.nT b ps e;obtain⟨m2,e2⟩:=nT b _ e1;exact⟨m1++m2,by rw[e2,Array.append_assoc]⟩
 ·obtain⟨m,hn,hl⟩:=I.loc;refine⟨m,ns m hn,λi x v e1 e2 e3=>?_⟩;obtain⟨u,r,l⟩:=hl i x v e1 e2 e3;refine⟨u,r,?_⟩;rcases l with l|⟨k,c,e,z⟩
  ·exact .inl l
  ·exact .inr ⟨k,c,e,FU x c e _ z⟩
 ·obtain⟨v,z⟩:=I.cell x c e;exact⟨v,FU x c e v z⟩
 ·obtain⟨m,⟨o,_,_,ho,_⟩,_⟩:=I.loc;exact free _ o (λz=>(nU _ z).2.1 rfl) ho I.free
 ·obtain⟨v,o,ho,hd⟩:=I.cell x c e;exact free c o (λz=>(nU c z).2.2.1 x c e rfl) ho (I.mw x c e)
 ·obtain⟨e,n,ne,nf,d⟩:=I.pin p hp;have vo:p.1 ∉ ch:=λz=>(nU p.1 z).2.2.2 p hp rfl;exact⟨keep p.1 p.2 ne nf vo e n,free p.1 p.2 vo e n,ne,nf,d⟩
theorem Inv.un(I:Inv X aI σ H s)(u:Un X.fs [] H H' s.heap h')(bH:eh X.prog X.w H' h'):Inv X aI σ H' { s with heap:=h',toks:=t' }:=by
 obtain⟨m,⟨o,es,ep,ho,r⟩,_⟩:=id I.loc;obtain⟨sl,hL⟩:=u.any ho I.free (by simp);exact I.step (g':=s.gens) (d':=s.drawn) (ch:=[]) (λ_ z=>nomatch z) (λb o _ hb _ e n=>u.keep b o e n hb (by simp)) (λb o _ hb _ e n=>u.slot b o e n hb (by simp)) (λb o _ e n=>u.free b o e n (by simp)) (λb o _ e=>u.there b o e (by simp)) u.oU u.nS u.nT (λm' hm=>by
  obtain⟨o',BO,BP,qL,r'⟩:=hm;rw[ho]at qL;cases qL;exact⟨_,BO,BP,hL,r'⟩) bH I.bare
theorem Inv.call{g':Array GenState}{d':Drawn}(I:Inv X aI σ H s)(u:Un (jX X.stack) ch H H' s.heap h')(bH:eh X.prog X.w H' h')(hg:AllBare g')
  (nU:∀b∈ch,(b∈X.ex∨X.s₀.heap.objs.size≤b)∧b≠X.env.locals∧(∀x c,X.env.cells.lookup x=some c→c≠b)∧∀p∈X.pn++aI,p.1≠b) :
  Inv X aI σ H' { s with heap:=h',gens:=g',drawn:=d',toks:=t' }:=by
 obtain⟨m,⟨o,es,ep,ho,r⟩,_⟩:=id I.loc;obtain⟨sl,hL⟩:=u.any ho I.free λz=>(nU _ z).2.1 rfl;exact I.step (ch:=ch) nU (λb o hL hb hc e n=>u.keep b o e n (λz=>(dS.mp (I.BM b z)).elim hL hb) hc) (λb o _ _ hc e n=>u.any e n hc) (λb o hc e n=>u.free b o e n hc) (λb o hc e=>u.there b o e hc) u.oU u.nS u.nT (λm' hm=>by
  obtain⟨o',BO,BP,qL,r'⟩:=hm;rw[ho]at qL;cases qL;exact⟨_,BO,BP,hL,r'⟩) bH hg
theorem Inv.turned{it:Addr}(I:Inv X aI σ H s)(k:∀b o,b≠it→s.heap.get? b=some o→h'.get? b=some o)(hn:H it=none)(hL:it≠X.env.locals)
  (h1:it∈X.ex∨X.s₀.heap.objs.size≤it) (h2:∀x c,X.env.cells.lookup x=some c→c≠it) (h3:∀p∈X.pn++aI,p.1≠it):Inv X aI σ H { s with heap:=h',toks:=t' }:=by
 have vp:∀b u,H b=some u→b≠it:=λb u e z=>by rw[z,hn]at e;cases e
 refine I.step (g':=s.gens) (d':=s.drawn) (ch:=[it]) (λb hb=>?_) (λb o _ _ hc e _=>k b o (λz=>hc (by simp[z])) e) (λb o _ _ hc e _=>⟨o.slots,k b o (λz=>hc (by simp[z])) e⟩) (λ_ _ _ _ n=>n)
  (λb o hc e=>⟨o,k b o (λz=>hc (by simp[z])) e⟩) (λ_ _ e=>e) (λ_ _ _ e=>e) (λb ps e=>⟨#[],by rw[e];simp⟩) (λm hm=>?_) (λb u e=>?_) I.bare
 ·have e:b=it:=by simpa using hb
  subst e;exact⟨h1,hL,h2,h3⟩
 ·obtain⟨o,es,ep,ho,r⟩:=hm;exact⟨o,es,ep,k _ o (Ne.symm hL) ho,r⟩
 ·refine(I.bH b u e).oT (λc v hc q=>k c v ?_ q) (λ_ q=>q) λ_ _ q=>q;rcases hc with z|z
  ·rw[z];exact vp b u e
  ·exact vp c _ z
theorem Inv.tok(I:Inv X aI σ H s)(t:Nat):Inv X aI σ H { s with toks:=t }:=I.un (h':=s.heap) (t':=t) Un.refl I.bH
theorem Inv.kept{t':Nat}(I:Inv X aI σ H s)(k:∀b u,s.heap.get? b=some u→h'.get? b=some u):Inv X aI σ H { s with heap:=h',toks:=t' }:=I.un (Un.kept k) (I.bH.kept k)
theorem Inv.laid{a:Addr}{o:HO}{t':Nat}(I:Inv X aI σ H s)(k:∀b u,s.heap.get? b=some u→h'.get? b=some u)(hp:s.heap.objs.size≤a)(new:dW X.prog X.w (upd H a o) h' a o) :
  Inv X aI σ (upd H a o) { s with heap:=h',toks:=t' }:=I.un (Un.laid k hp (I.bH.fresh hp)) (I.bH.laid k hp new)
theorem Inv.write{x e:Addr}{o:HO}{t':Nat}(I:Inv X aI σ H s)(mu:vi (H x))(he:e=x∨H e=some (.own x))(k:∀b u,b≠e→s.heap.get? b=some u→h'.get? b=some u)(sR:∃u,h'.get? e=some u)
  (new:dW X.prog X.w (upd H x o) h' x o):Inv X aI σ (upd H x o) { s with heap:=h',toks:=t' }:=I.un (Un.write mu he k sR) (I.bH.write mu he k sR new)
theorem Inv.xT{FV:List (Addr×Obj)}(I:Inv X aI σ H s)(h:∀p∈FV,s.heap.get? p.1=some p.2∧H p.1=none∧p.1≠X.env.locals∧p.1 ∉ X.fs∧∀v,p.2.data≠.cell v):Inv X FV σ H s:=
 ⟨I.ok,I.os,I.bare,I.base,I.loc,I.cell,I.free,I.mw,λp hp=>(dZ.mp hp).elim (λz=>I.pin p (mh _ z)) (h p),I.bH,I.len⟩
theorem FW{N:List Str}(hN:N.Nodup){j:Nat}(a:N[i]?=some x)(b:N[j]?=some x):i=j:=by
 obtain⟨h1,e1⟩:=gi.mp a;obtain⟨h2,e2⟩:=gi.mp b;exact(List.getElem_inj hN).mp (e1.trans e2.symm)
theorem FX(I:Inv X aI σ H s)(hN:X.N.Nodup)(hi:X.N[i]?=some x)(hx:Loc X.env.scope x)(r:RelV v u)
  (h:∀s',Inv X aI (σ.set i (some v)) H s'→(∃a,Heap.SameBut a s.heap s'.heap∧(a=X.env.locals∨X.env.cells.lookup x=some a))→Q () s') (hf:X.fn x=true∨X.env.scope.names.lookup x=some .local:=by first|exact .inl rfl|exact .inr rfl|assumption):wpAny M A (storeName X.env x u) Q E s:=by
 obtain⟨m,hn,hl⟩:=id I.loc;have Oc:(X.env.scope.kind == .class||(X.env.scope.kind == .module&&X.env.locals != X.env.globals))=false:=by rw[I.ok.kind];rfl
 have FY:i<σ.length:=by rw[I.len];exact(gi.mp hi).1
 have qK:=I.qK;have FZ:∀{a:Addr}{h':Heap},(∃o,s.heap.get? a=some o∧H a=none)→Heap.SameBut a s.heap h'→eh X.prog X.w H h':=λ{a h'} ha hs b ob e=>by
  obtain⟨_,_,F0⟩:=ha;refine(I.bH b ob e).oT (λc w' hc q=>(hs.2 c ?_).trans q) (λ_ q=>q) λ_ _ q=>q;rintro rfl;rcases hc with rfl|hc
  ·rw[F0]at e;cases e
  ·rw[F0]at hc;cases hc
 rcases hx with hk|hk
 ·refine wpAny_storeName_local hk hn (λh' Od hs=>?_) Oc;obtain⟨oL,_,_,Oe,_⟩:=id hn;refine h _ ⟨I.ok,I.os,I.bare,⟨λb o e n hb hx=>?_,λb o e n hb hx=>?_,I.base.free,λb o e hx=>?_,I.base.oU,I.base.nS,I.base.nT⟩,⟨_,Od,λj y v' e1 e2 e3=>?_⟩,λy c e=>?_,I.free,I.mw,λp hp=>?_,FZ ⟨oL,Oe,I.free⟩ hs,by simpa using I.len⟩ ⟨_,hs,.inl rfl⟩
  ·exact(hs.2 b (gX (ip (dG e) I.ok.above))).trans (I.base.keep b o e n hb hx)
  ·obtain⟨sl,e1⟩:=I.base.slot b o e n hb hx;exact⟨sl,(hs.2 b (gX (ip (dG e) I.ok.above))).trans e1⟩
  ·obtain⟨o',e1⟩:=I.base.there b o e hx;exact⟨o',(hs.2 b (gX (ip (dG e) I.ok.above))).trans e1⟩
  ·by_cases hj:j=i
   ·subst hj;rw[hi]at e1;cases e1;rw[List.getElem?_set_self FY]at e2;cases e2;exact⟨u,r,.inl ⟨hk,by simp⟩⟩
   ·rw[List.getElem?_set_ne (Ne.symm hj)]at e2;obtain⟨u',r',q⟩:=hl j y v' e1 e2 e3;refine⟨u',r',?_⟩;rcases q with⟨k,e⟩|⟨k,c,e,z⟩
    ·refine .inl ⟨k,?_⟩
     have:y≠x:=λe=>hj (FW hN e1 (e▸hi))
     simp[this,e]
    ·exact .inr ⟨k,c,e,z.sameBut hs (qK y c e)⟩
  ·obtain⟨w',z⟩:=I.cell y c e;exact⟨w',z.sameBut hs (qK y c e)⟩
  ·obtain⟨e,n,ne,nf,d⟩:=I.pin p hp;exact⟨(hs.2 p.1 ne).trans e,n,ne,nf,d⟩
 ·have vq:X.fn x=true:=by
   rcases hf with z|z
   ·exact z
   ·rw[z]at hk;cases hk
  obtain⟨c,hc⟩:=I.ok.has x (.inl hk);obtain⟨w',z⟩:=I.cell x c hc;refine wpAny_storeName_cell I.ok.kind hk hc z (λh' jj hs=>?_);obtain⟨oc,Ga,Of⟩:=id z;refine h { s with heap:=h' } ⟨I.ok,I.os,I.bare,⟨λb o e n hb hx=>?_,λb o e n hb hx=>?_,I.base.free,λb o e hx=>?_,I.base.oU,I.base.nS,I.base.nT⟩,⟨m,hn.sameBut hs (Ne.symm (qK x c hc)),λj y v' e1 e2 e3=>?_⟩,λy c' e=>?_,I.free,I.mw,λp hp=>?_,FZ ⟨oc,Ga,I.mw x c hc⟩ hs,by simpa using I.len⟩ ⟨c,hs,.inr hc⟩
  ·exact(hs.2 b (gX (ip (dG e) (I.ok.vk x c vq hc)))).trans (I.base.keep b o e n hb hx)
  ·obtain⟨sl,e1⟩:=I.base.slot b o e n hb hx;exact⟨sl,(hs.2 b (gX (ip (dG e) (I.ok.vk x c vq hc)))).trans e1⟩
  ·obtain⟨o',e1⟩:=I.base.there b o e hx;exact⟨o',(hs.2 b (gX (ip (dG e) (I.ok.vk x c vq hc)))).trans e1⟩
  ·by_cases hj:j=i
   ·subst hj;rw[hi]at e1;cases e1;rw[List.getElem?_set_self FY]at e2;cases e2;exact⟨u,r,.inr ⟨.inl hk,c,hc,jj⟩⟩
   ·rw[List.getElem?_set_ne (Ne.symm hj)]at e2;obtain⟨u',r',q⟩:=hl j y v' e1 e2 e3;refine⟨u',r',?_⟩;rcases q with q|⟨k,c',e,z'⟩
    ·exact .inl q
    ·refine .inr ⟨k,c',e,z'.sameBut hs ?_⟩;rintro rfl;exact hj (FW hN e1 (I.ok.inj _ _ _ e hc▸hi))
  ·by_cases xU:c'=c
   ·subst xU;exact⟨_,jj⟩
   ·obtain⟨w2,z2⟩:=I.cell y c' e;exact⟨w2,z2.sameBut hs xU⟩
  ·obtain⟨e,n,ne,nf,d⟩:=I.pin p hp;refine⟨(hs.2 p.1 ?_).trans e,n,ne,nf,d⟩;intro q;rw[q,Ga]at e;have q':oc=p.2:=dj e;exact d w' (by rw[← q'];exact Of)
theorem Gb(I:Inv X aI σ H s)(hN:X.N.Nodup)(hi:X.N[i]?=some x)(hx:Loc X.env.scope x)(r:RelV v u)
  (h:∀s',Inv X aI (σ.set i (some v)) H s'→Q () s') (hf:X.fn x=true∨X.env.scope.names.lookup x=some .local:=by first|exact .inl rfl|exact .inr rfl|assumption):wpAny M A (storeName X.env x u) Q E s:=
 FX I hN hi hx r (λs' I' _=>h s' I') hf
theorem Inv.Og{s':Shared}(I:Inv X aI σ H s)(ho:s'.os=s.os)(u:Un (jX X.stack) ch H H' s.heap s'.heap)(bH:eh X.prog X.w H' s'.heap)(hg:AllBare s'.gens)
  (nU:∀b∈ch,(b∈X.ex∨X.s₀.heap.objs.size≤b)∧b≠X.env.locals∧(∀x c,X.env.cells.lookup x=some c→c≠b)∧∀p∈X.pn++aI,p.1≠b):Inv X aI σ H' s':=by
 obtain⟨h',g',d',t',o'⟩:=s';have e:o'=s.os:=ho;subst e;exact I.call (g':=g') (t':=t') (d':=d') u bH hg nU
end
abbrev XK:=Value→Option Addr→Hp→Prop
abbrev St:=List (Option V)
abbrev VK:=V→Hp→Prop
abbrev TE:=St→Hp→VK→Prop
abbrev TT:=St→Hp→(Bool→Hp→Prop)→Prop
abbrev TA:=St→Hp→(List V→Hp→Prop)→Prop
structure Ends where
 nx:St→Hp→Prop
 rt:VK
 bk:St→Hp→Prop:=λ_ _=>False
 ct:St→Hp→Prop:=λ_ _=>False
abbrev TS:=Ends→St→Hp→Prop
def EP(X:Cx)(aI:List (Addr×Obj))(σ:St)(Q:VK)(u:Value)(s':Shared):Prop:=∃v H',Inv X aI σ H' s'∧RelV v u∧Q v H'
def TP(X:Cx)(aI:List (Addr×Obj))(σ:St)(Q:Bool→Hp→Prop)(b:Bool)(s':Shared):Prop:=∃H',Inv X aI σ H' s'∧Q b H'
def AP(X:Cx)(aI:List (Addr×Obj))(σ:St)(Q:List V→Hp→Prop)(us:List Value)(s':Shared):Prop:=∃vs H',Inv X aI σ H' s'∧Vals vs us∧Q vs H'
def SP(X:Cx)(aI:List (Addr×Obj))(D:Ends)(f:Flow)(s':Shared):Prop:=
 match f with
 | .next=>∃σ' H',Inv X aI σ' H' s'∧D.nx σ' H'
 | .brk=>∃σ' H',Inv X aI σ' H' s'∧D.bk σ' H'
 | .cont=>∃σ' H',Inv X aI σ' H' s'∧D.ct σ' H'
 | .ret u=>∃v σ' H',Inv X aI σ' H' s'∧RelV v u∧D.rt v H'
def PE(X:Cx)(e:Expr)(t:TE):Prop:=
 ∀(aI:List (Addr×Obj))(s:Shared)(σ:St)(H:Hp)(Q:VK),Inv X aI σ H s→t σ H Q→wpAny (model X.prog X.w) X.A (eval e X.env) (EP X aI σ Q) X.xe s
def PT(X:Cx)(e:Expr)(t:TT):Prop:=
 ∀(aI:List (Addr×Obj))(s:Shared)(σ:St)(H:Hp)(Q:Bool→Hp→Prop),Inv X aI σ H s→t σ H Q→wpAny (model X.prog X.w) X.A (isTrue e X.env (eval e X.env)) (TP X aI σ Q) X.xe s
def PW(X:Cx)(e:Expr)(t:TT):Prop:=
 ∀(qM:Sem Value)(aI:List (Addr×Obj))(s:Shared)(σ:St)(H:Hp)(Q:Bool→Hp→Prop),Inv X aI σ H s→t σ H Q→wpAny (model X.prog X.w) X.A (isTrue e X.env qM) (TP X aI σ Q) X.xe s
theorem PW.pt{t:TT}(h:PW X e t):PT X e t:=h _
def PA(X:Cx)(es:List Expr)(t:TA):Prop:=
 ∀(pos:Pos)(aI:List (Addr×Obj))(s:Shared)(σ:St)(H:Hp)(Q:List V→Hp→Prop),Inv X aI σ H s→t σ H Q→wpAny (model X.prog X.w) X.A (spliced (backTo pos (starEach es X.env))) (AP X aI σ Q) X.xe s
def PS(X:Cx)(st:Stmt)(t:TS):Prop:=
 ∀(aI:List (Addr×Obj))(s:Shared)(σ:St)(H:Hp)(D:Ends),Inv X aI σ H s→t D σ H→wpAny (model X.prog X.w) X.A (exec st X.env) (SP X aI D) X.xe s
def iX(X:Cx)(st:List Stmt)(t:TS):Prop:=
 ∀(aI:List (Addr×Obj))(s:Shared)(σ:St)(H:Hp)(D:Ends),Inv X aI σ H s→t D σ H→wpAny (model X.prog X.w) X.A (execs st X.env) (SP X aI D) X.xe s
theorem bj{α:Type}{t:Sem α}{Q Q':α→Shared→Prop}(h:wpAny M A t Q E s)(hQ:∀a s,Q a s→Q' a s):wpAny M A t Q' E s:=ai h hQ λ_ _ x=>x
section
variable{X:Cx}
theorem bin{a b:Expr}{ta tb:TE}(ha:PE X a ta)(hb:PE X b tb){R:V→V→Hp→Prop}(I:Inv X aI σ H s)(h:ta σ H λx H1=>tb σ H1 λy H2=>R x y H2)
  {α:Type} {Q:α→Shared→Prop} {f:Value→Value→Sem α}
  (hf:∀v u s2 x y H2,Inv X aI σ H2 s2→RelV x v→RelV y u→R x y H2→wpAny (model X.prog X.w) X.A (f v u) Q X.xe s2) :
  wpAny (model X.prog X.w) X.A (eval a X.env) (λv s₁=>wpAny (model X.prog X.w) X.A (eval b X.env) (λu s₂=>wpAny (model X.prog X.w) X.A (f v u) Q X.xe s₂) X.xe s₁) X.xe s:=by
 refine bj (ha aI s σ H _ I h) λv s1 ⟨x,H1,I1,r1,q1⟩=>?_;refine bj (hb aI s1 σ H1 _ I1 q1) λu s2 ⟨y,H2,I2,r2,q2⟩=>?_;exact hf v u s2 x y H2 I2 r1 r2 q2
def aO(i:Nat):TE:=λσ H Q=>∃v,σ[i]?=some (some v)∧Q v H
def tC(v:V):TE:=λ_ H Q=>Q v H
theorem Gd{pos:Pos}(hN:X.N[i]?=some x)(hv:vj X.env.scope x)(hd:(x==("__debug__":Str))=false:=by decide)(gQ:(x==("__classdict__":Str))=false:=by decide):PE X (.Name x pos) (aO i):=by
 intro aI s σ H Q I h;obtain⟨v,e,h⟩:=h;obtain⟨m,hn,hl⟩:=I.loc;obtain⟨u,r,l⟩:=hl i x v hN e hv;have fin:EP X aI σ Q u s:=⟨v,H,I,r,h⟩;rcases l with⟨hk,hm⟩|⟨hk,c,hc,qN⟩
 ·exact wpAny_Name (wpAny_loadName_local I.ok.kind hk hn hm fin) hd
 ·rcases hk with hk|hk
  ·exact wpAny_Name (wpAny_loadName_cell I.ok.kind hk hc qN fin) hd
  ·exact wpAny_Name (wpAny_loadName_free I.ok.kind hk hc qN fin gQ) hd
theorem aU{i j pos}:PE X (.Constant (.int i) j pos) (tC (.int i)):=λ_ _ _ H _ I h=>wpAny_Constant_int ⟨.int i,H,I.tok _,⟨_,rfl⟩,h⟩
theorem vt{b j pos}:PE X (.Constant (.bool b) j pos) (tC (.bl b)):=λ_ _ _ H _ I h=>Constant_bool ⟨.bl b,H,I,rfl,h⟩
theorem Oh{j pos}:PE X (.Constant .none j pos) (tC .cI):=λ_ _ _ H _ I h=>Constant_none ⟨.cI,H,I,rfl,h⟩
theorem cP{x j pos}:PE X (.Constant (.str x) j pos) (tC (.str x)):=λ_ _ _ H _ I h=>Calls.Constant_str ⟨.str x,H,I.tok _,⟨_,rfl⟩,h⟩
def Gl(X:Cx)(x:Str):Prop:=X.env.kindOf x=some .globalImplicit
theorem BQ{pos:Pos}{Q:QV}(I:Inv X aI σ H s)(hg:Gl X x)(hm:X.mg x=some u)(h:Q u s)
  (hd:(x==("__debug__":Str))=false:=by decide):wpAny (model X.prog X.w) X.A (eval (.Name x pos) X.env) Q E s:=
 Calls.Name_function_global I.ok.kind hg (Calls.loadGlobal_global (by rw[I.ok.glob];exact I.mod.glob.keeps I.bk) hm h) hd
theorem qO{pos:Pos}{Q:QV}(I:Inv X aI σ H s)(hg:Gl X x)(hm:X.mg x=none)(hv:bootBuiltins x=some u)(h:Q u s)
  (hn:x ≠ "__name__":=by decide) (hd:(x==("__debug__":Str))=false:=by decide):wpAny (model X.prog X.w) X.A (eval (.Name x pos) X.env) Q E s:=by
 obtain⟨mb,h1,h2⟩:=I.mod.blt;exact Calls.Name_function_global I.ok.kind hg (Calls.loadGlobal_builtin (by rw[I.ok.glob];exact I.mod.glob.keeps I.bk) hm (by rw[I.ok.blt];exact h1.keeps I.bk) ((h2 x hn).trans hv) h) hd
theorem sT{pos:Pos}(hg:Gl X x)(hm:X.mg x=some u)(r:RelV v u)(hd:(x==("__debug__":Str))=false:=by decide):PE X (.Name x pos) (tC v):=
 λ_ _ _ H _ I h=>BQ I hg hm ⟨v,H,I,r,h⟩ hd
theorem Oi{pos:Pos}(hg:Gl X x)(hm:X.mg x=none)(hv:bootBuiltins x=some u)(r:RelV v u)(hn:x ≠ "__name__":=by decide)(hd:(x==("__debug__":Str))=false:=by decide):PE X (.Name x pos) (tC v):=
 λ_ _ _ H _ I h=>qO I hg hm hv ⟨v,H,I,r,h⟩ hn hd
def Oj(ta tb:TE)(k:Int→Int→Hp→Prop):St→Hp→Prop:=λσ H=>ta σ H λx H1=>tb σ H1 λy H2=>∃i j,x=.int i∧y=.int j∧k i j H2
variable{a b:Expr}{ta tb:TE}{pos:Pos}
def PC(X:Cx)(op:CmpOp)(a b:Expr)(t:TE):Prop:=
 ∀(aI:List (Addr×Obj))(s:Shared)(σ:St)(H:Hp)(Q:VK),Inv X aI σ H s→t σ H Q→
  wpAny (model X.prog X.w) X.A (eval a X.env) (λv s₁=>wpAny (model X.prog X.w) X.A (eval b X.env) (λu s₂=>wpAny (model X.prog X.w) X.A (compareOp op v u) (EP X aI σ Q) X.xe s₂) X.xe s₁) X.xe s
theorem Ol(b:Expr)(h:op≠.In)(h2:op≠.NotIn):behindInMarks op b=false:=by
 have e1:(op==CmpOp.In)=false:=by cases op<;>first|rfl|exact absurd rfl h
 have e2:(op==CmpOp.NotIn)=false:=by cases op<;>first|rfl|exact absurd rfl h2
 cases b<;>simp[behindInMarks,e1,e2]
def BR(p:Int→Int→Bool)(ta tb:TE):TE:=λσ H Q=>Oj ta tb (λi j H2=>Q (.bl (p i j)) H2) σ H
abbrev qP:TE→TE→TE:=BR λi j=>decide (i<j)
abbrev Om:TE→TE→TE:=BR λi j=>decide (i≤j)
theorem Oo{p:Int→Int→Bool}(ha:PE X a ta)(hb:PE X b tb)
  (rule:∀(i j:Int)(t u:Tok)(Q:QV)(s:Shared),Q (.bool (p i j)) s→wpAny (model X.prog X.w) X.A (compareOp op (.int i t) (.int j u)) Q X.xe s):PC X op a b (BR p ta tb):=by
 intro aI s σ H Q I h;refine bin ha hb I h λv u s2 x y H2 I2 rx ry q=>?_;obtain⟨i,j,rfl,rfl,q⟩:=q;obtain⟨t,rfl⟩:=rx;obtain⟨t',rfl⟩:=ry;exact rule i j t t' _ s2 ⟨.bl _,H2,I2,rfl,q⟩
theorem Ge(ha:PE X a ta)(hb:PE X b tb):PC X .LtE a b (Om ta tb):=Oo ha hb λ_ _ _ _ _ _ h=>le_int h
def tB(t:TE):TT:=λσ H Q=>t σ H λx H1=>∃c,x=.bl c∧Q c H1
theorem Gf{t:TE}(h:PC X op a b t)(h1:behindInMarks op b=false:=by first|exact Ol _ (by decide) (by decide)|rfl):PT X (.Compare a [op] [b] pos) (tB t):=by
 intro aI s σ H Q I hw;refine wpAny_isTrue_Compare1 (bj (h aI s σ H _ I hw) λv s1 h1=>bj h1 λu s2 h2=>bj h2 λc s3 ⟨x,H1,I1,r1,q1⟩=>?_) h1;obtain⟨d,rfl,q⟩:=q1;cases r1;exact aj ⟨H1,I1,q⟩
theorem qQ{t:TE}(h:PE X e t)(he:∀qM,isTrue e X.env qM=(do let v ← qM;standAt e.pos;holding [v] (truthy v)):=by intro _;rfl):PT X e (tB t):=by
 intro aI s σ H Q I hw;refine isTrue_plain (bj (h aI s σ H _ I hw) λv s1 ⟨x,H1,I1,r1,q1⟩=>?_) (he _);obtain⟨d,rfl,q⟩:=q1;cases r1;exact aj ⟨H1,I1,q⟩
variable{tA xV:TT}{ef:List Expr}
def sU(t u:TT):TT:=λσ H Q=>t σ H λc H1=>if c=true then u σ H1 Q else Q false H1
def Gg(t u:TT):TT:=λσ H Q=>t σ H λc H1=>if c=true then Q true H1 else u σ H1 Q
def BS(t:TT):TT:=λσ H Q=>t σ H λc H1=>Q (!c) H1
theorem vw(ha:PT X a tA):PW X (.BoolOp .And [a] pos) tA:=by
 intro wh aI s σ H Q I h;refine isTrue_and (bj (ha aI s σ H Q I h) λc s1 e=>?_);cases c with
 |true=>exact isTrue_and_nil e
 |false=>exact e
theorem Gh(ha:PT X a tA):PW X (.BoolOp .Or [a] pos) tA:=by
 intro wh aI s σ H Q I h;refine isTrue_or (bj (ha aI s σ H Q I h) λc s1 e=>?_);cases c with
 |false=>exact isTrue_or_nil e
 |true=>exact e
theorem sV(ha:PT X a tA)(hb:PW X (.BoolOp .And (b::ef) pos) xV):PW X (.BoolOp .And (a::b::ef) pos) (sU tA xV):=by
 intro wh aI s σ H Q I h;refine isTrue_and (bj (ha aI s σ H _ I h) λc s1 ⟨H1,I1,q1⟩=>?_);cases c with
 |true=>exact hb wh aI s1 σ H1 Q I1 q1
 |false=>exact⟨H1,I1,q1⟩
theorem xW(ha:PT X a tA)(hb:PW X (.BoolOp .Or (b::ef) pos) xV):PW X (.BoolOp .Or (a::b::ef) pos) (Gg tA xV):=by
 intro wh aI s σ H Q I h;refine isTrue_or (bj (ha aI s σ H _ I h) λc s1 ⟨H1,I1,q1⟩=>?_);cases c with
 |true=>exact⟨H1,I1,q1⟩
 |false=>exact hb wh aI s1 σ H1 Q I1 q1
theorem vx(ha:PT X a tA):PT X (.UnaryOp .Not a pos) (BS tA):=by
 intro aI s σ H Q I h;exact isTrue_not (ha aI s σ H (λc H1=>Q (!c) H1) I h)
def Oq(t:TT)(ta tb:TE):TE:=λσ H Q=>t σ H λc H1=>if c=true then ta σ H1 Q else tb σ H1 Q
theorem Gi(hc:PT X c tA)(ha:PE X a ta)(hb:PE X b tb):PE X (.IfExp c a b pos) (Oq tA ta tb):=by
 intro aI s σ H Q I h;refine wpAny_IfExp (bj (hc aI s σ H _ I h) λd s1 ⟨H1,I1,q1⟩=>?_);cases d with
 |true=>exact ha aI s1 σ H1 Q I1 q1
 |false=>exact hb aI s1 σ H1 Q I1 q1
end
def cM(K:Frag)(H:Hp)(a:Addr)(xs:List V):Prop:=
 Rd H a (.lst xs) ∨
  ∃(o:Obj)(its:Array Value)(n:Nat),K.lookup a=some o∧o.cls=.type "list"∧o.dict=none∧o.data=.seq its n∧its.size≤sizeLine∧Vals xs its.toList
def aZ(K:Frag)(H:Hp)(a:Addr)(xs:List V):Prop:=
 Rd H a (.tup xs) ∨
  ∃(o:Obj)(its:Array Value)(n:Nat),K.lookup a=some o∧o.cls=.type "tuple"∧o.data=.seq its n∧its.size≤sizeLine∧Vals xs its.toList
noncomputable def Ot:Value→Option V
 | .none=>some .cI
 | .bool b=>some (.bl b)
 | .int i _=>some (.int i)
 | .str x _=>some (.str x)
 | .bytes b _=>some (.ku b)
 | .float b _=>some (.sQ b)
 | .ref a=>some (.ref a)
 | .type n=>some (.ty n)
 |_=>none
theorem RelV.abs{x:V}(r:RelV x u):Ot u=some x:=by
 cases x with
 |cI=>cases r;rfl
 |bl _=>cases r;rfl
 |int _=>obtain⟨t,rfl⟩:=r;rfl
 |str _=>obtain⟨t,rfl⟩:=r;rfl
 |ku _=>obtain⟨t,rfl⟩:=r;rfl
 |sQ _=>obtain⟨t,rfl⟩:=r;rfl
 |ref _=>cases r;rfl
 |ty _=>cases r;rfl
theorem RelV.inj{x y:V}{u:Value}(r:RelV x u)(q:RelV y u):x=y:=dj (r.abs.symm.trans q.abs)
theorem Vals.inj:∀{xs ys:List V}{us:List Value},Vals xs us→Vals ys us→xs=ys
 |_,_,_,.nil,.nil=>rfl
 |_,_,_,.cons r t,.cons r' t'=>by rw[r.inj r',Vals.inj t t']
section
variable{X:Cx}{aI:List (Addr×Obj)}{σ:St}{H:Hp}{s:Shared}{a:Addr}{xs ys:List V}
theorem cM.of{K:Frag}(h:H a=some (.lst xs)):cM K H a xs:=.inl (.inl h)
theorem aZ.of{K:Frag}(h:H a=some (.tup xs)):aZ K H a xs:=.inl (.inl h)
theorem Inv.list(I:Inv X aI σ H s)(h:cM X.K H a xs):∃its:List Value,Vals xs its∧PlainL s.heap a its.toArray∧xs.length≤sizeLine:=by
 rcases h with h|⟨o,its,n,hk,hc,hd,hs,hz,r⟩
 ·obtain⟨z,its,n,r,e⟩:=h.ok I.bH;exact⟨its,r,⟨_,n,e,rfl,rfl,rfl⟩,z⟩
 ·refine⟨its.toList,r,⟨o,n,I.ff a o hk,hc,hd,by simpa using hs⟩,?_⟩;have e:=r.length;simp only[Array.length_toList]at e;lia
theorem Inv.tuple(I:Inv X aI σ H s)(h:aZ X.K H a xs):∃its:List Value,Vals xs its∧IsTup s.heap a its.toArray∧xs.length≤sizeLine:=by
 rcases h with h|⟨o,its,n,hk,hc,hs,hz,r⟩
 ·obtain⟨z,its,r,p⟩:=h.ok I.bH;exact⟨its,r,p.tup,z⟩
 ·refine⟨its.toList,r,⟨o,I.ff a o hk,hc,n,by simpa using hs⟩,?_⟩;have e:=r.length;simp only[Array.length_toList]at e;lia
theorem Inv.Gj(I:Inv X aI σ H s)(h:cM X.K H a xs)(h':cM X.K H a ys):xs=ys:=by
 obtain⟨its,r,⟨o,n,e,_,_,d⟩,_⟩:=I.list h;obtain⟨its',r',⟨o',n',e',_,_,d'⟩,_⟩:=I.list h';rw[e]at e';cases e';rw[d]at d';injection d' with d1 _
 have:its=its':=by simpa using ao Array.toList d1
 subst this;exact r.inj r'
theorem Inv.Gk(I:Inv X aI σ H s)(h:aZ X.K H a xs)(h':aZ X.K H a ys):xs=ys:=by
 obtain⟨its,r,⟨o,e,_,n,d⟩,_⟩:=I.tuple h;obtain⟨its',r',⟨o',e',_,n',d'⟩,_⟩:=I.tuple h';rw[e]at e';cases e';rw[d]at d';injection d' with d1 _
 have:its=its':=by simpa using ao Array.toList d1
 subst this;exact r.inj r'
end
noncomputable abbrev Cx.mx(X:Cx)(E:QV):Cx:={ X with xe:=E }
noncomputable abbrev Cx.jY(X:Cx):Cx:=X.mx λ_ _=>False
theorem Cx.Ok.mx{X:Cx}(ok:X.Ok)(E:QV):(X.mx E).Ok:=
 ⟨ok.mod,ok.kind,ok.glob,ok.blt,ok.above,ok.inj,ok.has,ok.vk,ok.hd,ok.frames,ok.xR,ok.vm,ok.bs,ok.oW,ok.vn,ok.sS,ok.lI,ok.qJ⟩
theorem Cx.Ok.oX(ok:(X.mx E).Ok):X.Ok:=
 ⟨ok.mod,ok.kind,ok.glob,ok.blt,ok.above,ok.inj,ok.has,ok.vk,ok.hd,ok.frames,ok.xR,ok.vm,ok.bs,ok.oW,ok.vn,ok.sS,ok.lI,ok.qJ⟩
section
variable{X:Cx}{aI:List (Addr×Obj)}{σ:St}{H:Hp}{s:Shared}{E:QV}
theorem Inv.mx(I:Inv X aI σ H s)(E:QV):Inv (X.mx E) aI σ H s:=⟨I.ok.mx E,I.os,I.bare,I.base,I.loc,I.cell,I.free,I.mw,I.pin,I.bH,I.len⟩
theorem Inv.oX(I:Inv (X.mx E) aI σ H s):Inv X aI σ H s:=⟨I.ok.oX,I.os,I.bare,I.base,I.loc,I.cell,I.free,I.mw,I.pin,I.bH,I.len⟩
theorem SP.oX{D:Ends}{f:Flow}{s':Shared}(h:SP (X.mx E) aI D f s'):SP X aI D f s':=by
 cases f with
 |next=>obtain⟨σ',H',I,q⟩:=h;exact⟨σ',H',I.oX,q⟩
 |brk=>obtain⟨σ',H',I,q⟩:=h;exact⟨σ',H',I.oX,q⟩
 |cont=>obtain⟨σ',H',I,q⟩:=h;exact⟨σ',H',I.oX,q⟩
 |ret u=>obtain⟨v,σ',H',I,r,q⟩:=h;exact⟨v,σ',H',I.oX,r,q⟩
theorem PE.jY{e:Expr}{t:TE}(h:PE X.jY e t):PE X e t:=λaI s σ H Q I hw=>
 ai (h aI s σ H Q (I.mx _) hw) (λ_ _ ⟨v,H',I',r,q⟩=>⟨v,H',I'.oX,r,q⟩) λ_ _ z=>False.elim z
theorem iX.jY{st:List Stmt}{t:TS}(h:iX X.jY st t):iX X st t:=λaI s σ H D I hw=>
 ai (h aI s σ H D (I.mx _) hw) (λ_ _ q=>q.oX) λ_ _ z=>False.elim z
end
section
variable{X:Cx}{st:Stmt}{ef:List Stmt}{t u:TS}{e:Expr}{te:TE}{pos:Pos}
def gR:TS:=λD σ H=>D.nx σ H
def bZ(t u:TS):TS:=λD σ H=>t { D with nx:=u D } σ H
theorem fg:iX X [] gR:=λ_ _ σ H _ I h=>wpAny_execs_nil ⟨σ,H,I,h⟩
theorem bh(h1:PS X st t)(h2:iX X ef u):iX X (st::ef) (bZ t u):=by
 intro aI s σ H D I h;refine wpAny_execs_cons (bj (h1 aI s σ H { D with nx:=u D } I h) λf s1 q=>?_);cases f with
 |next=>
  obtain⟨σ',H',I',q⟩:=q;exact h2 aI s1 σ' H' D I' q
 |ret v=>exact q
 |brk=>exact q
 |cont=>exact q
theorem bK(h1:PS X st t):iX X [st] t:=by
 intro aI s σ H D I h;refine wpAny_execs_cons (bj (h1 aI s σ H D I h) λf s1 q=>?_);cases f with
 |next=>exact wpAny_execs_nil q
 |ret v=>exact q
 |brk=>exact q
 |cont=>exact q
def Gm:TS:=λD σ H=>D.ct σ H
theorem Ou:PS X (.Continue pos) Gm:=λ_ _ σ H _ I h=>wpAny_Continue ⟨σ,H,I,h⟩
theorem Inv.quiet(I:Inv X aI σ H s):interactive X.env=false:=by simp[interactive,I.ok.kind]
def qR(te:TE):TS:=λD σ H=>te σ H λ_ H1=>D.nx σ H1
theorem ky(he:PE X e te)(hs:swapsWith e none pos.line X.env=pure false:=by rfl):PS X (.Expr e pos) (qR te):=by
 intro aI s σ H D I h;exact wpAny_Expr_any (bj (he aI s σ H _ I h) λv s1 ⟨x,H1,I1,r1,q1⟩=>⟨σ,H1,I1,q1⟩) I.quiet hs
def eA(te:TE):TS:=λD σ H=>te σ H D.rt
theorem cQ(he:PE X e te):PS X (.Return (some e) pos) (eA te):=by
 intro aI s σ H D I h;exact wpAny_Return_some (bj (he aI s σ H _ I h) λv s1 ⟨x,H1,I1,r1,q1⟩=>⟨x,σ,H1,I1,r1,q1⟩)
def eU(c:TT)(t u:TS):TS:=λD σ H=>c σ H λb H1=>if b=true then t D σ H1 else u D σ H1
theorem dX{a b:List Stmt}{tc:TT}(hc:PT X c tc)(ha:iX X a t)(hb:iX X b u):PS X (.If c a b pos) (eU tc t u):=by
 intro aI s σ H D I h;refine wpAny_If (bj (hc aI s σ H _ I h) λd s1 ⟨H1,I1,q1⟩=>?_);cases d with
 |true=>exact ha aI s1 σ H1 D I1 q1
 |false=>exact hb aI s1 σ H1 D I1 q1
def Ov:TS:=λ_ _ _=>False
theorem Ow{Ox:List Stmt}:iX X Ox Ov:=λ_ _ _ _ _ _ h=>h.elim
end
abbrev TG:=V→St→Hp→(St→Hp→Prop)→Prop
abbrev pW:=List V→St→Hp→(St→Hp→Prop)→Prop
def PG(X:Cx)(target:Expr)(t:TG):Prop:=
 ∀(aI:List (Addr×Obj))(s:Shared)(σ:St)(H:Hp)(v:V)(u:Value)(Q:St→Hp→Prop),Inv X aI σ H s→RelV v u→t v σ H Q→
  wpAny (model X.prog X.w) X.A (assign target X.env u) (λ_ s'=>∃σ' H',Inv X aI σ' H' s'∧Q σ' H') X.xe s
def vy(X:Cx)(ts:List Expr)(t:pW):Prop:=
 ∀(aI:List (Addr×Obj))(s:Shared)(σ:St)(H:Hp)(vs:List V)(us:List Value)(Q:St→Hp→Prop),Inv X aI σ H s→Vals vs us→t vs σ H Q→
  wpAny (model X.prog X.w) X.A (assignInOrder ((assignEach ts X.env).map (·.2)) us) (λ_ s'=>∃σ' H',Inv X aI σ' H' s'∧Q σ' H') X.xe s
abbrev BU:=V→V→V→Hp→(Hp→Prop)→Prop
def Gn(X:Cx)(t:BU):Prop:=
 ∀(aI:List (Addr×Obj))(s:Shared)(σ:St)(H:Hp)(o i v:V)(ov iv u:Value)(Q:Hp→Prop),Inv X aI σ H s→RelV o ov→RelV i iv→RelV v u→t o i v H Q→
  wpAny (model X.prog X.w) X.A (setItem ov iv u) (λ_ s'=>∃H',Inv X aI σ H' s'∧Q H') X.xe s
section
variable{X:Cx}{pos:Pos}
def bq(i:Nat):TG:=λv σ H Q=>Q (σ.set i (some v)) H
theorem cq(hN:X.N.Nodup)(hi:X.N[i]?=some x)(hx:Loc X.env.scope x)(hf:X.fn x=true∨X.env.scope.names.lookup x=some .local:=by first|exact .inl rfl|exact .inr rfl|assumption):PG X (.Name x pos) (bq i):=by
 intro aI s σ H v u Q I r h;exact wpAny_assign_Name (Gb I hN hi hx r (λs' I'=>⟨_,H,I',h⟩) hf)
def sW:pW:=λvs σ H Q=>vs=[]∧Q σ H
def iY(t:TG)(u:pW):pW:=λvs σ H Q=>∃v r,vs=v::r∧t v σ H λσ' H'=>u r σ' H' Q
theorem oY:vy X [] sW:=by
 intro aI s σ H vs us Q I r h;obtain⟨e,h⟩:=h;subst e;cases r;exact assignInOrder_nil ⟨σ,H,I,h⟩
theorem eV{es:List Expr}{t:TG}{u:pW}(h1:PG X e t)(h2:vy X es u)
  (hs:(assignEach (e::es) X.env).map (·.2)=assign e X.env::(assignEach es X.env).map (·.2):=by rfl):vy X (e::es) (iY t u):=by
 intro aI s σ H vs us Q I r h;obtain⟨v,vr,e1,h⟩:=h;subst e1;cases r with
 |cons r rr=>
  rw[hs];refine assignInOrder_cons (bj (h1 aI s σ H _ _ _ I r h) λ_ s1 ⟨σ1,H1,I1,q1⟩=>?_);exact h2 aI s1 σ1 H1 _ _ Q I1 rr q1
def qS(K:Frag)(n:Nat)(t:pW):TG:=λv σ H Q=>∃a xs,v=.ref a∧aZ K H a xs∧xs.length=n∧t xs σ H Q
theorem Oy{es:List Expr}{k:Nat}{t:pW}{n:Nat}(hc:X.calm=true)(h:vy X es t)
  (hn:(assignEach es X.env).length=n:=by rfl) (BV:(assignEach es X.env).findIdx? (·.1)=none:=by rfl):PG X (.Tuple es k pos) (qS X.K n t):=by
 intro aI s σ H v u Q I r hw;obtain⟨a,xs,e1,hq,hl,hw⟩:=hw;subst e1;cases r;obtain⟨its,rv,ht,hz⟩:=I.tuple hq;refine assign_Tuple_tuple (I.ok.hd hc) ht (by simp[hn,← hl,rv.length]) BV λh' hx=>?_;have I1:Inv X aI σ H { s with heap:=h' }:=I.kept (t':=s.toks) λb o e=>hx b o (gX (dG e)) e;exact h aI _ σ H xs _ Q I1 (by simpa using rv) hw
def Gp(to ti:TE)(t:BU):TG:=λv σ H Q=>to σ H λo H1=>ti σ H1 λi H2=>t o i v H2 λH3=>Q σ H3
theorem Oz{o i:Expr}{to ti:TE}{t:BU}(ho:PE X o to)(hi:PE X i ti)(hs:Gn X t)
  (ha:∀v,assign (.Subscript o i pos) X.env v=(do
   let ov ← holding [v] (eval o X.env)
   let iv ← holding [v,ov] (eval i X.env)
   standAt pos
   holding [v,ov,iv] (setItem ov iv v)
   release [v,ov,iv] []):=by intro _;rfl):PG X (.Subscript o i pos) (Gp to ti t):=by
 intro aI s σ H v u Q I r h;rw[ha];refine aq (ar (bj (ho aI s σ H _ I h) λov s1 ⟨x,H1,I1,r1,q1⟩=>?_));refine aq (ar (bj (hi aI s1 σ H1 _ I1 q1) λiv s2 ⟨y,H2,I2,r2,q2⟩=>?_));refine aq (wpAny_standAt (aq (ar (bj (hs aI s2 σ H2 x y v ov iv u _ I2 r1 r2 r q2) λ_ s3 ⟨H3,I3,q3⟩=>?_))));exact wpAny_release ⟨σ,H3,I3,q3⟩
def cy(te:TE)(g:TG):TS:=λD σ H=>te σ H λx H1=>g x σ H1 D.nx
theorem sX{te:TE}(he:PE X e te)(hg:PG X tg g)(hs:swapsWithSole [tg] e pos.line X.env=pure false:=by rfl)(hw:swappedStores [tg] e X.env=pure none:=by rfl)
  (h1:(assignEach [tg] X.env).map (·.2)=[assign tg X.env]:=by rfl):PS X (.Assign [tg] e pos) (cy te g):=by
 intro aI s σ H D I h;refine wpAny_Assign_stores (bj (he aI s σ H _ I h) λv s1 ⟨x,H1,I1,r1,q1⟩=>?_) hs hw;rw[h1];exact bj (hg aI s1 σ H1 x v _ I1 r1 q1) λ_ s2 q=>q
theorem bY{te:TE}{my:Pos}(hN:X.N.Nodup)(hi:X.N[i]?=some x)(hx:Loc X.env.scope x)(he:PE X e te)(hs:swapsWith e (some (.Name x my)) pos.line X.env=pure false:=by rfl)(hf:X.fn x=true∨X.env.scope.names.lookup x=some .local:=by first|exact .inl rfl|exact .inr rfl|assumption) :
  PS X (.Assign [.Name x my] e pos) (cy te (bq i)):=by
 intro aI s σ H D I h;refine wpAny_Assign_Name (bj (he aI s σ H _ I h) λv s1 ⟨y,H1,I1,r1,q1⟩=>?_) hs;exact Gb I1 hN hi hx r1 (λs2 I2=>⟨_,H1,I2,q1⟩) hf
end
section
variable{X:Cx}{pos:Pos}
def Gq(c:TT)(tb:TS):TS:=λD σ H=>∃W:Nat→St→Hp→Prop,(∃m,W m σ H)∧∀m σ H,W m σ H→
 c σ H λb H1=>if b=true then ∃N:St→Hp→Prop,(∀σ' H',N σ' H'→∃m',m'<m∧W m' σ' H')∧tb { D with nx:=N,ct:=N,bk:=D.nx } σ H1 else D.nx σ H1
theorem OA{tc:TT}(hp:PassesOwn (model X.prog X.w) X.A X.env X.xe)(hc:PT X c tc)(hb:iX X body tb):PS X (.While c body [] pos) (Gq tc tb):=by
 intro aI s σ H D I h;obtain⟨W,⟨m0,w0⟩,mz⟩:=h;refine wpAny_While (codeAny_whileLoop (λn s'=>∃σ' H',Inv X aI σ' H' s'∧W n σ' H') ?_ m0 ⟨σ,H,I,w0⟩);rintro n s1 ⟨σ1,H1,I1,w1⟩;refine au hp (bj (hc aI s1 σ1 H1 _ I1 (mz n σ1 H1 w1)) λb s2 ⟨H2,I2,q2⟩=>?_);cases b with
 |true=>
  obtain⟨N,hN,q2⟩:=q2;rw[ae rfl];refine au hp (bj (hb aI s2 σ1 H2 _ I2 q2) λf s3 q3=>?_);cases f with
  |next=>
   obtain⟨σ3,H3,I3,n3⟩:=q3;obtain⟨m',hm,w3⟩:=hN σ3 H3 n3;exact⟨m',hm,σ3,H3,I3,w3⟩
  |cont=>
   obtain⟨σ3,H3,I3,n3⟩:=q3;obtain⟨m',hm,w3⟩:=hN σ3 H3 n3;exact⟨m',hm,σ3,H3,I3,w3⟩
  |brk=>exact q3
  |ret v=>exact q3
 |false=>
  rw[ah gy];exact wpAny_execs_nil ⟨σ1,H2,I2,q2⟩
end
structure It where
 go:Nat→Hp→Prop
 oZ:Nat→Hp→V→Hp→Prop
 stop:Nat→Hp→Prop
def jk(X:Cx)(aI:List (Addr×Obj))(H:Hp)(b:Addr):Prop:=
 H b=none∧b≠X.env.locals∧b ∉ X.fs∧(b∈X.ex∨X.s₀.heap.objs.size≤b)∧(∀x c,X.env.cells.lookup x=some c→c≠b)∧∀p∈X.pn++aI,p.1≠b
theorem Inv.pX{H':Hp}(I:Inv X aI σ H s)(hb:s.heap.objs.size≤b)(hn:H' b=none):jk X aI H' b:=by
 refine⟨hn,Nat.ne_of_gt (ip I.lt hb),I.Oa hb,.inr (ft I.sz hb),λx c e z=>?_,λp hp z=>?_⟩
 ·obtain⟨v,q⟩:=I.cell x c e;exact absurd (ip q.lt (by rw[z];exact hb)) (sG _)
 ·exact absurd (ip (dG (I.pin p hp).1) (by rw[z];exact hb)) (sG _)
structure Turn(P:Program)(w:World)(K:Frag)(tg:Expr)(J:It)(fp:List Addr)(it:Addr)(tn:Nat→Heap→Prop):Prop where
 mem:it∈fp
 obj:∀i h,tn i h→∀b∈fp,∃o,h.get? b=some o∧∀v,o.data≠.cell v
 keep:∀i h h',tn i h→(∀b∈fp,∀o,h.get? b=some o→h'.get? b=some o)→tn i h'
 item:∀(X:Cx),X.prog=P→X.w=w→X.K=K→X.calm=true→∀(i:Nat)(aI:List (Addr×Obj))(s:Shared)(σ:St)(H:Hp)(E:QV),Inv X aI σ H s→(∀b∈fp,jk X aI H b)→tn i s.heap→J.go i H→
  wpAny (model P w) X.A (pyNext (.ref it)) (λr s1=>∃u,r=some u∧
   wpAny (model P w) X.A (letOwnedTupleGo tg (.ref it) u) (λ_ s2=>∃x H',Inv X aI σ H' s2∧RelV x u∧J.oZ i H x H'∧tn (i+1) s2.heap∧∀b∈fp,H' b=none) E s1) E s
 done:∀(X:Cx),X.prog=P→X.w=w→X.K=K→X.calm=true→∀(i:Nat)(aI:List (Addr×Obj))(s:Shared)(σ:St)(H:Hp)(E:QV),Inv X aI σ H s→(∀b∈fp,jk X aI H b)→tn i s.heap→J.stop i H→
  wpAny (model P w) X.A (pyNext (.ref it)) (λr s1=>r=none∧Inv X aI σ H s1) E s
 self:∀(A:Around)(i:Nat)(s:Shared)(Q:QV)(E:QV),tn i s.heap→Q (.ref it) s→wpAny (model P w) A (pyIter (.ref it)) Q E s
abbrev TI:=St→Hp→(It→Hp→Prop)→Prop
def BW(X:Cx)(aI:List (Addr×Obj))(σ:St)(tg:Expr)(R:It→Hp→Prop)(xX:Value)(s2:Shared):Prop:=
 ∃(it:Addr)(fp:List Addr)(tn:Nat→Heap→Prop)(J:It)(H':Hp),xX=.ref it∧Inv X aI σ H' s2∧Turn X.prog X.w X.K tg J fp it tn∧tn 0 s2.heap∧(∀b∈fp,jk X aI H' b)∧R J H'
def PI(X:Cx)(tg iter:Expr)(wi:TI):Prop:=
 ∀(aI:List (Addr×Obj))(s:Shared)(σ:St)(H:Hp)(R:It→Hp→Prop),Inv X aI σ H s→wi σ H R→
  wpAny (model X.prog X.w) X.A (eval iter X.env) (λv s1=>wpAny (model X.prog X.w) X.A (pyIter v) (BW X aI σ tg R) X.xe s1) X.xe s
theorem xY{it:Addr}{n:String}{vs:Array Value}(ho:s.heap.get? it=some o)(hc:o.cls=.type n)(hd:o.data=.fields vs)
  (hn:["enumerate","zip","dict_itemiterator","dict_reverseitemiterator","odict_iterator","itertools.zip_longest","itertools.pairwise"].contains n=false) (hQ:Q () s):wpAny M A (letOwnedTupleGo tg (.ref it) u) Q E s:=by
 unfold letOwnedTupleGo;cases tg<;>first
  |exact av hQ
  |(cases u<;>first
    |exact av hQ
    |(refine aq (wpAny_load ho ?_);rw[hc,hd];show wpAny M A (if(["enumerate","zip","dict_itemiterator","dict_reverseitemiterator","odict_iterator","itertools.zip_longest","itertools.pairwise"].contains n&&vs[0]? == some (rawInt _))=true then _ else _) Q E s;rw[ah (by intro h;rw[hn,Bool.false_and]at h;cases h)];exact av hQ))
noncomputable def mE(K:Frag)(a:Addr):It:=
 ⟨λi H=>∃xs x,cM K H a xs∧xs[i]?=some x,λi H x H'=>H'=H∧∀xs,cM K H a xs→xs[i]?=some x,λi H=>∃xs,cM K H a xs∧xs.length≤i⟩
noncomputable def nV(K:Frag)(a:Addr):It:=
 ⟨λi H=>∃xs x,aZ K H a xs∧xs[i]?=some x,λi H x H'=>H'=H∧∀xs,aZ K H a xs→xs[i]?=some x,λi H=>∃xs,aZ K H a xs∧xs.length≤i⟩
noncomputable def o7(lo:Int)(n:Nat):It:=⟨λi _=>i<n,λi H x H'=>H'=H∧x=.int (lo+i),λi _=>n≤i⟩
theorem OB{P:Program}{w:World}{K:Frag}(a it:Addr):Turn P w K tg (mE K a) [it] it (λi h=>h.IsListIter it a i) where
 mem:=by simp
 obj:=λi h st b hb=>by
  have e:b=it:=by simpa using hb
  subst e;obtain⟨o,e,c,d⟩:=st;exact⟨o,e,λv z=>by rw[d]at z;cases z⟩
 keep:=λi h h' st k=>st.at λo e=>k it (by simp) o e
 item:=by
  intro X hP hw hK hc i aI s σ H E I hf st hg;subst hP hw hK;obtain⟨xs,x,hq,hx⟩:=hg;obtain⟨its,rv,p,hz⟩:=I.list hq;obtain⟨u,hu,ru⟩:=rv.get hx;obtain⟨f0,f1,f2,f3,f4,f5⟩:=hf it (by simp);refine wpAny_pyNext_list_item st p.isList (x:=u) (by simpa using hu) λh' mG sb=>?_;have I1:Inv X aI σ H { s with heap:=h' }:=I.turned (t':=s.toks) (λb o hb e=>(sb.2 b hb).trans e) f0 f1 f3 f4 f5;obtain⟨o,e,c,d⟩:=id mG;exact⟨u,rfl,xY (s:={ s with heap:=h' }) e c d (by decide) ⟨x,H,I1,ru,⟨rfl,λys hy=>by rw[I.Gj hy hq];exact hx⟩,mG,λb hb=>(hf b hb).1⟩⟩
 done:=by
  intro X hP hw hK hc i aI s σ H E I hf st hg;subst hP hw hK;obtain⟨xs,hq,hx⟩:=hg;obtain⟨its,rv,p,hz⟩:=I.list hq;obtain⟨f0,f1,f2,f3,f4,f5⟩:=hf it (by simp);have hl:=rv.length;exact wpAny_pyNext_list_end (I.ok.hd hc) st p.isList (by simp;lia) λh' eb=>⟨rfl,I.turned (t':=s.toks) (λb o hb e=>eb b o hb e) f0 f1 f3 f4 f5⟩
 self:=λ_ _ _ _ _ st h=>wpAny_pyIter_listiter st h
theorem OC{P:Program}{w:World}{K:Frag}(a it:Addr):Turn P w K tg (nV K a) [it] it (λi h=>h.IsTupleIter it a i) where
 mem:=by simp
 obj:=λi h st b hb=>by
  have e:b=it:=by simpa using hb
  subst e;obtain⟨o,e,c,d⟩:=st;exact⟨o,e,λv z=>by rw[d]at z;cases z⟩
 keep:=λi h h' st k=>st.at λo e=>k it (by simp) o e
 item:=by
  intro X hP hw hK hc i aI s σ H E I hf st hg;subst hP hw hK;obtain⟨xs,x,hq,hx⟩:=hg;obtain⟨its,rv,p,hz⟩:=I.tuple hq;obtain⟨u,hu,ru⟩:=rv.get hx;obtain⟨f0,f1,f2,f3,f4,f5⟩:=hf it (by simp);refine wpAny_pyNext_tuple_item st (show s.heap.IsTuple a its.toArray from p) (x:=u) (by simpa using hu) λh' mG sb=>?_
  have I1:Inv X aI σ H { s with heap:=h' }:=I.turned (t':=s.toks) (λb o hb e=>(sb.2 b hb).trans e) f0 f1 f3 f4 f5;obtain⟨o,e,c,d⟩:=id mG;exact⟨u,rfl,xY (s:={ s with heap:=h' }) e c d (by decide) ⟨x,H,I1,ru,⟨rfl,λys hy=>by rw[I.Gk hy hq];exact hx⟩,mG,λb hb=>(hf b hb).1⟩⟩
 done:=by
  intro X hP hw hK hc i aI s σ H E I hf st hg;subst hP hw hK;obtain⟨xs,hq,hx⟩:=hg;obtain⟨its,rv,p,hz⟩:=I.tuple hq;obtain⟨f0,f1,f2,f3,f4,f5⟩:=hf it (by simp);have hl:=rv.length;exact wpAny_pyNext_tuple_end (I.ok.hd hc) st (show s.heap.IsTuple a its.toArray from p) (by simp;lia) λh' eb=>⟨rfl,I.turned (t':=s.toks) (λb o hb e=>eb b o hb e) f0 f1 f3 f4 f5⟩
 self:=λ_ _ _ _ _ st h=>wpAny_pyIter_tupleiter st h
theorem OD{P:Program}{w:World}{K:Frag}(it:Addr)(lo:Int)(n:Nat):Turn P w K tg (o7 lo n) [it] it (λi h=>IsRangeIter h it (lo+(i:Nat)*1) ((n:Int)-(i:Nat)) 1) where
 mem:=by simp
 obj:=λi h st b hb=>by
  have e:b=it:=by simpa using hb
  subst e;exact⟨_,st,λv z=>by
   have z':Data.fields _=Data.cell v:=z;cases z'⟩
 keep:=λi h h' st k=>k it (by simp) _ st
 item:=by
  intro X hP hw hK hc i aI s σ H E I hf st hg;subst hP hw hK;obtain⟨f0,f1,f2,f3,f4,f5⟩:=hf it (by simp);have W:=Walks.range (prog:=X.prog) (w:=X.w) (I.ok.hd hc) it lo 1 n;refine W.item i s _ _ hg st λv h' tk hv mG kk=>?_;obtain⟨t,rfl⟩:=hv;have I1:Inv X aI σ H { s with heap:=h',toks:=tk }:=I.turned (λb o hb e=>kk b o (by simpa using hb) e) f0 f1 f3 f4 f5;refine⟨_,rfl,xY (s:={ s with heap:=h',toks:=tk }) (n := "range_iterator") mG rfl rfl (by decide) ⟨.int (lo+i),H,I1,⟨t,?_⟩,⟨rfl,rfl⟩,mG,λb hb=>(hf b hb).1⟩⟩;rw[Int.mul_one]
 done:=by
  intro X hP hw hK hc i aI s σ H E I hf st hg;subst hP hw hK;obtain⟨f0,f1,f2,f3,f4,f5⟩:=hf it (by simp);exact wpAny_pyNext_range_end (I.ok.hd hc) st (by have:n≤i:=hg;lia) λh' eb=>⟨rfl,I.turned (t':=s.toks) (λb o hb e=>eb b o hb e) f0 f1 f3 f4 f5⟩
 self:=λ_ _ _ _ _ st h=>wpAny_pyIter_rangeiter st h
section
variable{X:Cx}{tg:Expr}
def mH(K:Frag)(tl:TE):TI:=λσ H R=>tl σ H λx H1=>∃a,x=.ref a∧(∃xs,cM K H1 a xs)∧R (mE K a) H1
def nW(K:Frag)(tl:TE):TI:=λσ H R=>tl σ H λx H1=>∃a,x=.ref a∧(∃xs,aZ K H1 a xs)∧R (nV K a) H1
theorem OE{l:Expr}{tl:TE}(hl:PE X l tl):PI X tg l (mH X.K tl):=by
 intro aI s σ H R I h;refine bj (hl aI s σ H _ I h) λv s1 ⟨x,H1,I1,r1,q1⟩=>?_;obtain⟨a,e,⟨xs,hq⟩,q⟩:=q1;subst e;cases r1;obtain⟨its,rv,p,hz⟩:=I1.list hq;refine wpAny_pyIter_list p.isList ?_;refine⟨s1.heap.objs.size,[s1.heap.objs.size],_,_,H1,rfl,I1.kept (t':=s1.toks) λb o e=>dH _ e,OB a _,⟨_,ij _ rfl,rfl,rfl⟩,λb hb=>?_,q⟩;have e:b=s1.heap.objs.size:=by simpa using hb
 subst e;exact I1.pX (ck _) (I1.bH.fresh (ck _))
theorem OF{l:Expr}{tl:TE}(hl:PE X l tl):PI X tg l (nW X.K tl):=by
 intro aI s σ H R I h;refine bj (hl aI s σ H _ I h) λv s1 ⟨x,H1,I1,r1,q1⟩=>?_;obtain⟨a,e,⟨xs,hq⟩,q⟩:=q1;subst e;cases r1;obtain⟨its,rv,p,hz⟩:=I1.tuple hq;refine wpAny_pyIter_tuple (show s1.heap.IsTuple a its.toArray from p) ?_
 refine⟨s1.heap.objs.size,[s1.heap.objs.size],_,_,H1,rfl,I1.kept (t':=s1.toks) λb o e=>dH _ e,OC a _,⟨_,ij _ rfl,rfl,rfl⟩,λb hb=>?_,q⟩;have e:b=s1.heap.objs.size:=by simpa using hb
 subst e;exact I1.pX (ck _) (I1.bH.fresh (ck _))
theorem Gr{R:It→Hp→Prop}{lo hi:Int}{t u v:Tok}{tk:Nat}(I:Inv X aI σ H s)(h1:-(2^62)≤lo)(h2:lo<2^62)(h3:-(2^62)≤hi)(h4:hi<2^62)
  (q:R (o7 lo (hi-lo).toNat) H):wpAny (model X.prog X.w) X.A (pyIter (.ref s.heap.objs.size)) (BW X aI σ tg R) E { s with heap:=s.heap.push { cls:=.type "range",data:=.fields #[.int lo t,.int hi u,.int 1 v] },toks:=tk }:=by
 refine wpAny_pyIter_range (IsRange.new ..) (small_one h1 h2 h3 h4) ?_;have I1:Inv X aI σ H { s with heap:=s.heap.push { cls:=.type "range",data:=.fields #[.int lo t,.int hi u,.int 1 v] },toks:=tk }:=I.kept λb o e=>dH _ e;refine⟨(s.heap.push { cls:=.type "range",data:=.fields #[.int lo t,.int hi u,.int 1 v] }).objs.size,[(s.heap.push { cls:=.type "range",data:=.fields #[.int lo t,.int hi u,.int 1 v] }).objs.size],_,_,H,rfl,
  I1.kept (t':=tk) λb o e=>dH _ e,OD _ lo (hi-lo).toNat,?_,λb hb=>?_,q⟩
 ·have e1:lo+((0:Nat):Int)*1=lo:=by simp
  have e2:(((hi-lo).toNat:Nat):Int)-((0:Nat):Int)=Builtin.Range.rangeSize lo hi 1:=by rw[rangeSize_one];split<;>lia
  show IsRangeIter _ _ (lo+((0:Nat):Int)*1) ((((hi-lo).toNat:Nat):Int)-((0:Nat):Int)) 1;rw[e1,e2];exact ij _ rfl
 ·have e:b=(s.heap.push { cls:=.type "range",data:=.fields #[.int lo t,.int hi u,.int 1 v] }).objs.size:=by simpa using hb
  subst e;exact I1.pX (ck _) (I1.bH.fresh (ck _))
def Gs(ta:TA):TI:=λσ H R=>ta σ H λvs H1=>∃j:Int,vs=[.int j]∧-(2^62)≤j∧j<2^62∧R (o7 0 j.toNat) H1
def OG(ta:TA):TI:=λσ H R=>ta σ H λvs H1=>∃i j:Int,vs=[.int i,.int j]∧(-(2^62)≤i∧i<2^62∧-(2^62)≤j∧j<2^62)∧R (o7 i (j-i).toNat) H1
theorem nX{a:Expr}{ta:TA}{p pos:Pos}(hg:Gl X "range")(hm:X.mg "range"=none)(ha:PA X [a] ta)(hs:starEach [a] X.env=[(false,eval a X.env)]:=by rfl):PI X tg (.Call (.Name "range" p) [a] [] pos) (Gs ta):=by
 intro aI s σ H R I h;refine Call_ (qO I hg hm boot_range (BE (bj (ha pos aI s σ H _ I h) λus s1 ⟨vs,H1,I1,r1,q1⟩=>?_) hs rfl));obtain⟨j,e,q1,q2,q⟩:=q1;subst e;cases r1 with
 |cons r rr=>
  cases rr;obtain⟨t,rfl⟩:=r;exact call_range_1 (Gr I1 (by lia) (by lia) q1 q2 (by simpa using q))
theorem OH{a b:Expr}{ta:TA}{p pos:Pos}(hg:Gl X "range")(hm:X.mg "range"=none)(ha:PA X [a,b] ta)(hs:starEach [a,b] X.env=[(false,eval a X.env),(false,eval b X.env)]:=by rfl)(nY:starEach [b] X.env=[(false,eval b X.env)]:=by rfl) :
  PI X tg (.Call (.Name "range" p) [a,b] [] pos) (OG ta):=by
 intro aI s σ H R I h;refine Call_ (qO I hg hm boot_range (BE (bj (ha pos aI s σ H _ I h) λus s1 ⟨vs,H1,I1,r1,q1⟩=>?_) (by rw[hs,nY]) (by rw[nY];rfl)));obtain⟨i,j,e,⟨q1,q2,q3,q4⟩,q⟩:=q1;subst e;cases r1 with
 |cons r rr=>
  cases rr with
  |cons r' rr=>
   cases rr;obtain⟨t,rfl⟩:=r;obtain⟨t',rfl⟩:=r';exact call_range_2 (Gr I1 q1 q2 q3 q4 q)
def qT(wi:TI)(g:TG)(tb:TS):TS:=λD σ H=>wi σ H λJ H1=>∃W:Nat→Nat→St→Hp→Prop,(∃m,W 0 m σ H1)∧∀i m σ H,W i m σ H→
 (J.stop i H∧D.nx σ H)∨(J.go i H∧∃N:St→Hp→Prop,(∀σ' H',N σ' H'→∃m',m'<m∧W (i+1) m' σ' H')∧∀x H',J.oZ i H x H'→g x σ H' λσ2 H2=>tb { D with nx:=N,ct:=N,bk:=D.nx } σ2 H2)
noncomputable def vz(fp:List Addr)(h:Heap):List (Addr×Obj):=fp.filterMap λb=>(h.get? b).map λo=>(b,o)
theorem xZ(hb:b∈fp)(e:h.get? b=some o):(b,o)∈vz fp h:=List.mem_filterMap.mpr ⟨b,hb,by rw[e];rfl⟩
theorem OI{p:Addr×Obj}(hp:p∈vz fp h):p.1∈fp∧h.get? p.1=some p.2:=by
 obtain⟨b,hb,e⟩:=List.mem_filterMap.mp hp;cases q:h.get? b with
 |none=>rw[q]at e;cases e
 |some o=>
  rw[q]at e;have e':(b,o)=p:=dj e;subst e';exact⟨hb,q⟩
theorem Inv.pinned(I:Inv X aI σ H s)(hf:∀b∈fp,jk X aI H b)(ho:∀b∈fp,∃o,s.heap.get? b=some o∧∀v,o.data≠.cell v):Inv X (aI++vz fp s.heap) σ H s:=
 I.xT λp hp=>(dZ.mp hp).elim (λz=>I.pin p (iU _ z)) λz=>by
  obtain⟨hb,e⟩:=OI z;obtain⟨f0,f1,f2,_⟩:=hf p.1 hb;obtain⟨o,e',d⟩:=ho p.1 hb;rw[e]at e';cases e';exact⟨e,f0,f1,f2,d⟩
theorem Inv.BX{pl:List (Addr×Obj)}(I:Inv X (aI++pl) σ H s):Inv X aI σ H s:=I.xT λp hp=>I.pin p (iU _ (mh _ hp))
theorem jZ{iter:Expr}{wi:TI}{pos:Pos}(hp:PassesOwn (model X.prog X.w) X.A X.env X.xe)(hc:X.calm=true)(hi:PI X tg iter wi)(hg:PG X tg g)(hb:iX X body tb)
  (hs:∀x,foldedSetIterable iter X.env x=pure x:=by intro _;rfl):PS X (.For tg iter body [] pos) (qT wi g tb):=by
 intro aI s σ H D I h;refine wpAny_For (bj (hi aI s σ H _ I h) λv s1 h1=>bj h1 λxX s2 h2=>?_) hs;obtain⟨it,fp,tn,J,H2,e,I2,T,j0,f2,W,⟨m0,w0⟩,mz⟩:=h2;subst e;have BY:∀{H':Hp},(∀b∈fp,H' b=none)→∀b∈fp,jk X aI H' b:=λhn b hb=>⟨hn b hb,(f2 b hb).2⟩;refine codeAny_forLoop_any (λn s'=>∃i σ' H',Inv X aI σ' H' s'∧tn i s'.heap∧(∀b∈fp,H' b=none)∧W i n σ' H') ?_ m0 ⟨0,σ,H2,I2,j0,λb hb=>(f2 b hb).1,w0⟩;rintro n s3 ⟨i,σ3,H3,I3,Gu,Gv,w3⟩;rcases mz i n σ3 H3 w3 with⟨stop,qn⟩|⟨go,N,hN,step⟩
 ·refine au hp (bj (T.done X rfl rfl rfl hc i aI s3 σ3 H3 X.xe I3 (BY Gv) Gu stop) λr s4 ⟨hr,I4⟩=>?_);subst hr;exact wpAny_execs_nil ⟨σ3,H3,I4,qn⟩
 ·refine au hp (bj (T.item X rfl rfl rfl hc i aI s3 σ3 H3 X.xe I3 (BY Gv) Gu go) λr s4 ⟨u,hr,h4⟩=>?_);subst hr;refine au hp (bj h4 λ_ s5 ⟨x,H5,I5,r5,y5,BZ,x4⟩=>?_);have OJ:=I5.pinned (BY x4) (T.obj _ _ BZ);refine au hp (bj (hg _ s5 σ3 H5 x u _ OJ r5 (step x H5 y5)) λ_ s6 ⟨σ6,H6,I6,q6⟩=>?_);refine au hp (bj (hb _ s6 σ6 H6 _ I6 q6) λf s7 q7=>?_);have again:∀{σ7:St}{H7:Hp},Inv X (aI++vz fp s5.heap) σ7 H7 s7→N σ7 H7→∃m,m<n∧∃i σ' H',Inv X aI σ' H' s7∧tn i s7.heap∧(∀b∈fp,H' b=none)∧W i m σ' H':=λ{σ7 H7} I7 n7=>by
   obtain⟨m',hm,w7⟩:=hN σ7 H7 n7;refine⟨m',hm,i+1,σ7,H7,I7.BX,T.keep _ _ _ BZ λb hb o e=>(I7.pin (b,o) (iU _ (iU _ (xZ hb e)))).1,λb hb=>?_,w7⟩;obtain⟨o,e,d⟩:=T.obj _ _ BZ b hb;exact(I7.pin (b,o) (iU _ (iU _ (xZ hb e)))).2.1
  cases f with
  |next=>obtain⟨σ7,H7,I7,n7⟩:=q7;exact again I7 n7
  |cont=>obtain⟨σ7,H7,I7,n7⟩:=q7;exact again I7 n7
  |brk=>obtain⟨σ7,H7,I7,q7⟩:=q7;exact⟨σ7,H7,I7.BX,q7⟩
  |ret v=>obtain⟨x7,σ7,H7,I7,r7,q7⟩:=q7;exact⟨x7,σ7,H7,I7.BX,r7,q7⟩
end
theorem x5{K:Frag}(Pv:Nat→St→Hp→Prop)(h0:Pv 0 σ H)(hl:∀i σ H,i≤xs.length→Pv i σ H→cM K H a xs)
  (hs:∀i x σ H,xs[i]?=some x→Pv i σ H→g x σ H λσ2 H2=>tb { D with nx:=Pv (i+1),ct:=Pv (i+1),bk:=D.nx } σ2 H2) (hd:∀σ H,Pv xs.length σ H→D.nx σ H) :
  ∃W:Nat→Nat→St→Hp→Prop,(∃m,W 0 m σ H)∧∀i m σ H,W i m σ H→
   ((mE K a).stop i H∧D.nx σ H)∨((mE K a).go i H∧∃N:St→Hp→Prop,(∀σ' H',N σ' H'→∃m',m'<m∧W (i+1) m' σ' H')∧∀x H',(mE K a).oZ i H x H'→g x σ H' λσ2 H2=>tb { D with nx:=N,ct:=N,bk:=D.nx } σ2 H2):=by
 refine⟨λi m σ H=>m=xs.length-i∧i≤xs.length∧Pv i σ H,⟨xs.length,by simp,mi _,h0⟩,?_⟩;rintro i m σ H ⟨rfl,hi,p⟩;have q:=hl i σ H hi p;by_cases cN:i<xs.length
 ·refine .inr ⟨⟨xs,xs[i],q,by simp[cN]⟩,Pv (i+1),λσ' H' p'=>⟨xs.length-(i+1),by lia,rfl,cN,p'⟩,λx H' y=>?_⟩;obtain⟨e,y⟩:=y;subst e;exact hs i x σ _ (y xs q) p
 ·have e:i=xs.length:=by lia
  subst e;exact .inl ⟨⟨xs,q,ck _⟩,hd σ H p⟩
theorem Gw{K:Frag}(Pv:Nat→St→Hp→Prop)(h0:Pv 0 σ H)(hl:∀i σ H,i≤xs.length→Pv i σ H→aZ K H a xs)
  (hs:∀i x σ H,xs[i]?=some x→Pv i σ H→g x σ H λσ2 H2=>tb { D with nx:=Pv (i+1),ct:=Pv (i+1),bk:=D.nx } σ2 H2) (hd:∀σ H,Pv xs.length σ H→D.nx σ H) :
  ∃W:Nat→Nat→St→Hp→Prop,(∃m,W 0 m σ H)∧∀i m σ H,W i m σ H→
   ((nV K a).stop i H∧D.nx σ H)∨((nV K a).go i H∧∃N:St→Hp→Prop,(∀σ' H',N σ' H'→∃m',m'<m∧W (i+1) m' σ' H')∧∀x H',(nV K a).oZ i H x H'→g x σ H' λσ2 H2=>tb { D with nx:=N,ct:=N,bk:=D.nx } σ2 H2):=by
 refine⟨λi m σ H=>m=xs.length-i∧i≤xs.length∧Pv i σ H,⟨xs.length,by simp,mi _,h0⟩,?_⟩;rintro i m σ H ⟨rfl,hi,p⟩;have q:=hl i σ H hi p;by_cases cN:i<xs.length
 ·refine .inr ⟨⟨xs,xs[i],q,by simp[cN]⟩,Pv (i+1),λσ' H' p'=>⟨xs.length-(i+1),by lia,rfl,cN,p'⟩,λx H' y=>?_⟩;obtain⟨e,y⟩:=y;subst e;exact hs i x σ _ (y xs q) p
 ·have e:i=xs.length:=by lia
  subst e;exact .inl ⟨⟨xs,q,ck _⟩,hd σ H p⟩
theorem qU{lo:Int}{n:Nat}(Pv:Nat→St→Hp→Prop)(h0:Pv 0 σ H)
  (hs:∀i σ H,i<n→Pv i σ H→g (.int (lo+i)) σ H λσ2 H2=>tb { D with nx:=Pv (i+1),ct:=Pv (i+1),bk:=D.nx } σ2 H2) (hd:∀σ H,Pv n σ H→D.nx σ H) :
  ∃W:Nat→Nat→St→Hp→Prop,(∃m,W 0 m σ H)∧∀i m σ H,W i m σ H→
   ((o7 lo n).stop i H∧D.nx σ H)∨((o7 lo n).go i H∧∃N:St→Hp→Prop,(∀σ' H',N σ' H'→∃m',m'<m∧W (i+1) m' σ' H')∧∀x H',(o7 lo n).oZ i H x H'→g x σ H' λσ2 H2=>tb { D with nx:=N,ct:=N,bk:=D.nx } σ2 H2):=by
 refine⟨λi m σ H=>m=n-i∧i≤n∧Pv i σ H,⟨n,by simp,mi _,h0⟩,?_⟩;rintro i m σ H ⟨rfl,hi,p⟩;by_cases cN:i<n
 ·refine .inr ⟨cN,Pv (i+1),λσ' H' p'=>⟨n-(i+1),by lia,rfl,cN,p'⟩,λx H' y=>?_⟩;obtain⟨e,y⟩:=y;subst e y;exact hs i σ _ cN p
 ·have e:i=n:=by lia
  subst e;exact .inl ⟨ck _,hd σ H p⟩
abbrev R2:=V→V→Hp→VK→Prop
def eM(X:Cx)(f:Value→Value→Sem Value)(r:R2):Prop:=
 ∀(aI:List (Addr×Obj))(s:Shared)(σ:St)(H:Hp)(x y:V)(v u:Value)(Q:VK),Inv X aI σ H s→RelV x v→RelV y u→r x y H Q→
  wpAny (model X.prog X.w) X.A (f v u) (EP X aI σ Q) X.xe s
def B0(X:Cx)(f:Value→Sem Value)(r:V→Hp→VK→Prop):Prop:=
 ∀(aI:List (Addr×Obj))(s:Shared)(σ:St)(H:Hp)(x:V)(v:Value)(Q:VK),Inv X aI σ H s→RelV x v→r x H Q→
  wpAny (model X.prog X.w) X.A (f v) (EP X aI σ Q) X.xe s
def g6(X:Cx)(f:Value)(r:List V→Hp→VK→Prop):Prop:=
 ∀(aI:List (Addr×Obj))(s:Shared)(σ:St)(H:Hp)(xs:List V)(us:List Value)(Q:VK),Inv X aI σ H s→Vals xs us→r xs H Q→
  wpAny (model X.prog X.w) X.A (call f us) (EP X aI σ Q) X.xe s
def OK(X:Cx)(r:V→Hp→(Bool→Hp→Prop)→Prop):Prop:=
 ∀(aI:List (Addr×Obj))(s:Shared)(σ:St)(H:Hp)(x:V)(v:Value)(Q:Bool→Hp→Prop),Inv X aI σ H s→RelV x v→r x H Q→
  wpAny (model X.prog X.w) X.A (truthy v) (TP X aI σ Q) X.xe s
def bI(r:R2)(ta tb:TE):TE:=λσ H Q=>ta σ H λx H1=>tb σ H1 λy H2=>r x y H2 Q
def x6(r:V→Hp→VK→Prop)(ta:TE):TE:=λσ H Q=>ta σ H λx H1=>r x H1 Q
def rI(C:Int→Int→Prop)(g:Int→Int→V):R2:=λx y H Q=>∃i j,x=.int i∧y=.int j∧C i j∧Q (g i j) H
def gB(g:Int→Int→V):R2:=λx y H Q=>∃i j,x=.int i∧y=.int j∧Q (g i j) H
def rU(g:Int→V):V→Hp→VK→Prop:=λx H Q=>∃i,x=.int i∧Q (g i) H
section
variable{X:Cx}{a b c:Expr}{ta tb tc:TE}{pos:Pos}
theorem B1(ha:PE X a ta)(hb:PE X b tb){R:V→V→Hp→Prop}(I:Inv X aI σ H s)
  (h:ta σ H λx H1=>tb σ H1 λy H2=>R x y H2) {Q:QV} {f:Value→Value→Sem Value}
  (hf:∀v u s2 x y H2,Inv X aI σ H2 s2→RelV x v→RelV y u→R x y H2→wpAny (model X.prog X.w) X.A (f v u) Q X.xe s2) :
  wpAny (model X.prog X.w) X.A (eval a X.env) (λv s₁=>wpAny (model X.prog X.w) X.A (eval b X.env) (λu s₂=>wpAny (model X.prog X.w) X.A (f v u) Q X.xe s₂) X.xe s₁) X.xe s:=by
 refine bj (ha aI s σ H _ I h) λv s1 ⟨x,H1,I1,r1,q1⟩=>?_;refine bj (hb aI s1 σ H1 _ I1 q1) λu s2 ⟨y,H2,I2,r2,q2⟩=>?_;exact hf v u s2 x y H2 I2 r1 r2 q2
theorem aY{op:Operator}{r:R2}(ho:eM X (binaryOp op) r)(ha:PE X a ta)(hb:PE X b tb):PE X (.BinOp a op b pos) (bI r ta tb):=by
 intro aI s σ H Q I h;exact wpAny_BinOp (B1 ha hb I h λv u s2 x y H2 I2 rx ry q=>ho aI s2 σ H2 x y v u Q I2 rx ry q)
theorem mI{op:UnaryOp}{r:V→Hp→VK→Prop}(ho:B0 X (unaryOp op) r)(ha:PE X a ta):PE X (.UnaryOp op a pos) (x6 r ta):=by
 intro aI s σ H Q I h;exact UnaryOp_ (bj (ha aI s σ H _ I h) λv s1 ⟨x,H1,I1,r1,q1⟩=>ho aI s1 σ H1 x v Q I1 r1 q1)
theorem B2{C:Int→Int→Prop}{g:Int→Int→Int}
  (rule:∀(i j:Int)(t u:Tok)(s:Shared)(Q:QV)(E:QV),C i j→Q (.int (g i j) s.toks) { s with toks:=s.toks+1 }→wpAny (model X.prog X.w) X.A (f (.int i t) (.int j u)) Q E s) :
  eM X f (rI C λi j=>.int (g i j)):=by
 intro aI s σ H x y v u Q I rx ry h;obtain⟨i,j,rfl,rfl,hc,q⟩:=h;obtain⟨t,rfl⟩:=rx;obtain⟨t',rfl⟩:=ry;exact rule i j t t' s _ _ hc ⟨.int (g i j),H,I.tok _,⟨_,rfl⟩,q⟩
theorem Gx{g:Int→Int→Int}
  (rule:∀(i j:Int)(t u:Tok)(s:Shared)(Q:QV)(E:QV),Q (.int (g i j) s.toks) { s with toks:=s.toks+1 }→wpAny (model X.prog X.w) X.A (f (.int i t) (.int j u)) Q E s) :
  eM X f (gB λi j=>.int (g i j)):=by
 intro aI s σ H x y v u Q I rx ry h;obtain⟨i,j,rfl,rfl,q⟩:=h;obtain⟨t,rfl⟩:=rx;obtain⟨t',rfl⟩:=ry;exact rule i j t t' s _ _ ⟨.int (g i j),H,I.tok _,⟨_,rfl⟩,q⟩
theorem B3{g:Int→Int→Bool}
  (rule:∀(i j:Int)(t u:Tok)(s:Shared)(Q:QV)(E:QV),Q (.bool (g i j)) s→wpAny (model X.prog X.w) X.A (f (.int i t) (.int j u)) Q E s) :
  eM X f (gB λi j=>.bl (g i j)):=by
 intro aI s σ H x y v u Q I rx ry h;obtain⟨i,j,rfl,rfl,q⟩:=h;obtain⟨t,rfl⟩:=rx;obtain⟨t',rfl⟩:=ry;exact rule i j t t' s _ _ ⟨.bl (g i j),H,I,rfl,q⟩
def Gy(i j:Int):Prop:=0<j∧j<1073741824
def pY(i j:Int):Prop:=(-(2^64)<i∧i<2^64)∨(-(2^64)<j∧j<2^64)
theorem pY.ok{i j:Int}(h:pY i j):IntMulOk i j:=by
 rcases h with⟨h1,h2⟩|⟨h1,h2⟩
 ·exact .of_left (intBits_le_64 h1 h2)
 ·exact .of_right (intBits_le_64 h1 h2)
theorem fh:eM X (binaryOp .Add) (gB λi j=>.int (i+j)):=Gx λ_ _ _ _ _ _ _ q=>add_int q
theorem iZ:eM X (binaryOp .Sub) (gB λi j=>.int (i-j)):=Gx λ_ _ _ _ _ _ _ q=>sub_int q
theorem j5:eM X (binaryOp .Mult) (rI pY λi j=>.int (i*j)):=B2 λ_ _ _ _ _ _ _ hc q=>mul_int q hc.ok
theorem x8:eM X (binaryOp .FloorDiv) (rI Gy λi j=>.int (i/j)):=B2 λi j _ _ _ _ _ hc q=>by
 have h1:(0:Int)<j:=hc.1;have h2:j<1073741824:=hc.2;exact floordiv_int (by lia) (by rw[Int.fdiv_eq_ediv_of_nonneg i (by lia)];exact q) (.inl (PyProof.noPylong_small (by lia)))
theorem eW:eM X (binaryOp .Mod) (rI (λ_ j=>0<j) λi j=>.int (i%j)):=B2 λi j _ _ _ _ _ hc q=>by
 have h1:(0:Int)<j:=hc;exact mod_int' (by lia) (by rw[Int.fmod_eq_emod_of_nonneg i (by lia)];exact q)
theorem OL{f:Value→Sem Value}{g:Int→Int}
  (rule:∀(i:Int)(t:Tok)(s:Shared)(Q:QV)(E:QV),Q (.int (g i) s.toks) { s with toks:=s.toks+1 }→wpAny (model X.prog X.w) X.A (f (.int i t)) Q E s) :
  B0 X f (rU λi=>.int (g i)):=by
 intro aI s σ H x v Q I rx h;obtain⟨i,rfl,q⟩:=h;obtain⟨t,rfl⟩:=rx;exact rule i t s _ _ ⟨.int (g i),H,I.tok _,⟨_,rfl⟩,q⟩
theorem mJ:B0 X (unaryOp .USub) (rU λi=>.int (-i)):=OL λ_ _ _ _ _ q=>neg_int q
end
noncomputable def Gz:V→V→Bool
 | .cI,.cI=>true | .cI,.int _=>true | .int _,.cI=>true | .cI,.bl _=>true | .bl _,.cI=>true | .cI,.str _=>true | .str _,.cI=>true
 | .int _,.int _=>true | .bl _,.bl _=>true | .str _,.str _=>true | .ku _,.ku _=>true
 | .int _,.str _=>true | .str _,.int _=>true | .bl _,.str _=>true | .str _,.bl _=>true
 |_,_=>false
def lJ:R2:=λx y H Q=>Gz x y=true∧Q (.bl (decide (x=y))) H
def OM:R2:=λx y H Q=>Gz x y=true∧Q (.bl (!decide (x=y))) H
theorem GG{i j:Int}:decide (V.int i=V.int j)=(i==j):=by
 rw[Bool.eq_iff_iff];simp
theorem GH{i j:Bool}:decide (V.bl i=V.bl j)=(i==j):=by
 rw[Bool.eq_iff_iff];simp
theorem GI{i j:Str}:decide (V.str i=V.str j)=(i==j):=by
 rw[Bool.eq_iff_iff];simp
theorem GJ{i j:Array UInt8}:decide (V.ku i=V.ku j)=(i.toList==j.toList):=by
 rw[Bool.eq_iff_iff];cases i;cases j;simp
section
variable{X:Cx}{a b c:Expr}{ta tb tc:TE}{pos:Pos}
theorem eG{Q:VK}{k k':Bool}(I:Inv X aI σ H s)(q:Q (.bl k) H)(e:k=k'):EP X aI σ Q (.bool k') s:=by
 subst e;exact⟨.bl k,H,I,rfl,q⟩
theorem gF:eM X (compareOp .Eq) lJ:=by
 intro aI s σ H x y v u Q I rx ry h;obtain⟨hs,q⟩:=h;cases x with
 |cI=>
  cases rx;cases y with
  |cI=>cases ry;exact PySem.EqNone.eq_none_none (eG I q (by simp))
  |bl j=>cases ry;exact PySem.EqNone.eq_none_bool (eG I q (by simp))
  |int j=>obtain⟨t',rfl⟩:=ry;exact PySem.EqNone.eq_none_int (eG I q (by simp))
  |str j=>obtain⟨t',rfl⟩:=ry;exact PySem.EqNone.eq_none_str (eG I q (by simp))
  |_=>exact absurd (show false=true from hs) gy
 |bl i=>
  cases rx;cases y with
  |cI=>cases ry;exact PySem.EqNone.eq_bool_none (eG I q (by simp))
  |bl j=>cases ry;exact eq_bool (eG I q GH)
  |str j=>obtain⟨t',rfl⟩:=ry;exact PySem.EqMixed.eq_bool_str (eG I q (by simp))
  |_=>exact absurd (show false=true from hs) gy
 |int i=>
  obtain⟨t,rfl⟩:=rx;cases y with
  |cI=>cases ry;exact PySem.EqNone.eq_int_none (eG I q (by simp))
  |int j=>obtain⟨t',rfl⟩:=ry;exact eq_int (eG I q GG)
  |str j=>obtain⟨t',rfl⟩:=ry;exact PySem.EqMixed.eq_int_str (eG I q (by simp))
  |_=>exact absurd (show false=true from hs) gy
 |str i=>
  obtain⟨t,rfl⟩:=rx;cases y with
  |cI=>cases ry;exact PySem.EqNone.eq_str_none (eG I q (by simp))
  |bl j=>cases ry;exact PySem.EqMixed.eq_str_bool (eG I q (by simp))
  |int j=>obtain⟨t',rfl⟩:=ry;exact PySem.EqMixed.eq_str_int (eG I q (by simp))
  |str j=>obtain⟨t',rfl⟩:=ry;exact eq_str (eG I q GI)
  |_=>exact absurd (show false=true from hs) gy
 |ku i=>
  obtain⟨t,rfl⟩:=rx;cases y with
  |ku j=>obtain⟨t',rfl⟩:=ry;exact PySem.W.eq_bytes (eG I q GJ)
  |_=>exact absurd (show false=true from hs) gy
 |_=>cases y<;>exact absurd (show false=true from hs) gy
theorem B4:eM X (compareOp .NotEq) OM:=by
 intro aI s σ H x y v u Q I rx ry h;obtain⟨hs,q⟩:=h;cases x with
 |cI=>
  cases rx;cases y with
  |cI=>cases ry;exact PySem.EqNone.ne_none_none (eG I q (by simp))
  |bl j=>cases ry;exact PySem.EqNone.ne_none_bool (eG I q (by simp))
  |int j=>obtain⟨t',rfl⟩:=ry;exact PySem.EqNone.ne_none_int (eG I q (by simp))
  |str j=>obtain⟨t',rfl⟩:=ry;exact PySem.EqNone.ne_none_str (eG I q (by simp))
  |_=>exact absurd (show false=true from hs) gy
 |bl i=>
  cases rx;cases y with
  |cI=>cases ry;exact PySem.EqNone.ne_bool_none (eG I q (by simp))
  |bl j=>cases ry;exact ne_bool (eG I q (ao not GH))
  |str j=>obtain⟨t',rfl⟩:=ry;exact PySem.EqMixed.ne_bool_str (eG I q (by simp))
  |_=>exact absurd (show false=true from hs) gy
 |int i=>
  obtain⟨t,rfl⟩:=rx;cases y with
  |cI=>cases ry;exact PySem.EqNone.ne_int_none (eG I q (by simp))
  |int j=>obtain⟨t',rfl⟩:=ry;exact ne_int (eG I q (ao not GG))
  |str j=>obtain⟨t',rfl⟩:=ry;exact PySem.EqMixed.ne_int_str (eG I q (by simp))
  |_=>exact absurd (show false=true from hs) gy
 |str i=>
  obtain⟨t,rfl⟩:=rx;cases y with
  |cI=>cases ry;exact PySem.EqNone.ne_str_none (eG I q (by simp))
  |bl j=>cases ry;exact PySem.EqMixed.ne_str_bool (eG I q (by simp))
  |int j=>obtain⟨t',rfl⟩:=ry;exact PySem.EqMixed.ne_str_int (eG I q (by simp))
  |str j=>obtain⟨t',rfl⟩:=ry;exact ne_str (eG I q (ao not GI))
  |_=>exact absurd (show false=true from hs) gy
 |ku i=>
  obtain⟨t,rfl⟩:=rx;cases y with
  |ku j=>obtain⟨t',rfl⟩:=ry;exact PySem.W.ne_bytes (eG I q (ao not GJ))
  |_=>exact absurd (show false=true from hs) gy
 |_=>cases y<;>exact absurd (show false=true from hs) gy
theorem x9:eM X (compareOp .Lt) (gB λi j=>.bl (decide (i<j))):=B3 λ_ _ _ _ _ _ _ q=>lt_int q
theorem qV:eM X (compareOp .Gt) (gB λi j=>.bl (decide (j<i))):=B3 λ_ _ _ _ _ _ _ q=>gt_int q
theorem ON:eM X (compareOp .GtE) (gB λi j=>.bl (decide (j≤i))):=B3 λ_ _ _ _ _ _ _ q=>ge_int q
theorem da(b:Expr)(h:op≠.In:=by decide)(h2:op≠.NotIn:=by decide):behindInMarks op b=false:=by
 have e1:(op==CmpOp.In)=false:=by cases op<;>first|rfl|exact absurd rfl h
 have e2:(op==CmpOp.NotIn)=false:=by cases op<;>first|rfl|exact absurd rfl h2
 cases b<;>simp[behindInMarks,e1,e2]
theorem B5{r:R2}(ho:eM X (compareOp op) r)(ha:PE X a ta)(hb:PE X b tb)(hm:behindInMarks op b=false):PE X (.Compare a [op] [b] pos) (bI r ta tb):=by
 intro aI s σ H Q I h;exact wpAny_Compare1 (B1 ha hb I h λv u s2 x y H2 I2 rx ry q=>ho aI s2 σ H2 x y v u Q I2 rx ry q) hm
def gs(t:TE):TT:=λσ H Q=>t σ H λx H'=>∃k,x=.bl k∧Q k H'
theorem de{r:R2}(ho:eM X (compareOp op) r)(ha:PE X a ta)(hb:PE X b tb)(hm:behindInMarks op b=false):PT X (.Compare a [op] [b] pos) (gs (bI r ta tb)):=by
 intro aI s σ H Q I h;refine wpAny_isTrue_Compare1 (bj (ha aI s σ H _ I h) λv s1 ⟨x,H1,I1,r1,q1⟩=>bj (hb aI s1 σ H1 _ I1 q1) λu s2 ⟨y,H2,I2,r2,q2⟩=>
  bj (ho aI s2 σ H2 x y v u _ I2 r1 r2 q2) λc s3 ⟨z,H3,I3,r3,k,e,q3⟩=>?_) hm
 subst e;cases r3;exact aj ⟨H3,I3,q3⟩
def GK(K:Frag)(x:V)(H:Hp)(k:Bool):Prop:=
 match x with
 | .cI=>k=false
 | .bl b=>k=b
 | .int i=>k=(i != 0)
 | .str y=>y.length≤sizeLine∧k=((y.length:Int) != 0)
 | .ku y=>y.size≤sizeLine∧k=((y.size:Int) != 0)
 | .ref p=>(∃xs,cM K H p xs∧k=!xs.isEmpty)∨(∃xs,aZ K H p xs∧k=!xs.isEmpty)∨∃aV,H p=some (.dK aV)∧k=!aV.isEmpty
 |_=>False
theorem OO{κ:Type}{aV:List (κ×V)}{vs:List (κ×Value)}(r:KV aV vs):(!vs.isEmpty)=!aV.isEmpty:=by
 cases r<;>rfl
theorem GN{its:List Value}(r:Vals xs its):(!its.toArray.isEmpty)=!xs.isEmpty:=by
 cases r<;>simp
theorem vA:(sizeLine:Nat)<2^63:=by rw[sizeLine_eq];decide
theorem OP:OK X (λx H Q=>∃k,GK X.K x H k∧Q k H):=by
 intro aI s σ H x v Q I rx h;obtain⟨k,e,q⟩:=h;have hl:=vA;have hs:sizeLine=16777216:=sizeLine_eq;cases x with
 |cI=>
  cases rx;have e':k=false:=e;subst e';exact truthy_none ⟨H,I,q⟩
 |bl b=>
  cases rx;have e':k=b:=e;subst e';exact aj ⟨H,I,q⟩
 |int i=>
  obtain⟨t,rfl⟩:=rx;have e':k=(i != 0):=e;subst e';exact PySem.P.truthy_int ⟨H,I,q⟩
 |str y=>
  obtain⟨t,rfl⟩:=rx;obtain⟨hy,e'⟩:y.length≤sizeLine∧k=((y.length:Int) != 0):=e;subst e';exact PySem.P.truthy_str (by lia) ⟨H,I.tok _,q⟩
 |ku y=>
  obtain⟨t,rfl⟩:=rx;obtain⟨hy,e'⟩:y.size≤sizeLine∧k=((y.size:Int) != 0):=e;subst e';exact PySem.W.truthy_bytes (by lia) ⟨H,I.tok _,q⟩
 |ref p=>
  cases rx;have e':(∃xs,cM X.K H p xs∧k=!xs.isEmpty)∨(∃xs,aZ X.K H p xs∧k=!xs.isEmpty)∨∃aV,H p=some (.dK aV)∧k=!aV.isEmpty:=e;rcases e' with⟨xs,hx,e'⟩|⟨xs,hx,e'⟩|⟨aV,hx,e'⟩
  ·subst e';obtain⟨its,r,pl,hz⟩:=I.list hx;have cA:=r.length;exact wpAny_truthy_list pl.isList (by simp only[dm];lia) ⟨H,I.tok _,by rw[GN r];exact q⟩
  ·subst e';obtain⟨its,r,pl,hz⟩:=I.tuple hx;have cA:=r.length;exact truthy_tuple pl (by simp only[dm];lia) ⟨H,I.tok _,by rw[GN r];exact q⟩
  ·subst e';obtain⟨hz,hS,vs,r,m⟩:aV.length≤sizeLine∧(p==sysModules)=false∧∃vs,KV aV vs∧s.heap.DictOf (jW X.prog X.w) p vs:=I.bH p _ hx;have cA:aV.length=vs.length:=Paired.length r;exact wpAny_truthy_dict hS m (by lia) ⟨H,I.tok _,by rw[OO r];exact q⟩
 |_=>exact(show False from e).elim
theorem GQ(ha:PE X a ta)(he:∀qM,isTrue a X.env qM=(do let v ← qM;standAt a.pos;holding [v] (truthy v))) :
  PT X a (λσ H Q=>ta σ H λx H'=>∃k,GK X.K x H' k∧Q k H'):=by
 intro aI s σ H Q I h;exact isTrue_plain (bj (ha aI s σ H _ I h) λv s1 ⟨x,H1,I1,r1,q1⟩=>OP aI s1 σ H1 x v Q I1 r1 q1) (he _)
theorem vals1{x:V}(r:Vals [x] us):∃u,us=[u]∧RelV x u:=by
 cases r with
 |cons r1 r2=>cases r2;exact⟨_,rfl,r1⟩
theorem vals2{x y:V}(r:Vals [x,y] us):∃u w',us=[u,w']∧RelV x u∧RelV y w':=by
 cases r with
 |cons r1 r2=>
  cases r2 with
  |cons r3 r4=>cases r4;exact⟨_,_,rfl,r1,r3⟩
theorem OQ(hc:X.calm=true):g6 X (.builtin "max") (λxs H Q=>∃i j,xs=[.int i,.int j]∧Q (.int (if j>i then j else i)) H):=by
 intro aI s σ H xs us Q I r h;obtain⟨i,j,rfl,q⟩:=h;obtain⟨u,w',rfl,⟨t,rfl⟩,⟨t',rfl⟩⟩:=vals2 r;refine max_two_ints (I.ok.hd hc) λh' tk k=>⟨_,H,I.kept k,?_,q⟩;by_cases hj:j>i
 ·rw[ae hj,ae hj];exact⟨_,rfl⟩
 ·rw[ah hj,ah hj];exact⟨_,rfl⟩
theorem OR(hc:X.calm=true):g6 X (.builtin "min") (λxs H Q=>∃i j,xs=[.int i,.int j]∧Q (.int (if j<i then j else i)) H):=by
 intro aI s σ H xs us Q I r h;obtain⟨i,j,rfl,q⟩:=h;obtain⟨u,w',rfl,⟨t,rfl⟩,⟨t',rfl⟩⟩:=vals2 r;refine min_two_ints (I.ok.hd hc) λh' tk k=>⟨_,H,I.kept k,?_,q⟩;by_cases hj:j<i
 ·rw[ae hj,ae hj];exact⟨_,rfl⟩
 ·rw[ah hj,ah hj];exact⟨_,rfl⟩
theorem GV:g6 X (.type "int") (λxs H Q=>(∃i,xs=[.int i]∧Q (.int i) H)∨∃k,xs=[.bl k]∧Q (.int (if k then 1 else 0)) H):=by
 intro aI s σ H xs us Q I r h;rcases h with⟨i,rfl,q⟩|⟨k,rfl,q⟩
 ·obtain⟨u,rfl,t,rfl⟩:=vals1 r;exact call_int_int ⟨.int i,H,I,⟨_,rfl⟩,q⟩
 ·obtain⟨u,rfl,r1⟩:=vals1 r;cases r1;exact call_int_bool ⟨.int (if k then 1 else 0),H,I.tok _,⟨_,rfl⟩,q⟩
end
structure B6(h:Heap)(x dx C:Addr)(mA:Str→Option Value):Prop where
 obj:h.get? x=some (PySem.W.instObj C dx)
 ns:h.Ns1 dx mA
 ne:dx≠x
theorem OS{dx:Addr}{mA:Str→Option Value}(n:h.Ns1 dx mA):∃od,h.get? dx=some od∧∀name,PySem.W.lookIn name od=some (mA name):=by
 obtain⟨o,es,ep,ho,hd,hk,_,hm⟩:=n;refine⟨o,ho,λname=>?_⟩;have e:=hm name;unfold nsFind findBy at e;rw[← Array.find?_toList]at e;unfold PySem.W.lookIn;rw[hd];dsimp only;split
 ·rename_i y q
  rw[q]at e;exact ao some e
 ·rename_i q
  rw[q]at e;have a:es.toList.any (·.refKey)=false:=by
   rw[List.any_eq_false];intro y hy;obtain⟨z,t,OT⟩:=hk y (Array.mem_toList_iff.mp hy);simp[DictEntry.refKey,OT]
  have a':¬es.toList.any (·.refKey)=true:=by rw[a];exact gy
  rw[ah a'];exact ao some e
theorem B6.look{x dx C:Addr}{mA:Str→Option Value}(I:B6 h x dx C mA):∃od,PySem.W.InstAt h x (PySem.W.instObj C dx) C (some od)∧∀name,PySem.W.lookIn name od=some (mA name):=
 let ⟨od,ho,hl⟩:=OS I.ns
 ⟨od,⟨I.obj,rfl,rfl,ho⟩,hl⟩
section
variable{prog:Program}{w:World}{A:Around}{E:QV}{s:Shared}{K:Frag}{x dx C f:Addr}{mA:Str→Option Value}{name:Str}{v:Value}
end
theorem mr.some_of{o:Option Value}(r:mr (some v) o):∃u,o=some u∧RelV v u:=by
 cases o with
 |none=>exact(show False from r).elim
 |some u=>exact⟨u,rfl,r⟩
section
variable{P:Program}{w:World}{H H':Hp}{h h':Heap}{a C dx:Addr}{fs N4:List (Str×V)}
theorem OU(bH:eh P w H h)(e:H a=some (.ins C dx fs)):∃mA,B6 h a dx C mA∧(∀f,mr (fs.lookup f) (mA f))∧PySem.Within mA (fs.map (·.1))∧fs.length≤1000∧H dx=some (.own a):=by
 obtain⟨d,z,ne,ob,mA,n,r,q⟩:=(show dW P w H h a (.ins C dx fs) from bH a _ e)
 exact⟨mA,⟨ob,n,ne⟩,r,q,z,d⟩
end
structure B7(K:Frag)(C:Addr):Prop where
 pg:PySem.W.plainGet K C Str.empty=true
 hd:PySem.W.hasDictIn K C=true
 po:PySem.W.plainOver K C=true
 sa:PySem.W.findIn K (.ref C) "__setattr__"=some (some (.builtin "object.__setattr__"))
theorem B7.get{K:Frag}{C:Addr}(c:B7 K C)(f:Str):PySem.W.plainGet K C f=true:=c.pg
section
variable{X:Cx}{aI:List (Addr×Obj)}{σ:St}{H:Hp}{s:Shared}{a C dx:Addr}{fs:List (Str×V)}{f:Str}{v:V}{A:Around}{E:QV}
end
section
variable{X:Cx}{o e value:Expr}{f:Str}{pos my OV:Pos}{ta tv:TE}
end
section
variable{X:Cx}{aI:List (Addr×Obj)}{σ:St}{H:Hp}{s:Shared}{A:Around}{E:QV}{Q:QV}{c:Value}{b:Bool}
inductive kz(K:Frag)(H:Hp):V→Value→Prop where
 |cI:kz K H .cI (.type "NoneType")
 |bl (x:Bool):kz K H (.bl x) (.type "bool")
 |int (i:Int):kz K H (.int i) (.type "int")
 |str (x:Str):kz K H (.str x) (.type "str")
 |sQ (x:UInt64):kz K H (.sQ x) (.type "float")
 |lst {a:Addr} {xs:List V} (e:H a=some (.lst xs)):kz K H (.ref a) (.type "list")
 |iW {a:Addr} {o:Obj} {xs:List V} (e:H a=some (.iW o (.lst xs))):kz K H (.ref a) (.type "list")
 |tup {a:Addr} {xs:List V} (e:H a=some (.tup xs)):kz K H (.ref a) (.type "tuple")
 |dK {a:Addr} {aV:List (Key×V)} (e:H a=some (.dK aV)):kz K H (.ref a) (.type "dict")
 |dT {a:Addr} {aV:List (List Key×V)} (e:H a=some (.dT aV)):kz K H (.ref a) (.type "dict")
 |ins {a C dx:Addr} {fs:List (Str×V)} (e:H a=some (.ins C dx fs)) (cl:B7 K C) (ha:PySem.W.findIn K (.ref C) "__class__"=some (some (.builtin "object.__class__")))
   (hn:PySem.W.specialIn K (.builtin "object.__class__") "__get__"=some (some (.builtin "getset_descriptor.__get__"))) (vB:PySem.W.takesIn K (.builtin "object.__class__")=some true)
   (hm:PySem.W.mroIn K C (.type "object")=some true):kz K H (.ref a) (.ref C)
theorem OW{x:V}{t:Value}(I:Inv X aI σ H s)(rx:RelV x u)(ty:kz X.K H x t)(e:kitOne X.K t c=some b)(h:∀tk,Q (.bool b) { s with toks:=tk }) :
  wpAny (model X.prog X.w) A (call (.builtin "isinstance") [u,c]) Q E s:=by
 cases ty with
 |cI=>cases(show u=Value.none from rx);exact nL PySem.W.kitx_none I.ff True.intro e (λz=>nomatch z) h
 |bl y=>cases(show u=Value.bool y from rx);exact nL PySem.W.kitx_bool I.ff True.intro e (λz=>nomatch z) h
 |int i=>obtain⟨t,q⟩:=(show ∃t,u=Value.int i t from rx);cases q;exact nL PySem.W.kitx_int I.ff True.intro e (λz=>nomatch z) h
 |str y=>obtain⟨t,q⟩:=(show ∃t,u=Value.str y t from rx);cases q;exact nL PySem.W.kitx_str I.ff True.intro e (λz=>nomatch z) h
 |sQ y=>obtain⟨t,q⟩:=(show ∃t,u=Value.float y t from rx);cases q;exact nL PySem.W.kitx_float I.ff True.intro e (λz=>nomatch z) h
 | @lst a xs ea=>
  cases(show u=Value.ref a from rx)
  obtain⟨_,_,n,_,h1⟩:=(show dW X.prog X.w H s.heap a (.lst xs) from I.bH a _ ea)
  exact nL PySem.W.kitx_list I.ff ⟨_,h1,rfl⟩ e (λz=>nomatch z) h
 | @iW a ob xs ea=>
  cases(show u=Value.ref a from rx)
  obtain⟨_,_,_,n,_,h1⟩:=(show dW X.prog X.w H s.heap a (.iW ob (.lst xs)) from I.bH a _ ea)
  exact nL PySem.W.kitx_list I.ff ⟨_,h1,rfl⟩ e (λz=>nomatch z) h
 | @tup a xs ea=>
  cases(show u=Value.ref a from rx)
  obtain⟨_,_,_,p⟩:=(show dW X.prog X.w H s.heap a (.tup xs) from I.bH a _ ea)
  obtain⟨o,h1,h2,_⟩:=p;exact nL PySem.W.kitx_tuple I.ff ⟨o,h1,h2⟩ e (λz=>nomatch z) h
 | @dK a aV ea=>
  cases(show u=Value.ref a from rx)
  obtain⟨_,_,vs,_,p⟩:=(show dW X.prog X.w H s.heap a (.dK aV) from I.bH a _ ea)
  obtain⟨o,es,ep,h1,h2,_⟩:=p;exact nL PySem.W.kitx_dict I.ff ⟨o,h1,h2.1⟩ e (λz=>nomatch z) h
 | @dT a aV ea=>
  cases(show u=Value.ref a from rx)
  obtain⟨_,_,xs,_,o,es,ep,h1,h2,_⟩:=(show dW X.prog X.w H s.heap a (.dT aV) from I.bH a _ ea)
  exact nL PySem.W.kitx_dict I.ff ⟨o,h1,h2.1⟩ e (λz=>nomatch z) h
 | @ins a C dx fs ea cl ha hn vB hm=>
  cases(show u=Value.ref a from rx)
  obtain⟨mA,O,_⟩:=OU I.bH ea;obtain⟨od,J,_⟩:=O.look;exact nL (PySem.W.kitx_own (cl.get _) cl.hd ha hn vB hm) I.ff J e (λz=>nomatch z) h
end
structure dt(k:Nat)(A:Around):Prop where
 hd:A.handled=none
 dp:A.depth+3*k+5<recursionLimit
 un:A.units+16*k+200<cLine
theorem dt.mono{j k:Nat}(r:dt k A)(h:j≤k):dt j A:=⟨r.hd,by have:=r.dp;lia,by have:=r.un;lia⟩
theorem dt.deeper{k:Nat}{A:Around}(r:dt (k+1) A)(env:Env):dt k (A.deeper env):=
 ⟨r.hd,by have:=r.dp;show A.depth+1+3*k+5<_;lia,by have:=r.un;show A.units+3+16*k+200<_;lia⟩
theorem dt.depth{k:Nat}{A:Around}(r:dt k A):A.depth<recursionLimit:=by have:=r.dp;lia
theorem dt.units{k:Nat}{A:Around}(r:dt k A):A.units+64<cLine:=by have:=r.un;lia
def bo:TA:=λ_ H Q=>Q [] H
def aW(ta:TE)(tr:TA):TA:=λσ H Q=>ta σ H λx H1=>tr σ H1 λxs H2=>Q (x::xs) H2
section
variable{X:Cx}{e:Expr}{es:List Expr}{te:TE}{t:TA}{pos:Pos}
theorem aR:PA X [] bo:=λ_ _ _ _ H Q I h=>Calls.spliced_nil ⟨[],H,I,.nil,h⟩
theorem aL(ha:PE X e te)(hr:PA X es t)(hs:starEach (e::es) X.env=(false,eval e X.env)::starEach es X.env:=by rfl):PA X (e::es) (aW te t):=by
 intro pos aI s σ H Q I h;rw[hs];show wpAny _ _ (spliced ((false,eval e X.env)::backTo pos (starEach es X.env))) _ _ s;refine Calls.spliced_cons (bj (ha aI s σ H _ I h) λu s1 ⟨x,H1,I1,r1,q1⟩=>?_);exact bj (hr pos aI s1 σ H1 _ I1 q1) λus s2 ⟨xs,H2,I2,r2,q2⟩=>⟨x::xs,H2,I2,.cons r1 r2,q2⟩
def eB(t:TA):TE:=λσ H Q=>t σ H λxs H1=>xs.length≤sizeLine∧∀p,H1 p=none→Q (.ref p) (upd H1 p (.tup xs))
def g7(t:TA):TE:=λσ H Q=>t σ H λxs H1=>xs.length≤sizeLine∧∀p,H1 p=none→Q (.ref p) (upd H1 p (.lst xs))
theorem cB{x1}(h:PA X es t):PE X (.Tuple es x1 pos) (eB t):=by
 intro aI s σ H Q I hq;refine wpAny_Tuple_spliced (bj (h pos aI s σ H _ I hq) λus s1 ⟨xs,H1,I1,r,z,q⟩=>⟨by rw[← r.length];exact z,?_⟩);have hf:H1 s1.heap.objs.size=none:=I1.bH.fresh (ck _);refine⟨.ref s1.heap.objs.size,upd H1 s1.heap.objs.size (.tup xs),I1.laid (t':=s1.toks) (λb u e=>dH _ e) (ck _) ?_,rfl,q _ hf⟩;exact⟨z,us,r,⟨_,ij _ rfl,rfl,rfl,_,rfl⟩⟩
theorem gk(h:PA X es t):PE X (.List es pos) (g7 t):=by
 intro aI s σ H Q I hq;refine wpAny_List_spliced (bj (h pos aI s σ H _ I hq) λus s1 ⟨xs,H1,I1,r,z,q⟩=>⟨by rw[← r.length];exact z,?_⟩);have hf:H1 s1.heap.objs.size=none:=I1.bH.fresh (ck _);refine⟨.ref s1.heap.objs.size,upd H1 s1.heap.objs.size (.lst xs),I1.laid (t':=s1.toks) (λb u e=>dH _ e) (ck _) ?_,rfl,q _ hf⟩;exact⟨z,us,0,r,ij _ rfl⟩
end
abbrev Sp:=List V→Hp→VK→XK→Prop
abbrev nZ:=List Env→Hp→Shared→XK→Value→Shared→Prop
structure sY(P:Program)(w:World)(K:Frag)(mg:Str→Option Value)(base:Heap)(A:Around)(outer:List Env)(s:Shared)(H:Hp):Prop where
 frames:A.frames=some outer
 mod:Mod K mg base
 bs:∀b o,base.get? b=some o→s.heap.get? b=some o∧H b=none
 oW:base.objs.size≤s.heap.objs.size
 lI:s.heap.FunFrames base outer
 qJ:∀b∈jX outer,H b=none
 bH:eh P w H s.heap
 bare:AllBare s.gens
def CE(outer:List Env)(P:Program)(w:World)(H:Hp)(s:Shared)(Q:VK)(u:Value)(s':Shared):Prop:=
 ∃v H',s'.os=s.os∧AllBare s'.gens∧Un (jX outer) [] H H' s.heap s'.heap∧eh P w H' s'.heap∧RelV v u∧Q v H'
def CR(CX:nZ)(outer:List Env)(P:Program)(w:World)(H:Hp)(s:Shared)(Q:VK)(E:XK)(r:Result)(s':Shared):Prop:=
 match r with
 | .ok (.ret u)=>CE outer P w H s Q u s'
 | .ok _=>False
 | .error e=>CX outer H s E e s'
structure bu(P:Program)(w:World)(K:Frag)(mg:Str→Option Value)(base:Heap)(CX:nZ)(k:Nat)(f:Addr)(fd:FuncData)(ps:List Str)(sp:Sp):Prop where
 len:∀vs H Q E,sp vs H Q E→vs.length=ps.length
 run:∀(A:Around)(outer:List Env)(s:Shared)(H:Hp)(args:Args)(us:List Value)(vs:List V)(Q:VK)(E:XK),dt k A→sY P w K mg base A outer s H→BindsTo s fd args (ps.zip us)→Vals vs us→sp vs H Q E→
  codeAny (model P w) A (.call (.ref f) args) (CR CX outer P w H s Q E) s
theorem bu.mono{P:Program}{w:World}{K:Frag}{mg:Str→Option Value}{base:Heap}{CX:nZ}{j k:Nat}{f:Addr}{fd:FuncData}{ps:List Str}{sp:Sp}(F:bu P w K mg base CX j f fd ps sp)(h:j≤k) :
  bu P w K mg base CX k f fd ps sp:=⟨F.len,λA outer s H args us vs Q E hr=>F.run A outer s H args us vs Q E (hr.mono h)⟩
section
variable{X:Cx}{aI:List (Addr×Obj)}{σ:St}{H:Hp}{s s':Shared}
theorem Inv.B8(I:Inv X aI σ H s):sY X.prog X.w X.K X.mg X.base X.A X.stack s H:=
 ⟨I.ok.frames,I.ok.mod,I.bs,ft I.ok.oW I.sz,I.stack,I.FR,I.bH,I.bare⟩
theorem Inv.after{Q:VK}(I:Inv X aI σ H s)(h:CE X.stack X.prog X.w H s Q u s'):EP X aI σ Q u s':=by
 obtain⟨v,H',os,bare,un,bH,r,q⟩:=h;obtain⟨hh,g,d,t,OX⟩:=s';obtain rfl:OX=s.os:=os;exact⟨v,H',I.call (h':=hh) (g':=g) (d':=d) (t':=t) (ch:=[]) un bH bare (λb z=>absurd z (by simp)),r,q⟩
end
def fw(sp:Sp)(g8:List V)(E:XK)(t:TA):TE:=λσ H Q=>t σ H λvs H1=>sp (vs++g8) H1 Q E
def Binds(K:Frag)(fd:FuncData)(ps:List Str)(ds:List Value):Prop:=
 ∀(s:Shared)(us:List Value),K.In s.heap→(us++ds).length=ps.length→BindsTo s fd ⟨us,[]⟩ (ps.zip (us++ds))
theorem Binds.all{K:Frag}{fd:FuncData}{ps:List Str}(h:∀us:List Value,us.length=ps.length→bindArgs fd ⟨us,[]⟩=pure (ps.zip us)):Binds K fd ps []:=λs us _ hl=>by
 rw[gY]at hl ⊢;exact .of_eq (h us hl)
def Passes(CX:nZ)(X:Cx)(E:XK):Prop:=∀(aI:List (Addr×Obj))(σ:St)(H:Hp)(s:Shared)(e:Value)(s':Shared),Inv X aI σ H s→CX X.stack H s E e s'→X.xe e s'
section
variable{X:Cx}{CX:nZ}{k:Nat}{f C:Addr}{fd:FuncData}{ps:List Str}{sp:Sp}{g8:List V}{ds:List Value}{E:XK}{x m:Str}{p pos iH:Pos}{e o:Expr}{es:List Expr}{ta:TE}{t:TA}
theorem OY{Q:VK}{vs:List V}(F:bu X.prog X.w X.K X.mg X.base CX k f fd ps sp)(hr:dt k X.A)(hb:Binds X.K fd ps ds)(hd:Vals g8 ds)(hx:Passes CX X E)
  (I:Inv X aI σ H s) (r:Vals vs us) (h:sp (vs++g8) H Q E):wpAny (model X.prog X.w) X.A (call (.ref f) us) (EP X aI σ Q) X.xe s:=by
 have r2:Vals (vs++g8) (us++ds):=r.append hd;have hl:(us++ds).length=ps.length:=by rw[← r2.length];exact F.len _ _ _ _ h
 refine wpAny_call (codeAny_mono (F.run X.A X.stack s H ⟨us,[]⟩ (us++ds) (vs++g8) Q E hr I.B8 (hb s us I.ff hl) r2 h) λr s' hq=>?_);cases r with
 |error e=>exact hx aI σ H s e s' I hq
 |ok fl=>
  cases fl with
  |ret u=>exact I.after hq
  |next=>exact False.elim hq
  |brk=>exact False.elim hq
  |cont=>exact False.elim hq
theorem cT(F:bu X.prog X.w X.K X.mg X.base CX k f fd ps sp)(hr:dt k X.A)(hg:Gl X x)(hm:X.mg x=some (.ref f))(hk:Kp X.K f)(hb:Binds X.K fd ps ds)(hd:Vals g8 ds)(hx:Passes CX X E)
  (ha:PA X (e::es) t) (qW:(x==("__debug__":Str))=false:=by decide) (he:starEach (e::es) X.env=(false,eval e X.env)::starEach es X.env:=by rfl) (jl:(backTo pos (starEach es X.env)).any (·.1)=false:=by rfl) :
  PE X (.Call (.Name x p) (e::es) [] pos) (fw sp g8 E t):=by
 intro aI s σ H Q I h;refine ax (BQ I hg hm ?_ qW);refine PySem.W.callWith_K (h₀:=X.base) I.ok.mod.qI hk (bj (ha pos aI s σ H _ I h) λus s1 ⟨vs,H1,I1,r,q⟩=>⟨I1.ff,?_⟩) he jl;exact OY F hr hb hd hx I1 r q
end
section
variable{X:Cx}{CX:nZ}{k:Nat}{f C:Addr}{fd:FuncData}{ps ks:List Str}{sp:Sp}{E:XK}{x m:Str}{p pos iH aaa:Pos}{e o:Expr}{es:List Expr}{kws:List Keyword}{te ta:TE}{t tk:TA}{nm:Option Str}
variable{g:List Value→List Value→List Value}{gV:List V→List V→List V}
end
structure c8(N P:List Str)(sc:Scope):Prop where
 kind:sc.kind=.function
 co:sc.isCoroutine=false
 gen:sc.isGenerator=false
 nd:N.Nodup
 pre:N.take P.length=P
 par:∀x∈P,sc.names.lookup x=some .local∨sc.names.lookup x=some .cell
 OZ:∀y∈sc.names,y.2≠.free
theorem dJ{N P:List Str}{sc:Scope}(a:sc.kind=.function)(b:sc.isCoroutine=false)(c:sc.isGenerator=false)(h:N.Nodup∧(∀x∈P,sc.names.lookup x=some .local∨sc.names.lookup x=some .cell)∧∀y∈sc.names,y.2≠.free)(e:N.take P.length=P):c8 N P sc:=⟨a,b,c,h.1,e,h.2.1,h.2.2⟩
theorem GY{kindOf:Str→Option NameKind}{x:Str}:∀{binds:List (Str×Value)}{m:Str→Option Value},(∀v,(x,v) ∉ binds)→bindL kindOf binds m x=m x
 | [],_,_=>rfl
 |(n,v)::r,m,h=>by
  unfold bindL;rw[GY λw hw=>h w (fu _ hw)];split
  ·have:x≠n:=by rintro rfl;exact h v cZ
   simp[this]
  ·rfl
theorem GZ{kindOf:Str→Option NameKind}{x:Str}:∀{binds:List (Str×Value)}{m:Str→Option Value},(∀v,(x,v) ∉ binds)→bindC kindOf binds m x=m x
 | [],_,_=>rfl
 |(n,v)::r,m,h=>by
  unfold bindC;rw[GZ λw hw=>h w (fu _ hw)];split
  ·rfl
  ·have:x≠n:=by rintro rfl;exact h v cZ
   simp[this]
theorem G0{kindOf:Str→Option NameKind}{x:Str}{v:Value}:∀{P:List Str}{vs:List Value}{i:Nat}{m:Str→Option Value},P.Nodup→P[i]?=some x→vs[i]?=some v→kindOf x=some .local→
  bindL kindOf (P.zip vs) m x=some v
 | [],_,_,_,_,h,_,_=>by simp at h
 |_::_,[],_,_,_,_,h,_=>by simp at h
 |p::P,w::vs,0,m,nd,h1,h2,hk=>by
  simp at h1 h2;subst h1;subst h2;show bindL kindOf ((p,w)::P.zip vs) m p=_;unfold bindL;rw[GY λv hv=>(List.nodup_cons.mp nd).1 (vb hv).1,ae hk];simp
 |p::P,w::vs,i+1,m,nd,h1,h2,hk=>by
  show bindL kindOf ((p,w)::P.zip vs) m x=_;unfold bindL;exact G0 (i:=i) (List.nodup_cons.mp nd).2 (by simpa using h1) (by simpa using h2) hk
theorem G1{kindOf:Str→Option NameKind}{x:Str}{v:Value}:∀{P:List Str}{vs:List Value}{i:Nat}{m:Str→Option Value},P.Nodup→P[i]?=some x→vs[i]?=some v→kindOf x≠some .local→
  bindC kindOf (P.zip vs) m x=some v
 | [],_,_,_,_,h,_,_=>by simp at h
 |_::_,[],_,_,_,_,h,_=>by simp at h
 |p::P,w::vs,0,m,nd,h1,h2,hk=>by
  simp at h1 h2;subst h1;subst h2;show bindC kindOf ((p,w)::P.zip vs) m p=_;unfold bindC;rw[GZ λv hv=>(List.nodup_cons.mp nd).1 (vb hv).1,ah hk];simp
 |p::P,w::vs,i+1,m,nd,h1,h2,hk=>by
  show bindC kindOf ((p,w)::P.zip vs) m x=_;unfold bindC;exact G1 (i:=i) (List.nodup_cons.mp nd).2 (by simpa using h1) (by simpa using h2) hk
noncomputable def start(N:List Str)(vs:List V):St:=vs.map some++List.replicate (N.length-vs.length) none
noncomputable def kE(CX:nZ)(P:Program)(w:World)(K:Frag)(mg:Str→Option Value)(base:Heap)(N:List Str)(qual:Str)(scope:Scope)(f:Addr)(cd:Value)(A:Around)(outer:List Env)(s:Shared)(H:Hp)(E:XK):Cx where
 prog:=P
 w:=w
 K:=K
 mg:=mg
 base:=base
 A:=A.deeper (envOfC qual scope s.heap.objs.size f cd)
 N:=N
 s₀:=s
 H₀:=H
 env:=envOfC qual scope s.heap.objs.size f cd
 outer:=outer
 stack:=envOfC qual scope s.heap.objs.size f cd::outer
 ex:=[]
 calm:=true
 fn:=λ_=>true
 pn:=[]
 xe:=λe s'=>wpAny (model P w) (A.deeper (envOfC qual scope s.heap.objs.size f cd)) (leaving (envOfC qual scope s.heap.objs.size f cd) e) (λ_ kG=>CX outer H s E e kG) (λe' kG=>CX outer H s E e' kG) s'
theorem B9{sc:Scope}{n:Nat}(h:sc.names.lookup x=some .cell):∃c,(cellsFrom n sc.names []).lookup x=some c:=by
 have q:=BF sc.names n [] (.inl h);exact Option.isSome_iff_exists.mp q
theorem Ca{CX:nZ}{P:Program}{w:World}{K:Frag}{mg:Str→Option Value}{base:Heap}{N ps:List Str}{qual:Str}{scope:Scope}{f:Addr}{cd:Value}{outer:List Env}{s1:Shared}{E:XK}{vs:List V}
  (S:c8 N ps scope) (hd:A.handled=none) (e0:sY P w K mg base A outer s H) (hl:vs.length=ps.length) (r:Vals vs us)
  (x:InCallC s s.heap.objs.size (bindL (envOfC qual scope s.heap.objs.size f cd).kindOf (ps.zip us) λ_=>none) (cellsFrom (s.heap.objs.size+1) scope.names []) (bindC (envOfC qual scope s.heap.objs.size f cd).kindOf (ps.zip us) λ_=>none) s1) :
  Inv (kE CX P w K mg base N qual scope f cd A outer s H E) [] (start N vs) H s1:=by
 have jl:ps.length≤N.length:=by have:=ao List.length S.pre;rw[cV]at this;lia
 obtain⟨h1,tk,rfl,hk⟩:=x.done;have qX:∀b:Addr,b ∉ (kE CX P w K mg base N qual scope f cd A outer s H E).ex:=λb z=>absurd (show b∈([]:List Addr) from z) (by simp)
 refine⟨⟨e0.mod,S.kind,rfl,rfl,ck _,λy z c h1 h2=>?_,λy hy=>?_,λy c _ h=>?_,λ_=>hd,Around.frames_deeper e0.frames,.inr ⟨rfl,rfl⟩,λb z=>absurd z (qX b),e0.bs,e0.oW,λb _ _=>qX b,λb z=>absurd z (qX b),e0.lI,e0.qJ⟩,
  rfl,e0.bare,Un.kept hk,⟨_,x.toInCall.ns,λi y v h1 h2 h3=>?_⟩,λy c h=>⟨_,x.cell y c h⟩,e0.bH.fresh (ck _),λy c h=>?_,λp hp=>absurd (show p∈([]:List (Addr×Obj)) from hp) (by simp),e0.bH.kept hk,?_⟩
 ·exact name_of_addr x.apart (nM h1) (nM h2)
 ·have hy:scope.names.lookup y=some .cell∨scope.names.lookup y=some .free:=hy;rcases hy with hy|hy
  ·exact B9 hy
  ·exact absurd rfl (S.OZ _ (nM hy))
 ·exact oO (x.above y c (nM h))
 ·have hi:i<vs.length:=by
   unfold start at h2;by_cases hi:i<vs.length
   ·exact hi
   ·rw[gZ (by simpa using hi)]at h2;rw[vc]at h2;split at h2<;>cases h2
  have ha:vs[i]?=some v:=by
   unfold start at h2;rw[gz (by simpa using hi),eI]at h2;cases e:vs[i]? with
   |none=>rw[e]at h2;cases h2
   |some a=>rw[e]at h2;cases h2;rfl
  obtain⟨u,hu,rv⟩:=r.get ha;have hp:ps[i]?=some y:=by
   rw[← S.pre,List.getElem?_take_of_lt (by lia)];exact h1
  have G2:ps.Nodup:=by rw[← S.pre];exact S.nd.sublist (List.take_sublist _ _)
  refine⟨u,rv,?_⟩;rcases S.par y (gj hp)with k|k
  ·exact .inl ⟨k,G0 G2 hp hu k⟩
  ·obtain⟨c,e⟩:=B9 (n:=s.heap.objs.size+1) k;refine .inr ⟨.inl k,c,e,?_⟩;have q:=x.cell y c e;rw[G1 G2 hp hu (by show scope.names.lookup y≠_;rw[k];decide)]at q;exact q
 ·exact e0.bH.fresh (oO (x.above y c (nM h)))
 ·unfold start;show _=N.length;rw[bQ,bz,ee];lia
theorem G3{CX:nZ}{P:Program}{w:World}{K:Frag}{mg:Str→Option Value}{base:Heap}{k:Nat}{f:Addr}{name qual:Str}{params:Arguments}{scope:Scope}{dV kV doc pm bV ct oc:Value}{an od:Option Addr}
  {lK:Array (Option Value)} {N ps:List Str} {sp:Sp} (lk:K.lookup f=some ⟨oc,od,.func (fnOf name qual params body scope dV kV doc pm an bV ct),lK⟩) (gQ:PySem.W.codeIn K bV qual=true) (S:c8 N ps scope)
  (len:∀vs H Q E,sp vs H Q E→vs.length=ps.length)
  (mK:∀(A:Around)(outer:List Env)(s:Shared)(H:Hp)(vs:List V)(Q:VK)(E:XK),dt k (A.deeper (envOfC qual scope s.heap.objs.size f bV))→sp vs H Q E→
   ∃t,iX (kE CX P w K mg base N qual scope f bV A outer s H E) body t∧t { nx:=λ_ H'=>Q .cI H',rt:=Q } (start N vs) H) :
  bu P w K mg base CX (k+1) f (fnOf name qual params body scope dV kV doc pm an bV ct) ps sp:=by
 refine⟨len,λA outer s H args us vs Q E hr e0 hb r jm=>?_⟩;have hl:=len _ _ _ _ jm;have KX:K.In s.heap:=e0.mod.qI.keeps λb o e=>(e0.bs b o e).1;have qY:s.heap.NoLimit:=e0.mod.nolimit.keeps λb o e=>(e0.bs b o e).1;have vC:∀y∈ps.zip us,scope.names.lookup y.1=some .local∨(scope.names.lookup y.1=some .cell∧((cellsFrom (s.heap.objs.size+1) scope.names []).lookup y.1).isSome=true):=λ⟨n,v⟩ hy=>by
  rcases S.par n (vb hy).1 with q|q
  ·exact .inl q
  ·exact .inr ⟨q,BF _ _ _ (.inl q)⟩
 refine codeAny_call_function hr.depth (KX _ _ lk) rfl S.co S.gen rfl (PySem.W.codeRec_of KX gQ) (hb _ _ _ _ ?_);refine ay S.kind vC λenv he s1 x=>?_;subst he;refine⟨qY.keeps x.toInCall.keep,codeAny_func ?_⟩;obtain⟨t,ht,hq⟩:=mK A outer s H vs Q E (hr.deeper _) jm;have I:Inv (kE CX P w K mg base N qual scope f bV A outer s H E) [] (start N vs) H s1:=Ca S hr.hd e0 hl r x;refine ai (ht [] s1 (start N vs) H _ I hq) (λfl s' hs=>?_) λe s' hs=>hs;have fin:∀{σ':St}{H':Hp}{v:V}{u:Value},Inv (kE CX P w K mg base N qual scope f bV A outer s H E) [] σ' H' s'→RelV v u→Q v H'→CE outer P w H s Q u s':=
  λ{σ' H' v u} J rv q=>⟨v,H',J.os,J.bare,J.base,J.bH,rv,q⟩
 cases fl with
 |ret u=>
  obtain⟨v,σ',H',J,rv,q⟩:=hs;exact fin J rv q
 |next=>
  obtain⟨σ',H',J,q⟩:=hs;exact fin (v:=V.cI) (u:=Value.none) J rfl q
 |brk=>
  obtain⟨_,_,_,q⟩:=hs;exact False.elim q
 |cont=>
  obtain⟨_,_,_,q⟩:=hs;exact False.elim q
section
variable{X:Cx}{x:Str}{p pos:Pos}{e:Expr}{es:List Expr}{t:TA}{id T:String}{r:List V→Hp→VK→Prop}
def fE(r:List V→Hp→VK→Prop)(t:TA):TE:=λσ H Q=>t σ H λvs H1=>r vs H1 Q
theorem gm(hc:g6 X (.builtin id) r)(hg:Gl X x)(hm:X.mg x=none)(hv:bootBuiltins x=some (.builtin id))(ha:PA X (e::es) t)(hn:x ≠ "__name__":=by decide)(qW:(x==("__debug__":Str))=false:=by decide)
  (he:starEach (e::es) X.env=(false,eval e X.env)::starEach es X.env:=by rfl) (jl:(backTo pos (starEach es X.env)).any (·.1)=false:=by rfl):PE X (.Call (.Name x p) (e::es) [] pos) (fE r t):=by
 intro aI s σ H Q I h;refine ax (qO I hg hm hv ?_ hn qW);exact PyProof.Rows.callWith_builtin1 (bj (ha pos aI s σ H _ I h) λus s1 ⟨vs,H1,I1,r1,q1⟩=>hc aI s1 σ H1 vs us Q I1 r1 q1) he jl
theorem j6(hc:g6 X (.type T) r)(hg:Gl X x)(hm:X.mg x=none)(hv:bootBuiltins x=some (.type T))(ha:PA X (e::es) t)(hn:x ≠ "__name__":=by decide)(qW:(x==("__debug__":Str))=false:=by decide)
  (he:starEach (e::es) X.env=(false,eval e X.env)::starEach es X.env:=by rfl) (jl:(backTo pos (starEach es X.env)).any (·.1)=false:=by rfl):PE X (.Call (.Name x p) (e::es) [] pos) (fE r t):=by
 intro aI s σ H Q I h;refine ax (qO I hg hm hv ?_ hn qW);exact BE (bj (ha pos aI s σ H _ I h) λus s1 ⟨vs,H1,I1,r1,q1⟩=>hc aI s1 σ H1 vs us Q I1 r1 q1) he jl
end
end L2
namespace HT
open PySem PyProof.Rows
section
open PySem.SeqAt
open PySem.AutoSeq1 (wpAny_loadPart')
open PySem.MeetsSeq PySem.MeetsSeq2 PySem.MeetsSeq3
end
section
variable{prog:Program}{w:World}{A:Around}{E:QV}{s:Shared}
theorem O0{t b:Addr}{vs ws:List Value}{Q:QV}(ht:IsTup s.heap t vs.toArray)(hb:IsTup s.heap b ws.toArray)(hv:vs≠[])
  (h1:ws=[]→Q (.ref t) s) (h2:ws≠[]→Q (.ref s.heap.objs.size) { s with heap:=s.heap.push { cls:=.type "tuple",data:=.seq (vs++ws).toArray } })
  (hsz:vs.length+ws.length≤sizeLine):wpAny (model prog w) A (binaryOp .Add (.ref t) (.ref b)) Q E s:=by
 obtain⟨⟨cls,dd,data,sl⟩,ho,hc,n,hd⟩:=id ht;obtain⟨⟨aab,ya,data2,yd⟩,yf,qZ,n2,G4⟩:=id hb;simp only at hc hd qZ G4;subst hc hd qZ G4;have e:vs.toArray++ws.toArray=(vs++ws).toArray:=by simp
 by_cases hw:ws=[]
 ·exact concat_meets ⟨_,ho,rfl⟩ ⟨_,yf,rfl⟩ noFill_tuple_add seq_tuple_add PySem.F.slot_tuple_add PySem.F.entry_tuple_add (PySem.F.args_tuple_add_2 _ _)
   (tuple_addW1 t b vs.toArray ws.toArray n n2 dd ya sl yd (by simpa using hv) (by simp[hw])) ⟨ho,yf,h1 hw⟩
 ·refine concat_meets ⟨_,ho,rfl⟩ ⟨_,yf,rfl⟩ noFill_tuple_add seq_tuple_add PySem.F.slot_tuple_add PySem.F.entry_tuple_add (PySem.F.args_tuple_add_2 _ _)
   (tuple_addW2 t b vs.toArray ws.toArray n n2 dd ya sl yd (by simpa using hv) (by simpa using hw) (by rw[dm,dm];exact hsz)) ⟨ho,yf,?_⟩
  rw[e];exact h2 hw
noncomputable def cz(n d:Nat):Option Int→Nat
 |none=>d
 |some v=>if v<0 then(v+(n:Int)).toNat else min v.toNat n
theorem yh(n d:Nat):cz n d none=d:=rfl
theorem sZ(n d k:Nat):cz n d (some (k:Int))=min k n:=by
 show(if(k:Int)<0 then((k:Int)+(n:Int)).toNat else min (k:Int).toNat n)=min k n
 rw[ah (by lia),Int.toNat_natCast]
theorem O1(n d:Nat)(hd:d≤n)(o:Option Int):cz n d o≤n:=by
 cases o with
 |none=>exact hd
 |some v=>
  show(if v<0 then(v+(n:Int)).toNat else min v.toNat n)≤n
  by_cases hv:v<0
  ·rw[ae hv];lia
  ·rw[ah hv];exact Nat.min_le_right _ _
theorem G5(v:Int)(n d:Nat):(if v<0 then max (v+(n:Int)) 0 else min v (n:Int))=((cz n d (some v):Nat):Int):=by
 show(if v<0 then max (v+(n:Int)) 0 else min v (n:Int))=(((if v<0 then(v+(n:Int)).toNat else min v.toNat n):Nat):Int)
 by_cases hv:v<0
 ·simp only[ae hv];lia
 ·simp only[ah hv];lia
theorem O2(lo hi:Option Int)(n:Nat):Builtin.Slice.sliceAdjust lo hi 1 (n:Int)=(((cz n 0 lo:Nat):Int),((cz n n hi:Nat):Int)):=by
 have h1:¬((1:Int)<0):=by lia
 unfold Builtin.Slice.sliceAdjust;simp only[h1,if_false];refine Prod.ext ?_ ?_
 ·cases lo with
  |none=>rfl
  |some v=>exact G5 v n 0
 ·cases hi with
  |none=>rfl
  |some v=>exact G5 v n n
theorem O3(i j:Nat):Builtin.Slice.slicePlaces (i:Int) (j:Int) 1=j-i:=by
 unfold Builtin.Slice.slicePlaces;have h1:(1:Int)>0:=by lia
 simp only[h1,if_true,Int.ediv_one];split<;>lia
theorem G6{v:Value}{o:Option Int}{Q:Option Int→Shared→Prop}(p:IsPart v o)(h:Q o s):wpAny (model prog w) A (Builtin.Slice.slicePartIndex v) Q E s:=by
 cases p with
 |none=>exact slicePart_none h
 |int i t=>exact slicePart_int h
theorem G7{sl:Addr}{vl vu:Value}{lo hi:Option Int}{n:Nat}{Q:Int×Int×Nat→Shared→Prop}(hs:s.heap.IsSliceOf sl vl vu .none)(pl:IsPart vl lo)(pu:IsPart vu hi)
  (h:Q (((cz n 0 lo:Nat):Int),1,cz n n hi-cz n 0 lo) s):wpAny (model prog w) A (Builtin.Slice.sliceApplied (.ref sl) (pure (n:Int))) Q E s:=by
 obtain⟨os,q0,yi,vD⟩:=id hs;unfold Builtin.Slice.sliceApplied Builtin.Slice.sliceFields;refine aq (aq (wpAny_field q0 vD (x:=vl) rfl (aq (wpAny_field q0 vD (x:=vu) rfl (aq (wpAny_field q0 vD (x:=.none) rfl (av ?_)))))));refine aq (slicePart_none ?_);show wpAny _ _ (if((1:Int)==0)=true then _ else _) _ _ s
 rw[ah (by decide)];refine aq (G6 pl (aq (G6 pu (aq (av ?_)))));show wpAny _ _ (match Builtin.Slice.sliceAdjust lo hi 1 (n:Int)with|(lo,hi)=>pure (lo,(1:Int),Builtin.Slice.slicePlaces lo hi 1)) _ _ s
 rw[O2 lo hi n];show wpAny _ _ (pure (((cz n 0 lo:Nat):Int),(1:Int),Builtin.Slice.slicePlaces ((cz n 0 lo:Nat):Int) ((cz n n hi:Nat):Int) 1)) _ _ s;rw[O3];exact av h
theorem O4(xs:Array Value)(i k:Nat):((List.range k).filterMap λ(m:Nat)=>xs[((i:Int)+(m:Int)*1).toNat]?).toArray=((xs.toList.drop i).take k).toArray:=by
 have e:(λ(m:Nat)=>xs[((i:Int)+(m:Int)*1).toNat]?)=λm=>xs[i+m]?:=by
  funext m
  have:((i:Int)+(m:Int)*1).toNat=i+m:=by lia
  rw[this]
 rw[e]
 have:=pick_run xs i k
 rw[List.filterMap_map]at this;have e2:((λx=>xs[x]?) ∘ λx=>i+x)=λm=>xs[i+m]?:=rfl;rw[e2]at this;rw[this]
theorem O5{t sl:Addr}{items:Array Value}{vl vu:Value}{lo hi:Option Int}{Q:QV}(ht:IsTup s.heap t items)(hs:s.heap.IsSliceOf sl vl vu .none)(pl:IsPart vl lo)(pu:IsPart vu hi)
  (hw:¬(cz items.size 0 lo=0∧cz items.size items.size hi=items.size))
  (h:Q (.ref s.heap.objs.size) { s with heap:=s.heap.push { cls:=.type "tuple",data:=.seq ((items.toList.drop (cz items.size 0 lo)).take (cz items.size items.size hi-cz items.size 0 lo)).toArray } })
  (hsz:items.size≤sizeLine):wpAny (model prog w) A (getItem (.ref t) (.ref sl)) Q E s:=by
 have yj:sizeOk (.seq ((items.toList.drop (cz items.size 0 lo)).take (cz items.size items.size hi-cz items.size 0 lo)).toArray):=by
  show((items.toList.drop (cz items.size 0 lo)).take (cz items.size items.size hi-cz items.size 0 lo)).toArray.size≤sizeLine;rw[dm,cV,eJ,Array.length_toList];lia
 have hj:cz items.size items.size hi≤items.size:=O1 _ _ (ck _) hi;obtain⟨os,q0,yi,vD⟩:=id hs;have tj:s.TypeIs (.ref sl) "slice":=⟨os,q0,yi⟩;unfold getItem
 try with_reducible refine ar ?_
 first|refine aq (av ?_)|skip
 refine aq (wpAny_sequenceKey ht.typeIs (by decide) ?_);refine aq (az (name:=Str.ofString "__getitem__") ht.typeIs xM (aA xM ht.typeIs entry_tuple_getitem ?_ (args_tuple_getitem _ _)));show wpAny _ _ (Builtin.Tuple.tupleItemsOf (.ref t) >>= _) _ _ s;refine aq (tupleItemsOf_ ht ?_);refine aq (wpAny_typeOf tj ?_);rw[ae (by decide)];refine aq (G7 hs pl pu ?_);have O6:¬((((cz items.size 0 lo:Nat):Int)==0&&(1:Int)==1&&(cz items.size items.size hi-cz items.size 0 lo)==items.size)=true):=by
  intro q;rw[gP,gP]at q;have q1:((cz items.size 0 lo:Nat):Int)=0:=eq_of_beq q.1.1;have q2:cz items.size items.size hi-cz items.size 0 lo=items.size:=eq_of_beq q.2;exact hw ⟨by lia,by lia⟩
 show wpAny _ _ (if(((cz items.size 0 lo:Nat):Int)==0&&(1:Int)==1&&(cz items.size items.size hi-cz items.size 0 lo)==items.size)=true then _ else _) _ _ s
 rw[ah O6,O4];first
  |exact aq (m:=Builtin.Tuple.tupleExact _) (aC (av ⟨_,rfl,av h⟩) yj)
  |exact aq (m:=Builtin.Tuple.tupleExact _) (aC (aq (av (av ⟨_,rfl,av h⟩))) yj)
  |exact aq (aq (m:=Builtin.Tuple.tupleExact _) (aC (av (av ⟨_,rfl,av h⟩)) yj))
  |exact aq (aq (m:=Builtin.Tuple.tupleExact _) (aC (av ⟨_,rfl,av h⟩) yj))
end
end HT
namespace L2
open PySem PySem.Spec PyProof.Rows
variable{its:List Value}{s:Shared}{x:V}{α:Type}
abbrev TO:=St→Hp→(Option Int→Hp→Prop)→Prop
def PO(X:Cx)(e:Option Expr)(t:TO):Prop:=
 ∀(aI:List (Addr×Obj))(s:Shared)(σ:St)(H:Hp)(Q:Option Int→Hp→Prop),Inv X aI σ H s→t σ H Q→
  wpAny (model X.prog X.w) X.A (evalPart e X.env) (λu s'=>∃o H',Inv X aI σ H' s'∧IsPart u o∧Q o H') X.xe s
def iq:TO:=λ_ H Q=>Q none H
def fi(t:TE):TO:=λσ H Q=>t σ H λx H1=>∃i,x=.int i∧Q (some i) H1
section
variable{X:Cx}{e:Expr}{te:TE}{lo hi:Option Expr}{tl th:TO}{pos p2:Pos}
theorem gn:PO X none iq:=by
 intro aI s σ H Q I h;rw[evalPart_none];exact av ⟨none,H,I,.none,h⟩
theorem dP(h:PE X e te):PO X (some e) (fi te):=by
 intro aI s σ H Q I hw;rw[evalPart_some];refine bj (h aI s σ H _ I hw) λu s1 ⟨x,H1,I1,r1,q1⟩=>?_;obtain⟨i,rfl,q⟩:=q1;obtain⟨t,rfl⟩:=r1;exact⟨some i,H1,I1,.int i t,q⟩
def q5(X:Cx)(r:V→Option Int→Option Int→Hp→VK→Prop):Prop:=
 ∀(aI:List (Addr×Obj))(s:Shared)(σ:St)(H:Hp)(x:V)(v vl vu:Value)(lo hi:Option Int)(sl:Addr)(Q:VK),Inv X aI σ H s→RelV x v→s.heap.IsSliceOf sl vl vu .none→IsPart vl lo→IsPart vu hi→r x lo hi H Q→
  ∃T id,typeLookup (.type T) "__getitem__"=pure (some (.builtin id))∧s.TypeIs v T∧wpAny (model X.prog X.w) X.A (getItem v (.ref sl)) (EP X aI σ Q) X.xe s
def gu(r:V→Option Int→Option Int→Hp→VK→Prop)(te:TE)(tl th:TO):TE:=λσ H Q=>te σ H λx H1=>tl σ H1 λl H2=>th σ H2 λu H3=>r x l u H3 Q
theorem eN{r:V→Option Int→Option Int→Hp→VK→Prop}(hr:q5 X r)(he:PE X e te)(hl:PO X lo tl)(hu:PO X hi th):PE X (.Subscript e (.Slice lo hi none p2) pos) (gu r te tl th):=by
 intro aI s σ H Q I h;refine Subscript_ (bj (he aI s σ H _ I h) λv s1 ⟨x,H1,I1,r1,q1⟩=>?_);refine wpAny_Slice (bj (hl aI s1 σ H1 _ I1 q1) λvl s2 ⟨l,H2,I2,pl,q2⟩=>bj (hu aI s2 σ H2 _ I2 q2) λvu s3 ⟨u,H3,I3,pu,q3⟩=>?_);rw[evalPart_none];refine av ?_;have I4:Inv X aI σ H3 { s3 with heap:=s3.heap.push { cls:=.type "slice",data:=.fields #[vl,vu,.none] } }:=I3.kept (t':=s3.toks) λb ob q=>dH _ q;obtain⟨T,id,hT,ht,hg⟩:=hr aI { s3 with heap:=s3.heap.push { cls:=.type "slice",data:=.fields #[vl,vu,.none] } } σ H3 x v vl vu l u s3.heap.objs.size Q I4 r1 (Heap.IsSliceOf.new ..) pl pu q3;show wpAny (model X.prog X.w) X.A (subscriptTail e (.Slice lo hi none p2) v (.ref s3.heap.objs.size)) (EP X aI σ Q) X.xe { s3 with heap:=s3.heap.push { cls:=.type "slice",data:=.fields #[vl,vu,.none] } };exact tail_any (ops:=[.ref s3.heap.objs.size,v]) ht hT hg (by with_unfolding_all rfl)
noncomputable def ir(xs:List V)(lo hi:Option Int):List V:=(xs.drop (HT.cz xs.length 0 lo)).take (HT.cz xs.length xs.length hi-HT.cz xs.length 0 lo)
theorem G8(xs:List V)(lo hi:Option Int):(ir xs lo hi).length≤xs.length:=by
 unfold ir;rw[cV,eJ];lia
def yk(K:Frag):V→Option Int→Option Int→Hp→VK→Prop:=λx lo hi H Q=>∃a xs,x=.ref a∧aZ K H a xs∧
 ¬(HT.cz xs.length 0 lo=0∧HT.cz xs.length xs.length hi=xs.length)∧∀p,H p=none→Q (.ref p) (upd H p (.tup (ir xs lo hi)))
theorem G9:q5 X (yk X.K):=by
 intro aI s σ H x v vl vu lo hi sl Q I rx hs pl pu h;obtain⟨a,xs,rfl,hx,hw,q⟩:=h;cases rx;obtain⟨its,r,ht,hz⟩:=I.tuple hx;have cA:its.toArray.size=xs.length:=by rw[dm];exact r.length.symm
 refine⟨"tuple",_,xM.lookup,ht.typeIs,?_⟩;refine HT.O5 ht hs pl pu (by rw[cA];exact hw) ?_ (by rw[cA];exact hz);rw[cA];refine⟨.ref s.heap.objs.size,_,I.laid (t':=s.toks) (o:=.tup (ir xs lo hi)) (λb ob q=>dH _ q) (ck _) ?_,rfl,q _ (I.bH.fresh (ck _))⟩;exact⟨ft (G8 xs lo hi) hz,_,(r.drop (HT.cz xs.length 0 lo)).take (HT.cz xs.length xs.length hi-HT.cz xs.length 0 lo),nR.new _ _⟩
def O7(K:Frag):R2:=λx y H Q=>∃a b xs ys,x=.ref a∧y=.ref b∧aZ K H a xs∧aZ K H b ys∧xs≠[]∧xs.length+ys.length≤sizeLine∧
 (ys=[]→Q (.ref a) H)∧(ys≠[]→∀p,H p=none→Q (.ref p) (upd H p (.tup (xs++ys))))
theorem Vals.ym{xs:List V}{us:List Value}(r:Vals xs us):us=[]↔xs=[]:=by
 cases r with
 |nil=>simp
 |cons _ _=>simp
theorem Ha:eM X (binaryOp .Add) (O7 X.K):=by
 intro aI s σ H x y v u Q I rx ry h;obtain⟨a,b,xs,ys,rfl,rfl,ha,hb,hx,hz,q1,q2⟩:=h;cases rx;cases ry;obtain⟨its,r1,p1,_⟩:=I.tuple ha;obtain⟨rf,r2,p2,_⟩:=I.tuple hb;refine HT.O0 p1 p2 (λz=>hx (r1.ym.mp z)) (λz=>⟨.ref a,H,I,rfl,q1 (r2.ym.mp z)⟩) (λz=>?_) (by rw[← r1.length,← r2.length];exact hz);refine⟨.ref s.heap.objs.size,_,I.laid (t':=s.toks) (o:=.tup (xs++ys)) (λb ob q=>dH _ q) (ck _) ?_,rfl,q2 (λw=>z (r2.ym.mpr w)) _ (I.bH.fresh (ck _))⟩;exact⟨by rw[bQ];exact hz,_,r1.append r2,nR.new _ _⟩
end
noncomputable def mN(n:Nat)(i:Int):Option Nat:=if 0≤i then(if i<n then some i.toNat else none)else if -(n:Int)≤i then some (i+n).toNat else none
noncomputable def pZ(xs:List α)(i:Int):Option α:=(mN xs.length i).bind λj=>xs[j]?
theorem Hc{n:Nat}{i:Int}{j:Nat}(h:mN n i=some j):seqIndex? i n=some j∧j<n∧-(n:Int)≤i∧i<n:=by
 unfold mN at h;by_cases h0:0≤i
 ·rw[ae h0]at h;by_cases h1:i<n
  ·rw[ae h1]at h;have e:i.toNat=j:=dj h;exact⟨by rw[seqIndex_of h0 h1,e],by lia,by lia,h1⟩
  ·rw[ah h1]at h;cases h
 ·rw[ah h0]at h;by_cases h1:-(n:Int)≤i
  ·rw[ae h1]at h;have e:(i+n).toNat=j:=dj h;exact⟨by rw[seqIndex_neg (by lia) h1,e],by lia,h1,by lia⟩
  ·rw[ah h1]at h;cases h
theorem Hd{xs:List α}{i:Int}{v:α}(h:pZ xs i=some v):∃j,seqIndex? i xs.length=some j∧xs[j]?=some v∧j<xs.length∧-(xs.length:Int)≤i∧i<xs.length:=by
 unfold pZ at h;cases e:mN xs.length i with
 |none=>rw[e]at h;cases h
 |some j=>
  rw[e]at h;obtain⟨h1,h2,h3,h4⟩:=Hc e;exact⟨j,h1,h,h2,h3,h4⟩
theorem cH{xs:List α}{j:Nat}{v:α}(h:xs[j]?=some v):pZ xs (j:Int)=some v:=by
 have hj:j<xs.length:=(gi.mp h).1;have e:mN xs.length (j:Int)=some j:=by
  unfold mN;rw[ae (by lia),ae (by lia)];simp
 unfold pZ;rw[e];exact h
theorem yn(xs:List α)(v:α):pZ (xs++[v]) (-1)=some v:=by
 have hl:(xs++[v]).length=xs.length+1:=by simp
 have e:mN (xs++[v]).length (-1)=some xs.length:=by
  unfold mN;rw[hl,ah (by decide),ae (by lia)]
  congr 1
  lia
 unfold pZ;rw[e];show(xs++[v])[xs.length]?=some v;simp
def O8(b:Expr):Prop:=∀o i,subscripted b false o i=operate [o,i] (getItem o i)
def vE(X:Cx)(r:R2):Prop:=
 ∀(value slice:Expr)(aI:List (Addr×Obj))(s:Shared)(σ:St)(H:Hp)(x y:V)(v u:Value)(Q:VK),Inv X aI σ H s→RelV x v→RelV y u→r x y H Q→
  subscripted slice false v u=operate [v,u] (getItem v u)→wpAny (model X.prog X.w) X.A (subscriptTail value slice v u) (EP X aI σ Q) X.xe s
def yo(X:Cx)(id:String)(r:V→List V→Hp→VK→Prop):Prop:=
 ∀(aI:List (Addr×Obj))(s:Shared)(σ:St)(H:Hp)(x:V)(xs:List V)(v:Value)(us:List Value)(Q:VK),Inv X aI σ H s→RelV x v→Vals xs us→r x xs H Q→
  wpAny (model X.prog X.w) X.A (call (.builtin id) (v::us)) (EP X aI σ Q) X.xe s
section
variable{X:Cx}{a b:Expr}{ta tb:TE}{pos:Pos}
theorem cf{r:R2}(hr:vE X r)(ha:PE X a ta)(hb:PE X b tb)(hs:O8 b):PE X (.Subscript a b pos) (bI r ta tb):=by
 intro aI s σ H Q I h;exact Subscript_ (B1 ha hb I h λv u s2 x y H2 I2 rx ry q=>hr a b aI s2 σ H2 x y v u Q I2 rx ry q (hs _ _))
def n5(K:Frag):R2:=λx y H Q=>∃p xs i v,x=.ref p∧y=.int i∧cM K H p xs∧pZ xs i=some v∧Q v H
def kH(K:Frag):R2:=λx y H Q=>∃p xs i v,x=.ref p∧y=.int i∧aZ K H p xs∧pZ xs i=some v∧Q v H
theorem O9:vE X (n5 X.K):=by
 intro value slice aI s σ H x y v u Q I rx ry h hs;obtain⟨p,xs,i,z,rfl,rfl,hq,he,q⟩:=h;cases rx;obtain⟨t,rfl⟩:=ry;obtain⟨its,r,pl,hz⟩:=I.list hq;obtain⟨j,h1,h2,h3,h4,h5⟩:=Hd he;obtain⟨w,ew,mQ⟩:=r.get h2;have hl:=r.length;have hn:=vA;have fin:EP X aI σ Q w s:=⟨z,H,I,mQ,q⟩;by_cases h0:0≤i
 ·have hj:i.toNat=j:=by
   rw[seqIndex_of h0 h5]at h1;exact dj h1
  exact item_listR pl.isList h0 (by lia) (by rw[hj];simpa using ew) fin hs
 ·have hj:(i+(its.toArray.size:Int)).toNat=j:=by
   rw[seqIndex_neg (by lia) h4]at h1;rw[dm,← hl];exact dj h1
  exact subscriptTail_builtinR (x:=w) pl.isList.typeIs slot_list_getitem.lookup
   (wpAny_getItem_list_neg (Q:=λr s'=>r=w∧EP X aI σ Q r s') pl.isList (by lia) (by rw[dm]<;>lia) (by lia) (by rw[hj];simpa using ew) ⟨rfl,fin⟩) hs
theorem Pa:vE X (kH X.K):=by
 intro value slice aI s σ H x y v u Q I rx ry h hs;obtain⟨p,xs,i,z,rfl,rfl,hq,he,q⟩:=h;cases rx;obtain⟨t,rfl⟩:=ry;obtain⟨its,r,pl,hz⟩:=I.tuple hq;obtain⟨j,h1,h2,h3,h4,h5⟩:=Hd he;obtain⟨w,ew,mQ⟩:=r.get h2;have hl:=r.length;have hn:=vA;have fin:EP X aI σ Q w s:=⟨z,H,I,mQ,q⟩;exact subscriptTail_builtinR (x:=w) pl.typeIs slot_tuple_getitem.lookup
  (getItem_tuple (j:=j) (Q:=λr s'=>r=w∧EP X aI σ Q r s') pl (by lia) (by lia) (by rw[dm,← hl];exact h1) (by simpa using ew) ⟨rfl,fin⟩) hs
theorem Pb(its:List Value)(n j:Nat)(u:Value):Obj.mapSeq (·.setIfInBounds j u) { cls:=.type "list",data:=.seq its.toArray n }={ cls:=.type "list",data:=.seq (its.set j u).toArray n }:=by
 simp[Obj.mapSeq]
theorem Inv.lst{aI:List (Addr×Obj)}{σ:St}{H:Hp}{s:Shared}{p:Addr}{xs:List V}(I:Inv X aI σ H s)(h:H p=some (.lst xs)) :
  ∃(its:List Value)(n:Nat),Vals xs its∧s.heap.get? p=some { cls:=.type "list",data:=.seq its.toArray n }∧xs.length≤sizeLine:=by
 obtain⟨z,its,n,r,e⟩:=I.bH p _ h;exact⟨its,n,r,e,z⟩
theorem Inv.Pc{aI:List (Addr×Obj)}{σ:St}{H:Hp}{p:Addr}{xs ys:List V}{its':List Value}{n n':Nat}{f:Obj→Obj}(I:Inv X aI σ H s)(h:H p=some (.lst xs))
  (ho:s.heap.get? p=some { cls:=.type "list",data:=.seq its.toArray n }) (hf:f { cls:=.type "list",data:=.seq its.toArray n }={ cls:=.type "list",data:=.seq its'.toArray n' }) (r:Vals ys its') (hz:ys.length≤sizeLine) (t:Nat) :
  Inv X aI σ (upd H p (.lst ys)) { s with heap:=s.heap.update p f,toks:=t }:=by
 have e:(s.heap.update p f).get? p=some { cls:=.type "list",data:=.seq its'.toArray n' }:=by
  rw[sH f ho (by rw[hf]<;>rfl),hf]
 refine I.write (x:=p) (e:=p) (by rw[h];trivial) (.inl rfl) (λb u hb q=>(Heap.get?_update_other _ _ (Ne.symm hb)).trans q) ⟨_,e⟩ ?_;exact⟨hz,its',n',r,e⟩
def He:V→V→V→Hp→(Hp→Prop)→Prop:=λo i v H Q=>∃p xs k j,o=.ref p∧i=.int k∧H p=some (.lst xs)∧mN xs.length k=some j∧Q (upd H p (.lst (xs.set j v)))
theorem Pd:Gn X He:=by
 intro aI s σ H o i v ov iv u Q I ro ri rv h;obtain⟨p,xs,k,j,rfl,rfl,hp,hj,q⟩:=h;cases ro;obtain⟨t,rfl⟩:=ri;obtain⟨its,n,r,ho,hz⟩:=I.lst hp;obtain⟨h1,h2,h3,h4⟩:=Hc hj;have hl:=r.length;have hn:=vA;have I':Inv X aI σ (upd H p (.lst (xs.set j v))) { s with heap:=s.heap.update p (Obj.mapSeq (·.setIfInBounds j u)) }:=
  I.Pc hp ho (Pb its n j u) (r.set rv j) (by rw[List.length_set];exact hz) s.toks
 by_cases h0:0≤k
 ·have hk:k.toNat=j:=by
   rw[seqIndex_of h0 h4]at h1;exact dj h1
  exact PySem.W.ki_setAt ho h0 (by lia) (by rw[dm,← hl];exact h4) (by rw[hk];exact⟨_,I',q⟩)
 ·have hk:(k+(its.toArray.size:Int)).toNat=j:=by
   rw[seqIndex_neg (by lia) h3]at h1;rw[dm,← hl];exact dj h1
  exact PySem.W.ki_setBack ho (by lia) (by rw[dm,← hl];exact h3) (by lia) (by rw[hk];exact⟨_,I',q⟩)
theorem Pe(lo hi:Option Int)(n:Nat):(sliceBounds lo hi none n).1=((HT.cz n 0 lo:Nat):Int)∧(sliceBounds lo hi none n).2.1=((HT.cz n n hi:Nat):Int)∧(sliceBounds lo hi none n).2.2=1:=by
 refine⟨?_,?_,rfl⟩
 ·cases lo with
  |none=>simp[sliceBounds,HT.cz]
  |some i=>
   simp only[sliceBounds,HT.cz,Option.getD_none,show(1:Int)>0 by decide,if_true];by_cases h:i<0
   ·simp only[h,if_true]<;>lia
   ·simp only[h,if_false]<;>lia
 ·cases hi with
  |none=>simp[sliceBounds,HT.cz]
  |some i=>
   simp only[sliceBounds,HT.cz,Option.getD_none,show(1:Int)>0 by decide,if_true];by_cases h:i<0
   ·simp only[h,if_true]<;>lia
   ·simp only[h,if_false]<;>lia
theorem Pf(its:List Value)(lo hi:Option Int):slicePick its.toArray lo hi none=((its.drop (HT.cz its.length 0 lo)).take (HT.cz its.length its.length hi-HT.cz its.length 0 lo)).toArray:=by
 obtain⟨h1,h2,h3⟩:=Pe lo hi its.toArray.size;unfold slicePick;rw[h1,h2,h3];simp only[sliceRange_one,pick_run,dm]<;>rfl
def yp(K:Frag):V→Option Int→Option Int→Hp→VK→Prop:=λx lo hi H Q=>∃a xs,x=.ref a∧cM K H a xs∧∀p,H p=none→Q (.ref p) (upd H p (.lst (ir xs lo hi)))
theorem Pg:q5 X (yp X.K):=by
 intro aI s σ H x v vl vu lo hi sl Q I rx hs pl pu h;obtain⟨a,xs,rfl,hx,q⟩:=h;cases rx;obtain⟨its,r,ht,hz⟩:=I.list hx;have cA:=r.length;refine⟨"list",_,slot_list_getitem.lookup,ht.isList.typeIs,?_⟩;refine wpAny_getItem_list_slice ht.isList hs pl pu .none (by simp) ?_ (by rw[dm]<;>lia)
 rw[Pf,← cA];refine⟨.ref s.heap.objs.size,_,I.laid (t':=s.toks) (o:=.lst (ir xs lo hi)) (λb ob q=>dH _ q) (ck _) ?_,rfl,q _ (I.bH.fresh (ck _))⟩;exact⟨ft (G8 xs lo hi) hz,_,0,(r.drop (HT.cz xs.length 0 lo)).take (HT.cz xs.length xs.length hi-HT.cz xs.length 0 lo),ij _ rfl⟩
noncomputable def p3:V→Bool
 | .cI=>true
 | .bl _=>true
 | .int _=>true
 | .str _=>true
 |_=>false
noncomputable def hI:V→V→Bool
 | .cI,.cI=>true
 | .bl a,.bl b=>a==b
 | .bl a,.int b=>(if a then 1 else 0)==b
 | .int a,.bl b=>a==(if b then 1 else 0)
 | .int a,.int b=>a==b
 | .str a,.str b=>a==b
 |_,_=>false
theorem Ph{A:Around}{y:V}{u v:Value}(ry:RelV y u)(rx:RelV x v)(fy:p3 y=true)(fx:p3 x=true):SeqAt.EqAt A s u v (hI y x):=by
 cases y with
 |cI=>
  cases ry;cases x with
  |cI=>cases rx;exact SeqAt.EqAt.same _
  |bl b=>cases rx;exact SeqAt.EqAt.none_bool b
  |int b=>obtain⟨t,rfl⟩:=rx;exact SeqAt.EqAt.none_int b t
  |str b=>obtain⟨t,rfl⟩:=rx;exact SeqAt.EqAt.none_str b t
  |_=>exact absurd (show false=true from fx) gy
 |bl a=>
  cases ry;cases x with
  |cI=>cases rx;exact SeqAt.EqAt.bool_none a
  |bl b=>cases rx;exact SeqAt.EqAt.bool_bool a b
  |int b=>obtain⟨t,rfl⟩:=rx;exact SeqAt.EqAt.bool_int a b t
  |str b=>obtain⟨t,rfl⟩:=rx;exact SeqAt.EqAt.bool_str a b t
  |_=>exact absurd (show false=true from fx) gy
 |int a=>
  obtain⟨t',rfl⟩:=ry;cases x with
  |cI=>cases rx;exact SeqAt.EqAt.int_none a t'
  |bl b=>cases rx;exact SeqAt.EqAt.int_bool a t' b
  |int b=>obtain⟨t,rfl⟩:=rx;exact SeqAt.EqAt.int_int a t' b t
  |str b=>obtain⟨t,rfl⟩:=rx;exact SeqAt.EqAt.int_str a t' b t
  |_=>exact absurd (show false=true from fx) gy
 |str a=>
  obtain⟨t',rfl⟩:=ry;cases x with
  |cI=>cases rx;exact SeqAt.EqAt.str_none a t'
  |bl b=>cases rx;exact SeqAt.EqAt.str_bool a t' b
  |int b=>obtain⟨t,rfl⟩:=rx;exact SeqAt.EqAt.str_int a t' b t
  |str b=>obtain⟨t,rfl⟩:=rx;exact SeqAt.EqAt.str_str a t' b t
  |_=>exact absurd (show false=true from fx) gy
 |_=>exact absurd (show false=true from fy) gy
noncomputable def o8(x:V)(u:Value):Bool:=match u with
 | .none=>hI .cI x
 | .bool b=>hI (.bl b) x
 | .int i _=>hI (.int i) x
 | .str z _=>hI (.str z) x
 |_=>false
theorem Hf{y:V}{u:Value}(r:RelV y u)(f:p3 y=true):o8 x u=hI y x:=by
 cases y with
 |cI=>cases r;rfl
 |bl b=>cases r;rfl
 |int i=>obtain⟨t,rfl⟩:=r;rfl
 |str z=>obtain⟨t,rfl⟩:=r;rfl
 |_=>exact absurd (show false=true from f) gy
theorem Cb{x:V}:∀{xs:List V}{us:List Value},Vals xs us→xs.all p3=true→us.any (o8 x)=xs.any λy=>hI y x
 |_,_,.nil,_=>rfl
 |y::xs,u::us,.cons r t,f=>by
  rw[List.all_cons,gP]at f;rw[List.any_cons,List.any_cons,Hf r f.1,Cb t f.2]
theorem Cc{A:Around}{s:Shared}{x:V}{v:Value}(rx:RelV x v)(fx:p3 x=true):∀{xs:List V}{us:List Value},Vals xs us→xs.all p3=true→∀u∈us,SeqAt.EqAt A s u v (o8 x u)
 |_,_,.nil,_=>λu hu=>by cases hu
 |y::xs,u::us,.cons r t,f=>λu' hu=>by
  rw[List.all_cons,gP]at f;rcases dS.mp hu with rfl|hu
  ·rw[Hf r f.1];exact Ph r rx f.1 fx
  ·exact Cc rx fx t f.2 u' hu
noncomputable def tm(x:V)(xs:List V):Bool:=xs.any λy=>hI y x
def Cd(K:Frag)(neg:Bool):R2:=λx y H Q=>∃p xs,y=.ref p∧(cM K H p xs∨aZ K H p xs)∧p3 x=true∧xs.all p3=true∧Q (.bl (if neg then !tm x xs else tm x xs)) H
theorem Pj:eM X (compareOp .In) (Cd X.K false):=by
 intro aI s σ H x y v u Q I rx ry h;obtain⟨p,xs,rfl,hq,fx,fs,q⟩:=h;cases ry;rcases hq with hq|hq
 ·obtain⟨its,r,pl,hz⟩:=I.list hq;refine SeqAt.in_listAt (o8 x) pl.isList (λw hw=>Cc rx fx r fs w (by simpa using hw)) ⟨.bl _,H,I,rfl,?_⟩;rw[show its.toArray.any (o8 x)=its.any (o8 x) by simp,Cb r fs];exact q
 ·obtain⟨its,r,pl,hz⟩:=I.tuple hq;refine SeqAt.in_tupleAt (o8 x) pl (λw hw=>Cc rx fx r fs w (by simpa using hw)) ⟨.bl _,H,I,rfl,?_⟩;rw[show its.toArray.any (o8 x)=its.any (o8 x) by simp,Cb r fs];exact q
theorem Pk:g6 X (.builtin "len") (λxs H Q=>∃p ys,xs=[.ref p]∧(cM X.K H p ys∨aZ X.K H p ys)∧Q (.int ys.length) H):=by
 intro aI s σ H xs us Q I r h;obtain⟨p,ys,rfl,hq,q⟩:=h;obtain⟨u,rfl,rx⟩:=vals1 r;cases rx;have hn:=vA;rcases hq with hq|hq
 ·obtain⟨its,r',pl,hz⟩:=I.list hq;have cA:=r'.length;exact Calls.call_len_list pl.isList (by simp only[dm]<;>lia) ⟨.int ys.length,H,I.tok _,⟨s.toks+1,by rw[dm,cA]⟩,q⟩
 ·obtain⟨its,r',pl,hz⟩:=I.tuple hq;have cA:=r'.length;exact len_tuple pl (by simp only[dm]<;>lia) ⟨.int ys.length,H,I.tok _,⟨s.toks+1,by rw[dm,cA]⟩,q⟩
theorem Pl:g6 X (.type "list") (λxs H Q=>∃p ys,xs=[.ref p]∧(cM X.K H p ys∨aZ X.K H p ys)∧∀l,H l=none→Q (.ref l) (upd H l (.lst ys))):=by
 intro aI s σ H xs us Q I r h;obtain⟨p,ys,rfl,hq,q⟩:=h;obtain⟨u,rfl,rx⟩:=vals1 r;cases rx;have fin:∀(its:List Value),Vals ys its→ys.length≤sizeLine→∀(h':Heap)(c':Nat),(∀b o',s.heap.get? b=some o'→h'.get? b=some o')→
   h'.get? s.heap.objs.size=some { cls:=.type "list",dict:=none,data:=.seq its.toArray c',slots:=#[] }→EP X aI σ Q (.ref s.heap.objs.size) { s with heap:=h' }:=λits r' hz h' c' kp e=>
  ⟨.ref s.heap.objs.size,_,I.laid (t':=s.toks) kp (ck _) (show dW X.prog X.w _ h' _ (.lst ys) from⟨hz,its,c',r',e⟩),rfl,q _ (I.bH.fresh (ck _))⟩
 rcases hq with hq|hq
 ·obtain⟨its,r',pl,hz⟩:=I.list hq;have cA:=r'.length;obtain⟨o,ho,hc,n,hd⟩:=pl.isList;exact call_list_seq p (.inl rfl) ho hc hd (λh' c' kp e=>fin its r' hz h' c' kp e) (by simp only[dm]<;>lia)
 ·obtain⟨its,r',pl,hz⟩:=I.tuple hq;have cA:=r'.length;obtain⟨o,ho,hc,n,hd⟩:=pl;exact call_list_seq p (.inr rfl) ho hc hd (λh' c' kp e=>fin its r' hz h' c' kp e) (by simp only[dm]<;>lia)
theorem Pm:g6 X (.type "tuple") (λxs H Q=>∃p ys,xs=[.ref p]∧((cM X.K H p ys∧∀l,H l=none→Q (.ref l) (upd H l (.tup ys)))∨(aZ X.K H p ys∧Q (.ref p) H))):=by
 intro aI s σ H xs us Q I r h;obtain⟨p,ys,rfl,h⟩:=h;obtain⟨u,rfl,rx⟩:=vals1 r;cases rx;rcases h with⟨hq,q⟩|⟨hq,q⟩
 ·obtain⟨its,r',pl,hz⟩:=I.list hq;have cA:=r'.length;refine call_tuple_list pl.isList (λh' kp=>?_) (by simp only[dm]<;>lia)
  have I1:Inv X aI σ H { s with heap:=h' }:=I.kept (t':=s.toks) kp;have I2:Inv X aI σ (upd H h'.objs.size (.tup ys)) { s with heap:=h'.push { cls:=.type "tuple",data:=.seq its.toArray } }:=
   I1.laid (t':=s.toks) (λb o e=>dH _ e) (ck _) (show dW X.prog X.w _ _ _ (.tup ys) from⟨hz,its,r',nR.new _ _⟩)
  exact⟨.ref h'.objs.size,_,I2,rfl,q _ (I1.bH.fresh (ck _))⟩
 ·obtain⟨its,r',pl,hz⟩:=I.tuple hq;exact call_tuple_same pl ⟨.ref p,H,I,rfl,q⟩
def Ce(K:Frag)(T:String)(x:V)(H:Hp):Prop:=match x with
 | .str _=>T="str"
 | .int _=>T="int"
 | .ref p=>(T="list"∧∃xs,cM K H p xs)∨(T="tuple"∧∃o,K.lookup p=some o∧o.cls=.type "tuple"∧o.dict=none) ∨
   (T="dict"∧((∃aV,H p=some (.dK aV))∨∃aV,H p=some (.dT aV)))∨(T="set"∧∃S n,H p=some (.set S n))
 |_=>False
theorem Hg{aI:List (Addr×Obj)}{σ:St}{H:Hp}{T:String}{v:Value}(I:Inv X aI σ H s)(r:RelV x v)(ty:Ce X.K T x H) :
  s.TypeIs v T∧∀a,v=.ref a→∃ob,s.heap.get? a=some ob∧ob.dict=none:=by
 cases x with
 |str z=>
  obtain⟨t,rfl⟩:=r;cases(show T="str" from ty)
  exact⟨typeIs_str s z t,λ_ e=>nomatch e⟩
 |int i=>
  obtain⟨t,rfl⟩:=r;cases(show T="int" from ty)
  exact⟨typeIs_int s i t,λ_ e=>nomatch e⟩
 |ref p=>
  cases r;rcases ty with⟨rfl,xs,hq⟩|⟨rfl,o,hk,hc,hd⟩|⟨rfl,hk⟩|⟨rfl,S,n,hk⟩
  ·obtain⟨its,_,pl,_⟩:=I.list hq;refine⟨pl.isList.typeIs,λa e=>?_⟩;cases e;obtain⟨o,n,e,c,hd,_⟩:=pl;exact⟨o,e,hd⟩
  ·refine⟨⟨o,I.ff p o hk,hc⟩,λa e=>?_⟩;cases e;exact⟨o,I.ff _ o hk,hd⟩
  ·have z:∃o,s.heap.get? p=some o∧o.ExactDict:=by
    rcases hk with⟨aV,hk⟩|⟨aV,hk⟩
    ·obtain⟨_,_,_,_,o,_,_,e,ex,_⟩:=I.bH p _ hk;exact⟨o,e,ex⟩
    ·obtain⟨_,_,_,_,o,_,_,e,ex,_⟩:=I.bH p _ hk;exact⟨o,e,ex⟩
   obtain⟨o,e,ex⟩:=z;refine⟨⟨o,e,ex.1⟩,λa e2=>?_⟩;cases e2;exact⟨o,e,ex.2.1⟩
  ·obtain⟨o,_,_,_,e,ex,_⟩:=I.bH p _ hk;refine⟨⟨o,e,ex.1⟩,λa e2=>?_⟩;cases e2;exact⟨o,e,ex.2.1⟩
 |_=>exact False.elim ty
def Hh(K:Frag)(T:String)(r:V→List V→Hp→VK→Prop)(to:TE):TE:=λσ H Q=>to σ H λx H1=>Ce K T x H1∧r x [] H1 Q
def iI(K:Frag)(T:String)(r:V→List V→Hp→VK→Prop)(to:TE)(t:TA):TE:=λσ H Q=>to σ H λx H1=>Ce K T x H1∧t σ H1 λxs H2=>r x xs H2 Q
variable{o e:Expr}{es:List Expr}{to:TE}{t:TA}{name:Str}{iH eO:Pos}{T id:String}{r:V→List V→Hp→VK→Prop}
theorem Pn(pa:PlainAttrs T)(slot:Slot T name id)(vF:typeOf (.builtin id)=pure (.type "method_descriptor"))(hm:yo X id r)(ho:PE X o to)
  (rh:attributeBase o name X.env (eval o X.env)=eval o X.env:=by rfl) (rj:(iH.endLine==eO.line)=true:=by rfl):PE X (.Call (.Attribute o name iH) [] [] eO) (Hh X.K T r to):=by
 intro aI s σ H Q I h;refine wpAny_Call_method0_late rh rj (bj (ho aI s σ H _ I h) λv s1 ⟨x,H1,I1,r1,ty,q1⟩=>?_);obtain⟨h1,h2⟩:=Hg I1 r1 ty;exact⟨T,id,pa,slot,vF,h1,h2,Calls.callWith_builtin rfl (PySem.evalArgs_none (hm aI s1 σ H1 x [] v [] Q I1 r1 .nil q1))⟩
theorem i5(pa:PlainAttrs T)(slot:Slot T name id)(vF:typeOf (.builtin id)=pure (.type "method_descriptor"))(hm:yo X id r)(ho:PE X o to)(ha:PA X (e::es) t)
  (rh:attributeBase o name X.env (eval o X.env)=eval o X.env:=by rfl)
  (vG:((backTo eO (starEach (e::es) X.env)).all (λx=>!x.1)&&(backToKw eO (keywordEach [] X.env)).all (λx=>x.1.isSome)
   && decide ((e::es).length+([]:List Keyword).length+(if([]:List Keyword).isEmpty then 0 else 1)<30))=true:=by rfl)
  (rj:(iH.endLine==eO.line)=true:=by rfl) (hs:starEach (e::es) X.env=(false,eval e X.env)::starEach es X.env:=by rfl) (Cf:(backTo eO (starEach es X.env)).any (·.1)=false:=by rfl) :
  PE X (.Call (.Attribute o name iH) (e::es) [] eO) (iI X.K T r to t):=by
 intro aI s σ H Q I h;refine wpAny_Call_method_late rh vG rj rfl (bj (ho aI s σ H _ I h) λv s1 ⟨x,H1,I1,r1,ty,q1⟩=>?_);obtain⟨h1,h2⟩:=Hg I1 r1 ty;refine⟨T,id,pa,slot,vF,h1,h2,?_⟩;have hA:=ha eO aI s1 σ H1 _ I1 q1;rw[hs]at hA ⊢;refine Calls.callWith_builtin (by show(false||(backTo eO (starEach es X.env)).any (·.1))=false;rw[Cf]<;>rfl) (Calls.evalArgs_plain ?_)
 exact bj hA λus s2 ⟨vs,H2,I2,r2,q2⟩=>hm aI s2 σ H2 x vs v us Q I2 r1 r2 q2
end
def Ci(X:Cx)(id:String)(r:V→List V→Hp→VK→Prop):Prop:=
 ∀(aI:List (Addr×Obj))(s:Shared)(σ:St)(H:Hp)(x:V)(xs:List V)(v:Value)(us:List Value)(Q:VK),Inv X aI σ H s→RelV x v→Vals xs us→r x xs H Q→
  wpAny (model X.prog X.w) X.A (call (.builtin id) (v::us)) (EP X aI σ Q) X.xe s
theorem Vals.one:∀{x:V}{us:List Value},Vals [x] us→∃u,us=[u]∧RelV x u
 |_,_,.cons r .nil=>⟨_,rfl,r⟩
theorem Vals.zero:∀{us:List Value},Vals [] us→us=[]
 |_,.nil=>rfl
theorem Vals.dropLast{xs:List V}{us:List Value}(h:Vals xs us):Vals xs.dropLast us.dropLast:=by
 induction h with
 |nil=>exact .nil
 |cons r t ih=>
  cases t with
  |nil=>exact .nil
  |cons q t'=>exact .cons r ih
theorem Vals.eraseIdx:∀{xs:List V}{us:List Value}(i:Nat),Vals xs us→Vals (xs.eraseIdx i) (us.eraseIdx i)
 |_,_,_,.nil=>.nil
 |_,_,0,.cons _ t=>t
 |_,_,i+1,.cons r t=>.cons r (Vals.eraseIdx i t)
theorem Vals.rep{xs:List V}{us:List Value}(h:Vals xs us):∀k:Nat,Vals (List.replicate k xs).flatten (List.replicate k us).flatten
 |0=>.nil
 |k+1=>by
  rw[nN,nN,sJ,sJ];exact Vals.append h (Vals.rep h k)
theorem Po(l:List α):l.eraseIdx (l.length-1)=l.dropLast:=by
 induction l with
 |nil=>rfl
 |cons a r ih=>
  cases r with
  |nil=>rfl
  |cons b r=>
   have e:(a::b::r).length-1=((b::r).length-1)+1:=by
    have h1:(a::b::r).length=r.length+2:=rfl;have h2:(b::r).length=r.length+1:=rfl;lia
   rw[e,List.eraseIdx_cons_succ,ih];all_goals rfl
theorem Hi{α:Type}:∀(l:List α)(i:Nat),(l.eraseIdx i).length≤l.length
 | [],_=>ck _
 |_::_,0=>Nat.le_succ _
 |_::r,i+1=>Nat.succ_le_succ (Hi r i)
theorem foldl_rep(its:List Value):∀(k:Nat)(cR:List Value),
  List.foldl (λx1 x2=>x1++x2) cR.toArray (List.replicate k its.toArray)=(cR++(List.replicate k its).flatten).toArray
 |0,cR=>by simp
 |k+1,cR=>by
  have e:cR.toArray++its.toArray=(cR++its).toArray:=by simp
  have e2:(cR++its)++(List.replicate k its).flatten=cR++(List.replicate (k+1) its).flatten:=by
   rw[nN,sJ,dq]
  rw[← e2,← foldl_rep its k (cR++its),← e,nN,List.foldl_cons]
section
variable{X:Cx}{aI:List (Addr×Obj)}{σ:St}{H:Hp}{s:Shared}{l b:Addr}{xs ys zs:List V}
theorem Inv.Cj{its':List Value}{n:Nat}{f:Array Value→Array Value}{t':Nat}(I:Inv X aI σ H s)(hH:H l=some (.lst xs))
  (e:s.heap.get? l=some { cls:=.type "list",data:=.seq its.toArray n }) (hf:f its.toArray=its'.toArray) (hv:Vals ys its') (hz:ys.length≤sizeLine) :
  Inv X aI σ (upd H l (.lst ys)) { s with heap:=s.heap.update l (Obj.mapSeq f),toks:=t' }:=by
 have q:=PySem.IsL.update e f;rw[hf]at q;refine I.write (x:=l) (e:=l) (by rw[hH];exact trivial) (.inl rfl) (λb' u hb hu=>(Heap.get?_update_other s.heap (Obj.mapSeq f) (Ne.symm hb)).trans hu) ⟨_,q⟩ ?_;exact⟨hz,its',_,hv,q⟩
theorem Inv.Hj{t':Nat}(I:Inv X aI σ H s)(hv:Vals ys its)(hz:ys.length≤sizeLine) :
  Inv X aI σ (upd H s.heap.objs.size (.lst ys)) { s with heap:=s.heap.push { cls:=.type "list",data:=.seq its.toArray },toks:=t' }:=
 I.laid (λ_ _ q=>dH _ q) (ck _) ⟨hz,its,0,hv,ij _ rfl⟩
theorem Inv.fresh(I:Inv X aI σ H s):H s.heap.objs.size=none:=I.bH.fresh (ck _)
theorem Inv.tq(I:Inv X aI σ H s)(hH:H l=some (.lst xs)):xs.length≤sizeLine∧∃(its:List Value)(n:Nat),Vals xs its∧xs.length=its.length∧s.heap.get? l=some { cls:=.type "list",data:=.seq its.toArray n }:=by
 obtain⟨z,its,n,r,e⟩:=I.bH l _ hH;exact⟨z,its,n,r,r.length,e⟩
theorem Pp{n:Nat}(h:n≤sizeLine):Builtin.List.listTooLong n=false:=by
 unfold Builtin.List.listTooLong;exact aa (by lia)
end
section
variable{X:Cx}
def i6:V→List V→Hp→VK→Prop:=λx vs H Q=>∃l xs y,x=.ref l∧vs=[y]∧H l=some (.lst xs)∧xs.length<sizeLine∧Q .cI (upd H l (.lst (xs++[y])))
theorem kI:Ci X "list.append" i6:=by
 intro aI s σ H x vs v us Q I rx rv h;obtain⟨l,xs,y,rfl,rfl,hH,hz,q⟩:=h;cases rx;obtain⟨u,rfl,ru⟩:=rv.one;obtain⟨z,its,n,r,hl,e⟩:=I.tq hH;refine aD F.slot_list_append ⟨_,e,rfl⟩ F.entry_list_append (F.args_list_append_2 _ _) (PySem.list_append l its.toArray n u (by rw[dm];lia)) ⟨e,?_⟩;refine⟨.cI,_,I.Cj (its':=its++[u]) hH e (by simp) (r.append (.cons ru .nil)) ?_,rfl,q⟩;rw[bQ,List.length_singleton];lia
def Hk:V→List V→Hp→VK→Prop:=λx vs H Q=>∃l xs y,x=.ref l∧vs=[]∧H l=some (.lst xs)∧xs[xs.length-1]?=some y∧Q y (upd H l (.lst xs.dropLast))
theorem Pq:Ci X "list.pop" Hk:=by
 intro aI s σ H x vs v us Q I rx rv h;obtain⟨l,xs,y,rfl,rfl,hH,hy,q⟩:=h;cases rx;have Pr:=rv.zero;subst Pr;obtain⟨z,its,n,r,hl,e⟩:=I.tq hH;obtain⟨u,hu,ru⟩:=r.get hy;have yq:its.toArray[its.toArray.size-1]?=some u:=by
  show its.toArray[its.length-1]?=some u;rw[← Array.getElem?_toList,← hl];exact hu
 refine aD F.slot_list_pop ⟨_,e,rfl⟩ F.entry_list_pop (F.args_list_pop_1 _) (MeetsSeq.list_pop_last l its.toArray n u yq (by rw[dm];lia)) ⟨e,?_⟩;refine⟨y,_,I.Cj (its':=its.dropLast) hH e ?_ r.dropLast ?_,ru,q⟩
 ·show its.toArray.eraseIdxIfInBounds (its.toArray.size-1)=its.dropLast.toArray;rw[dm,List.eraseIdxIfInBounds_toArray,Po]
 ·rw[List.length_dropLast];lia
def Hl:V→List V→Hp→VK→Prop:=λx vs H Q=>∃l xs i k y,x=.ref l∧vs=[.int i]∧H l=some (.lst xs)∧-(2^63)≤i∧i<2^63∧seqIndex? i xs.length=some k∧xs[k]?=some y∧Q y (upd H l (.lst (xs.eraseIdx k)))
theorem yr:Ci X "list.pop" Hl:=by
 intro aI s σ H x vs v us Q I rx rv h;obtain⟨l,xs,i,k,y,rfl,rfl,hH,h1,h2,hk,hy,q⟩:=h;cases rx;obtain⟨u,rfl,ru⟩:=rv.one;obtain⟨t,rfl⟩:=ru;obtain⟨z,its,n,r,hl,e⟩:=I.tq hH;obtain⟨w,hw,mQ⟩:=r.get hy;refine aD F.slot_list_pop ⟨_,e,rfl⟩ F.entry_list_pop (F.args_list_pop_2 _ _)
  (MeetsSeq.list_pop_at l its.toArray n i t k w (fitsIndex_both h1 h2) (by rw[dm,← hl];exact hk) (by rw[← Array.getElem?_toList];exact hw) (by rw[dm];lia)) ⟨e,?_⟩
 refine⟨y,_,I.Cj (its':=its.eraseIdx k) hH e ?_ (r.eraseIdx k) ?_,mQ,q⟩
 ·show its.toArray.eraseIdxIfInBounds k=(its.eraseIdx k).toArray;rw[List.eraseIdxIfInBounds_toArray]
 ·have:=Hi xs k
  lia
def n6:R2:=λx y H Q=>∃l b xs zs,x=.ref l∧y=.ref b∧H l=some (.lst xs)∧H b=some (.lst zs)∧xs.length+zs.length≤sizeLine∧∀p,H p=none→Q (.ref p) (upd H p (.lst (xs++zs)))
theorem n8:eM X (binaryOp .Add) n6:=by
 intro aI s σ H x y v u Q I rx ry h;obtain⟨l,b,xs,zs,rfl,rfl,hH,hB,hz,q⟩:=h;cases rx;cases ry;obtain⟨z,its,n,r,hl,e⟩:=I.tq hH;obtain⟨z2,rf,n2,r2,o9,e2⟩:=I.tq hB;refine PySem.P.add_list e e2 ?_ (by rw[dm,dm];lia);have ea:its.toArray++rf.toArray=(its++rf).toArray:=by simp
 rw[ea];exact⟨.ref _,_,I.Hj (t':=s.toks) (r.append r2) (by rw[bQ];lia),rfl,q _ I.fresh⟩
def Ck:R2:=λx y H Q=>∃l k xs,x=.ref l∧y=.int k∧H l=some (.lst xs)∧-(2^63)≤k∧k<2^63∧xs.length*k.toNat≤sizeLine∧
 ∀p,H p=none→Q (.ref p) (upd H p (.lst (List.replicate k.toNat xs).flatten))
theorem Hm(xs:List α)(k:Nat):(List.replicate k xs).flatten.length=k*xs.length:=by
 induction k with
 |zero=>simp
 |succ k ih=>rw[nN,sJ,bQ,ih,Nat.succ_mul,qB]
theorem Cm:eM X (binaryOp .Mult) Ck:=by
 intro aI s σ H x y v u Q I rx ry h;obtain⟨l,k,xs,rfl,rfl,hH,h1,h2,hz,q⟩:=h;cases rx;obtain⟨t,rfl⟩:=ry;obtain⟨z,its,n,r,hl,e⟩:=I.tq hH;have cA:its.toArray.size*k.toNat≤sizeLine:=by rw[dm,← hl];exact hz
 have Pu:¬its.toArray.size*k.toNat>(2^63-1)/8:=by
  have:(sizeLine:Nat)≤(2^63-1)/8:=by decide
  lia
 have Pw:¬(!Builtin.List.listFitsIndex k)=true:=by
  rw[fitsIndex_both h1 h2];exact gy
 have Px:¬Builtin.List.listTooLong (its.toArray.size*k.toNat)=true:=by
  rw[Pp cA];exact gy
 have Py:List.foldl (λx1 x2=>x1++x2) #[] (List.replicate (if its.toArray.isEmpty=true then 0 else k.toNat) its.toArray)=(List.replicate k.toNat its).flatten.toArray:=by
  have f0:∀m:Nat,List.foldl (λx1 x2=>x1++x2) #[] (List.replicate m its.toArray)=(List.replicate m its).flatten.toArray:=λm=>by
   have:=foldl_rep its m []
   rw[List.nil_append]at this;exact this
  rw[f0];cases its with
  |nil=>simp
  |cons a r'=>rw[ah (by simp)]
 refine wpAny_binaryOp_repeat_ref (T := "list") (U := "int") (by decide) ⟨_,e,rfl⟩ (λs'=>typeIs_int s' k t) noFill_list_mul F.fills_int_mul F.slot_int_rmul repeat_list F.slot_int_index.lookup
  (aD F.slot_int_rmul (typeIs_int s k t) F.entry_int_rmul (F.args_int_rmul_2 _ _) (int___rmul___int_list k t l its.toArray n) ⟨e,rfl,⟨_,e,rfl⟩,aD F.slot_list_mul ⟨_,e,rfl⟩ F.entry_list_mul (F.args_list_mul_2 _ _) (AutoListH.list___mul___list_int_3 l its.toArray n k t Pw Pu Px) ⟨e,?_⟩⟩)
 rw[Py];exact⟨.ref _,_,I.Hj (t':=s.toks) (r.rep k.toNat) (by rw[Hm,Nat.mul_comm];exact hz),rfl,q _ I.fresh⟩
end
section
variable{prog:Program}{w:World}{A:Around}{E:QV}{s:Shared}
end
section
variable{X:Cx}
end
end L2
namespace Att
open PySem PySem.W PySem.Calls PyProof.Rows
theorem Pz{P:Params}{h:Heap}:∀(ns:List Int)(vs:List Value),WellAll P h vs (ns.map WData.int)→IntsAre vs ns:=by
 intro ns;induction ns with
 |nil=>
  intro vs w;rw[List.map_nil]at w;cases w;exact .nil
 |cons n ns ih=>
  intro vs w;rw[nO]at w;cases w with
  |cons a b=>
   cases a;exact .cons _ _ (ih _ b)
theorem PB{l:OpenLaw}{n:Nat}(hn:l.most=some n){P:Params}{h:Heap}{args:List WData}{Cn:List Value}
  (yu:l.row.toRowW.claim.pre args=true) (vH:WellAll P h Cn args) :
  ∃a vs ns,Cn=[Value.ref a]∧args=[WData.list (ns.map WData.int)]∧h.get? a=some { cls:=.type "list",data:=.seq vs.toArray }∧IntsAre vs ns∧ns.length≤n:=by
 have PD:WShape.hasAll [] args [.list .int]=true:=(pre_splitW yu).1;have hc:l.pre.holds [] { args:=args }=true:=(pre_splitW yu).2;obtain⟨d,r,rfl,h1,h2⟩:=hasAllW_cons PD;obtain rfl:=hasAllW_nil h2;obtain⟨xs,rfl,h3⟩:=hasW_list h1;obtain⟨ns,rfl⟩:=items_int h3;have cA:ns.length≤n:=by
  unfold OpenLaw.pre at hc;have h4:(WTm.not (.lt (.lit (.int (n:Int))) (.len (.arg 0)))).holds [] { args:=[.list (ns.map .int)] }=true:=by
   have h4:=(holds_andW hc).1;rw[hn]at h4;exact h4
  have h5:=condW_of h4 (w_not (w_lt w_lit (w_len_list (w_arg rfl))));rw[bz]at h5;refine Nat.le_of_not_lt λq=>?_;have q':(n:Int)<((ns.length:Nat):Int):=by lia
  first
   |(rw[aE q']at h5;exact absurd h5 (by decide))
   |(simp at h5;lia)
 cases vH with
 |cons w1 w2=>
  cases w2;cases w1 with
  |list ho PF=>exact⟨_,_,ns,rfl,rfl,ho,Pz ns _ PF,cA⟩
theorem PH(l:OpenLaw)(args:List WData):l.row.toRowW.claim.post args (.bool true) args=true:=
 postW_of (r:=l.row.toRowW) (X:=(true==true))
  (show WShape.has [] (.bool true) .bool=true by first|rfl|decide|simp[WShape.has,WShape.arms,WShape.armsAll])
  (show(WTm.eq .res (.lit (.bool true))).value [] { args:=args,res:=some (.bool true),after:=args }=some (.bool (true==true)) from w_eq_bool (w_res rfl) w_lit) rfl
theorem PJ{l:OpenLaw}{n:Nat}{q:Program}{tw:List Str}{XP:(Str→Option Value)→Heap→Prop}{YP:World→Heap→Prop}{d:DefRec}
  (hn:l.most=some n) (vI:d.params.defaults=[])
  (call:∀(w:World)(s₀ s₁:Shared)(mg mb:Str→Option Value)(fa:Addr)(o:Obj)(pm cd doc:Value)(a:Addr)(vs:List Value)(ns:List Int),
   Ground q tw [] XP w s₀ mg mb s₁.heap→YP w s₁.heap→
   s₁.heap.get? fa=some o→o.data=.func (docDef d.name d.params d.body d.scope pm cd doc)→s₁.heap.CodeRec cd d.name→mg d.name=some (.ref fa)→
   s₁.heap.get? a=some { cls:=.type "list",data:=.seq vs.toArray }→IntsAre vs ns→ns.length≤n→s₁.gens=#[]→
   codeAny (model l.prog w) callerA (.call (.ref fa) ⟨[.ref a],[]⟩) (λr s'=>r=.ok (.ret (.bool true))∧OldK s₁.heap s'.heap∧s'.os=s₁.os∧AllBare s'.gens) s₁) :
  WalkO q tw XP YP l.row.toRowW d [] (λf vs=>PySem.call f vs):=by
 intro w s₀ s₁ mg mb G Y fa o pm cd doc dV kV ho hd gQ hD hmg hg args Cn as yu aac hrd vH hlo;obtain rfl:dV=.none:=Dflts.none hD vI;obtain rfl:kV=.none:=Dflts.noKw hD;obtain⟨a,vs,ns,rfl,rfl,Co,hints,cA⟩:=PB hn yu vH;refine enter_call (codeAny_mono (call w s₀ s₁ mg mb fa o pm cd doc a vs ns G Y ho (fd_plain hd) gQ hmg Co hints cA hg) λr s' hq=>?_);obtain⟨rfl,h2,h3,h4⟩:=hq;exact⟨.inl ⟨.bool true,.bool true,[],rfl,λ_=>rfl,.bool true,PH l _,λ_=>⟨List.Pairwise.nil,λ_ hm=>(nomatch hm)⟩⟩,h2,h3,h4⟩
section
variable{prog:Program}{w:World}{A:Around}{E:QV}{s:Shared}{K:Frag}
end
end Att
namespace L2
open PySem PySem.Spec PyProof.Rows
variable{A:Around}{B:Prop}{H H':Hp}{Q:QV}{X:Cx}{a c f it p:Addr}{b:Bool}{env:Env}{h h':Heap}{i:Nat}{its:Array Value}{aI:List (Addr×Obj)}{qual x:Str}{s:Shared}{scope:Scope}{st:Stmt}{xs:List V}
theorem Hn:∀{vs:List Value}{ns:List Int},IntsAre vs ns→Vals (ns.map V.int) vs
 |_,_,.nil=>.nil
 |_,_,.cons n t h=>.cons ⟨t,rfl⟩ (Hn h)
noncomputable def pb(s:Stmt):Arguments:=match s with
 | .FunctionDef _ a _ _ _ _ _ _ _ _=>a
 |_=>{ posonlyargs:=[],args:=[],vararg:=none,kwonlyargs:=[],kw_defaults:=[],kwarg:=none,defaults:=[] }
noncomputable def j7(s:Stmt):List Stmt:=match s with
 | .FunctionDef _ _ b _ _ _ _ _ _ _=>b
 |_=>[]
noncomputable def bx(s:Stmt):Scope:=match s with
 | .FunctionDef _ _ _ _ _ _ sc _ _ _=>sc
 |_=>{ kind:=.function,names:=[],isGenerator:=false,isCoroutine:=false }
abbrev br:nZ:=λ_ _ _ _ _ _=>False
abbrev E0:XK:=λ_ _ _=>False
theorem cU:Passes br X E0:=λ_ _ _ _ _ _ _ h=>h.elim
structure cC(K:Frag)(x qual:Str)(st:Stmt)(f:Addr)(fd:FuncData):Prop where
 ex:∃(oc:Value)(od:Option Addr)(kV doc pm:Value)(an:Option Addr)(bV ct:Value)(lK:Array (Option Value)),
  fd=fnOf x qual (pb st) (j7 st) (bx st) .none kV doc pm an bV ct∧K.lookup f=some ⟨oc,od,.func fd,lK⟩∧PySem.W.codeIn K bV qual=true
 kp:Kp K f
section
variable{P:Program}{w:World}{K:Frag}{mg:Str→Option Value}{base:Heap}
theorem cC.ok{fd:FuncData}{N ps:List Str}{k:Nat}{sp:Sp}(F:cC K x qual st f fd)(S:c8 N ps (bx st))(len:∀vs H Q E,sp vs H Q E→vs.length=ps.length)
  (mK:∀(bV:Value)(A:Around)(outer:List Env)(s:Shared)(H:Hp)(vs:List V)(Q:VK)(E:XK),dt k (A.deeper (envOfC qual (bx st) s.heap.objs.size f bV))→sp vs H Q E→
   ∃t,iX (kE br P w K mg base N qual (bx st) f bV A outer s H E).jY (j7 st) t∧t { nx:=λ_ H'=>Q .cI H',rt:=Q } (start N vs) H):bu P w K mg base br (k+1) f fd ps sp:=by
 obtain⟨oc,od,kV,doc,pm,an,bV,ct,lK,rfl,lk,gQ⟩:=F.ex;refine G3 lk gQ S len λA outer s H vs Q E hr jm=>?_;obtain⟨t,h,q⟩:=mK bV A outer s H vs Q E hr jm;exact⟨t,h.jY,q⟩
theorem cC.binds{fd:FuncData}{ps:List Str}(F:cC K x qual st f fd)
  (h:∀(kV doc pm:Value)(an:Option Addr)(bV ct:Value)(us:List Value),us.length=ps.length→bindArgs (fnOf x qual (pb st) (j7 st) (bx st) .none kV doc pm an bV ct) ⟨us,[]⟩=pure (ps.zip us)):Binds K fd ps []:=by
 obtain⟨oc,od,kV,doc,pm,an,bV,ct,lK,rfl,lk,gQ⟩:=F.ex;exact .all (h kV doc pm an bV ct)
theorem Cp{oc:Value}{od an:Option Addr}{lK:Array (Option Value)}{kV doc pm bV ct:Value}(l:K.lookup f=some ⟨oc,od,.func (fnOf x qual (pb st) (j7 st) (bx st) .none kV doc pm an bV ct),lK⟩)
  (c:PySem.W.codeIn K bV qual=true) (k:Kp K f):cC K x qual st f (fnOf x qual (pb st) (j7 st) (bx st) .none kV doc pm an bV ct):=⟨⟨oc,od,kV,doc,pm,an,bV,ct,lK,rfl,l,c⟩,k⟩
end
theorem Ho{k:Nat}(hr:dt k A):A.units+1<cLine:=Nat.lt_of_le_of_lt (Nat.add_le_add_left (by decide:1≤64) _) hr.units
theorem yv{n:Nat}(h:n≤1000):n<sizeLine:=Nat.lt_of_le_of_lt h (by decide)
section
variable{X:Cx}
theorem pv(i:Nat){pos:Pos}(hN:X.N[i]?=some x:=by rfl)(hv:vj X.env.scope x:=by first|exact Or.inl rfl|exact Or.inr (.inl rfl)|exact Or.inr (Or.inr rfl))(hd:(x==("__debug__":Str))=false:=by decide)
  (gQ:(x==("__classdict__":Str))=false:=by decide):PE X (.Name x pos) (aO i):=Gd hN hv hd gQ
end
theorem eP{A:Prop}(h:B):if false=true then A else B:=by
 rw[ah gy];exact h
theorem i7{A:Prop}(h:A):if true=true then A else B:=by
 rw[ae rfl];exact h
theorem j8{c A:Prop} [Decidable c] (h1:c→A) (h2:¬c→B):if c then A else B:=by
 by_cases h:c
 ·rw[ae h];exact h1 h
 ·rw[ah h];exact h2 h
theorem PK{c A:Prop} [Decidable c] (hc:c) (h:B):if(!decide c)=true then A else B:=by
 rw[aE hc];exact eP h
def aM(H H':Hp):Prop:=∀b o,H b=some o→H' b=some o
theorem aM.refl(H:Hp):aM H H:=λ_ _ h=>h
theorem aM.trans{H1 H2:Hp}(a:aM H H1)(b:aM H1 H2):aM H H2:=λc o h=>b c o (a c o h)
theorem aM.seq{K:Frag}(e:aM H H')(h:cM K H a xs):cM K H' a xs:=by
 rcases h with(h|⟨o,h⟩)|h
 ·exact .inl (.inl (e _ _ h))
 ·exact .inl (.inr ⟨o,e _ _ h⟩)
 ·exact .inr h
noncomputable def jB(cells:List (Str×Addr)):List (Str×NameKind)→List (Str×Addr)→List (Str×Addr)
 | [],cR=>cR
 |(n,k)::r,cR=>if k == .free then jB cells r ((n,(cells.lookup n).getD 0)::cR)else jB cells r cR
theorem PL(h:∀x∈scope.names,x.2=.free→∃c,env.cells.lookup x.1=some c):closureFor scope env=pure (jB env.cells scope.names []):=by
 unfold closureFor;have key:∀(names:List (Str×NameKind))(cR:List (Str×Addr)),(∀x∈names,x.2=.free→∃c,env.cells.lookup x.1=some c)→
   (forIn names cR (λ(x:Str×NameKind)(r:List (Str×Addr))=>(if(x.2==NameKind.free)=true then do let c ← cellOf env x.1;pure (ForInStep.yield ((x.1,c)::r))else pure (ForInStep.yield r):Sem (ForInStep (List (Str×Addr))))))=pure (jB env.cells names cR):=by
  intro names;induction names with
  |nil=>intro cR _;rfl
  |cons x r ih=>
   intro cR hx;obtain⟨n,k⟩:=x;rw[List.forIn_cons];unfold jB;by_cases hk:(k==NameKind.free)=true
   ·have iu:k=.free:=by simpa using hk
    obtain⟨c,hc⟩:=hx (n,k) cZ iu;have jj:env.cells.lookup n=some c:=hc;simp only[hk,if_true];have e1:cellOf env n=pure c:=by unfold cellOf;rw[jj]
    rw[e1,jj];exact ih ((n,c)::cR) λy hy=>hx y (fu _ hy)
   ·simp only[hk,if_false,Bool.false_eq_true];exact ih cR λy hy=>hx y (fu _ hy)
 have e:=key scope.names [] h;first
  |exact e
  |(simp only[bind_pure];exact e)
theorem yw{cells:List (Str×Addr)}{x:Str}{c:Addr}:∀(names:List (Str×NameKind))(cR:List (Str×Addr)),(jB cells names cR).lookup x=some c→cR.lookup x=some c∨((x,NameKind.free)∈names∧c=(cells.lookup x).getD 0)
 | [],_,h=>.inl h
 |(n,k)::r,cR,h=>by
  unfold jB at h;by_cases hk:(k==NameKind.free)=true
  ·have iu:k=.free:=by simpa using hk
   rw[ae hk]at h;rcases yw r _ h with z|⟨z,e⟩
   ·rw[qC]at z;cases hb:x==n with
    |true=>
     rw[hb]at z;have e':x=n:=by simpa using hb
     subst e';subst iu;exact .inr ⟨cZ,(dj z).symm⟩
    |false=>rw[hb]at z;exact .inl z
   ·exact .inr ⟨fu _ z,e⟩
  ·rw[ah hk]at h;rcases yw r _ h with z|⟨z,e⟩
   ·exact .inl z
   ·exact .inr ⟨fu _ z,e⟩
theorem Cq{cells:List (Str×Addr)}{x:Str}:∀(names:List (Str×NameKind))(cR:List (Str×Addr)),((x,NameKind.free)∈names∨(cR.lookup x).isSome=true)→((jB cells names cR).lookup x).isSome=true
 | [],_,h=>by
  rcases h with h|h
  ·cases h
  ·exact h
 |(n,k)::r,cR,h=>by
  unfold jB;by_cases hk:(k==NameKind.free)=true
  ·rw[ae hk];refine Cq r _ ?_;rcases h with h|h
   ·rcases(dS.mp h)with(e|h)
    ·cases e;exact .inr (by rw[qC];simp)
    ·exact .inl h
   ·refine .inr ?_;rw[qC];cases hb:x==n<;>simp[h]
  ·rw[ah hk];refine Cq r _ ?_;rcases h with h|h
   ·rcases(dS.mp h)with(e|h)
    ·cases e;exact absurd rfl hk
    ·exact .inl h
   ·exact .inr h
theorem tD:∀(names:List (Str×NameKind))(n:Nat)(cR:List (Str×Addr)),cellsFrom n names cR=cellsFrom n names []++cR
 | [],_,_=>rfl
 |(x,k)::r,n,cR=>by
  unfold cellsFrom;by_cases hk:(k==NameKind.cell)=true
  ·rw[ae hk,ae hk,tD r (n+1) ((x,n)::cR),tD r (n+1) [(x,n)],dq];rfl
  ·rw[ah hk,ah hk];exact tD r n cR
theorem Cr:∀(names:List (Str×NameKind))(n:Nat)(x:Str)(c:Addr),(x,c)∈cellsFrom n names []→(x,NameKind.cell)∈names
 | [],_,_,_,h=>nomatch h
 |(y,k)::r,n,x,c,h=>by
  unfold cellsFrom at h;by_cases hk:(k==NameKind.cell)=true
  ·have iu:k=.cell:=by simpa using hk
   rw[ae hk,tD]at h;refine(dZ.mp h).elim (λh=>?_) λh=>?_
   ·exact fu _ (Cr r _ x c h)
   ·have e:(x,c)=(y,n):=by simpa using h
    cases e;subst iu;exact cZ
  ·rw[ah hk]at h;exact fu _ (Cr r n x c h)
theorem Ct{α:Type}{x:Str}:∀(a b:List (Str×α)),(a++b).lookup x=(a.lookup x).or (b.lookup x)
 | [],_=>by simp
 |(y,v)::r,b=>by
  rw[List.cons_append,qC,qC];cases hb:x==y with
  |true=>simp
  |false=>exact Ct r b
theorem vJ{α:Type}{x:Str}{v:α}:∀{l:List (Str×α)},(l.map (·.1)).Nodup→(x,v)∈l→l.lookup x=some v
 | [],_,h=>by cases h
 |(y,w)::r,nd,h=>by
  rw[nO,List.nodup_cons]at nd;rw[qC];cases h with
  |head=>simp
  |tail _ h=>
   have dQ:(x==y)=false:=by
    apply beq_false_of_ne;intro PM;exact nd.1 (dU.mpr ⟨(x,v),h,PM⟩)
   rw[dQ];exact vJ nd.2 h
theorem Hq{α β:Type}{x:Str}(f:Str×α→Str×β)(hf:∀p,(f p).1=p.1):∀(l:List (Str×α)),(l.map f).lookup x=(l.lookup x).map λk=>(f (x,k)).2
 | []=>rfl
 |(n,k)::r=>by
  obtain⟨m,z⟩:∃z,f (n,k)=(n,z):=⟨(f (n,k)).2,Prod.ext (hf _) rfl⟩;rw[nO,z,qC,qC];cases hx:x==n with
  |false=>exact Hq f hf r
  |true=>cases(beq_iff_eq.mp hx);simp[z]
theorem PN(names:List (Str×NameKind)):(names.map λ(n,k)=>if(k==NameKind.free&&env.scope.kind == .function&&env.kindOf n==some .cell)then(n,NameKind.cell)else(n,k)).lookup x =
  (names.lookup x).map λk=>if(k==NameKind.free&&env.scope.kind == .function&&env.kindOf x==some .cell)=true then NameKind.cell else k:=by
 rw[Hq _ (λp=>by dsimp only;split<;>rfl)]
 congr 1
 funext k
 dsimp only;split<;>rfl
theorem PQ{M:Model}{E:QV}{cl:List (Str×Addr)}{Q:Env→Shared→Prop}
  (q:Q (newEnv scope s.heap.objs.size env.globals (cellsFrom (s.heap.objs.size+1) scope.names cl) env.qual none .none (some env) builtinsNs)
   { s with heap:=pushCells (s.heap.push { cls:=.type "dict",data:=.dict #[] }) scope.names }) :
  wpAny M A (newFunctionEnv scope env.globals cl [] env.qual none .none (some env)) Q E s:=by
 have z:(s.heap.push { cls:=.type "dict",data:=.dict #[] }).objs.size=s.heap.objs.size+1:=qD ..;rw[← z]at q;unfold newFunctionEnv;have cells:=wpAny_layCells (M:=M) (A:=A) (E:=E) (λx r=>if(x.2==NameKind.cell)=true then(do let c ← alloc { cls:=.type "cell",data:=.cell none };pure (ForInStep.yield ((x.1,c)::r)))else pure (ForInStep.yield r)) (λ_ _ _=>rfl) scope.names cl { s with heap:=s.heap.push { cls:=.type "dict",data:=.dict #[] } }
 exact aq (wpAny_alloc (aq (cells _ (aq (av (av q))))))
noncomputable def lL(X:Cx)(N:List Str)(scope:Scope)(cs:List (Str×Addr))(C:Addr)(s₀:Shared)(H₀:Hp)(ex:List Addr):Cx where
 prog:=X.prog
 w:=X.w
 K:=X.K
 mg:=X.mg
 base:=X.base
 A:=X.A
 N:=N
 s₀:=s₀
 H₀:=H₀
 env:=compEnvC scope cs C X.env
 outer:=X.stack
 stack:=X.stack
 ex:=ex
 fn:=λx=>scope.names.lookup x==some .cell
 calm:=X.calm
 pn:=[]
 xe:=λ_ _=>False
structure du(oN:List Str)(p4:Scope)(N:List Str)(own:Nat)(caps:List Nat)(scope:Scope):Prop where
 kind:scope.kind=.function
 nd:N.Nodup
 yy:(scope.names.map (·.1)).Nodup
 free:∀x∈scope.names,x.2=.free→p4.names.lookup x.1=some .cell∨p4.names.lookup x.1=some .free
 len:N.length=own+caps.length
 lM:caps.map (λi=>oN[i]?)=(N.drop own).map some
 PR:∀x∈N.drop own,scope.names.lookup x=some .free
noncomputable def mV(own:Nat)(caps:List Nat)(σ:St):St:=List.replicate own none++caps.map λi=>(σ[i]?).join
noncomputable abbrev p5(X:Cx)(scope:Scope)(C:Addr):List (Str×Addr):=cellsFrom (C+1) scope.names (jB X.env.cells scope.names [])
noncomputable abbrev vK(h:Heap)(scope:Scope):Heap:=pushCells (h.push { cls:=.type "dict",data:=.dict #[] }) scope.names
section
variable{X:Cx}{aI:List (Addr×Obj)}{σ:St}{H:Hp}{s:Shared}{N:List Str}{own:Nat}{caps:List Nat}{scope:Scope}{ex:List Addr}
theorem tE(S:du X.N X.env.scope N own caps scope)(I:Inv X aI σ H s)(n:Nat)(h:(cellsFrom n scope.names (jB X.env.cells scope.names [])).lookup x=some c) :
  (x,c)∈cellsFrom n scope.names []∨((x,NameKind.free)∈scope.names∧X.env.cells.lookup x=some c):=by
 rw[tD,Ct]at h;cases q:(cellsFrom n scope.names []).lookup x with
 |some c'=>
  rw[q]at h;have e:c'=c:=by simpa using h
  subst e;exact .inl (nM q)
 |none=>
  rw[q]at h;have h':(jB X.env.cells scope.names []).lookup x=some c:=by simpa using h
  rcases yw _ _ h' with z|⟨z,e⟩
  ·cases z
  ·refine .inr ⟨z,?_⟩;obtain⟨c',jj⟩:=I.ok.has x (S.free (x,.free) z rfl);rw[jj]at e ⊢;rw[e];rfl
theorem Hr(S:du X.N X.env.scope N own caps scope)(I:Inv X aI σ H s)(n:Nat)(hx:scope.names.lookup x=some .free) :
  ∃c,X.env.cells.lookup x=some c∧(cellsFrom n scope.names (jB X.env.cells scope.names [])).lookup x=some c:=by
 have hm:(x,NameKind.free)∈scope.names:=nM hx;obtain⟨c,hc⟩:=I.ok.has x (S.free (x,.free) hm rfl);refine⟨c,hc,?_⟩;obtain⟨c',jj⟩:=Option.isSome_iff_exists.mp (Cq (cells:=X.env.cells) (x:=x) scope.names [] (.inl hm));have e0:(cellsFrom n scope.names []).lookup x=none:=by
  cases q:(cellsFrom n scope.names []).lookup x with
  |none=>rfl
  |some d=>
   have:=vJ S.yy (Cr _ _ _ _ (nM q))
   rw[hx]at this;cases this
 rw[tD,Ct,e0,jj];rcases yw _ _ jj with z|⟨_,e⟩
 ·cases z
 ·rw[hc]at e;rw[e];rfl
theorem PU(S:du X.N X.env.scope N own caps scope)(I:Inv X aI σ H s)(hex:∀b∈ex,jk X aI H b∧b<s.heap.objs.size) :
  Inv (lL X N scope (p5 X scope s.heap.objs.size) s.heap.objs.size s H ex) [] (mV own caps σ) H { s with heap:=vK s.heap scope }:=by
 have k1:∀b o,s.heap.get? b=some o→(vK s.heap scope).get? b=some o:=λb o e=>pushCells_keeps _ _ b o (dH _ e);have ok:=cellsFrom_ok scope.names (s.heap.push { cls:=.type "dict",data:=.dict #[] }) (s.heap.objs.size+1) [] ⟨λ_ _ hm=>(nomatch hm),List.Pairwise.nil⟩ (by rw[qD];exact ck _);rw[qD]at ok;have Hs:∀x c,X.env.cells.lookup x=some c→c<s.heap.objs.size:=λx c e=>by
  obtain⟨v,q⟩:=I.cell x c e;exact q.lt
 have Ht:∀x,(compEnvC scope (p5 X scope s.heap.objs.size) s.heap.objs.size X.env).kindOf x=(scope.names.lookup x).map λk=>if(k==NameKind.free&&X.env.scope.kind == .function&&X.env.kindOf x==some .cell)=true then NameKind.cell else k:=
  λx=>PN (env:=X.env) scope.names
 have kk:∀x,(compEnvC scope (p5 X scope s.heap.objs.size) s.heap.objs.size X.env).kindOf x=some .cell∨(compEnvC scope (p5 X scope s.heap.objs.size) s.heap.objs.size X.env).kindOf x=some .free→
   scope.names.lookup x=some .cell∨scope.names.lookup x=some .free:=λx h=>by
  rw[Ht]at h;cases q:scope.names.lookup x with
  |none=>rw[q]at h;rcases h with h|h<;>cases h
  |some k=>
   rw[q]at h;by_cases hf:k=.free
   ·exact .inr (by rw[hf])
   ·have hb:(k==NameKind.free)=false:=by simpa using hf
    have e:(some k).map (λk=>if(k==NameKind.free&&X.env.scope.kind == .function&&X.env.kindOf x==some .cell)=true then NameKind.cell else k)=some k:=by
     simp[hf]
    rw[e]at h;exact h
 refine⟨⟨I.ok.mod,S.kind,I.ok.glob,I.ok.blt,ck _,λx y c h1 h2=>?_,λx hx=>?_,λx c hf h=>?_,I.ok.hd,I.ok.frames,.inl rfl,λb hb=>⟨?_,λx c h=>?_⟩,λb o e=>?_,ft I.ok.oW I.sz,λb o e hb=>?_,λb hb hf=>?_,I.stack,I.FR⟩,
  rfl,I.bare,Un.kept k1,⟨λ_=>none,?_,λi x v h1 h2 h3=>?_⟩,λx c h=>?_,I.bH.fresh (ck _),λx c h=>?_,λp hp=>absurd (show p∈([]:List (Addr×Obj)) from hp) (by simp),I.bH.kept k1,?_⟩
 ·
  rcases tE S I _ h1 with a1|⟨_,a1⟩<;>rcases tE S I _ h2 with a2|⟨_,a2⟩
  ·exact name_of_addr ok.apart a1 a2
  ·exact absurd (Hs _ _ a2) (Nat.not_lt.mpr (Nat.le_of_succ_le (ok.empty _ _ a1).2))
  ·exact absurd (Hs _ _ a1) (Nat.not_lt.mpr (Nat.le_of_succ_le (ok.empty _ _ a2).2))
  ·exact I.ok.inj _ _ _ a1 a2
 ·
  rcases kk x hx with q|q
  ·exact Option.isSome_iff_exists.mp (BF scope.names _ _ (.inl q))
  ·obtain⟨c,_,hc⟩:=Hr S I (s.heap.objs.size+1) q;exact⟨c,hc⟩
 ·
  have eX:scope.names.lookup x=some .cell:=by simpa[lL]using hf
  rcases tE S I _ h with a|⟨a,_⟩
  ·exact Nat.le_of_succ_le (ok.empty _ _ a).2
  ·rw[vJ S.yy a]at eX;cases eX
 ·exact gX (hex b hb).2
 ·rcases tE S I _ h with a|⟨_,a⟩
  ·exact Nat.ne_of_gt (ip (hex b hb).2 (Nat.le_of_succ_le (ok.empty _ _ a).2))
  ·exact(hex b hb).1.2.2.2.2.1 x c a
 ·exact I.bs b o e
 ·rcases(hex b hb).1.2.2.2.1 with z|z
  ·exact I.ok.vn b o e z
  ·exact absurd (ip (dG e) (ft I.ok.oW z)) (sG _)
 ·rcases dS.mp (I.BM b hf)with z|z
  ·exact(hex b hb).1.2.1 z
  ·exact(hex b hb).1.2.2.1 z
 ·exact(Heap.Ns.new s.heap (.type "dict")).keeps (pushCells_keeps _ _)
 ·
  have hi:own≤i:=by
   refine Nat.le_of_not_lt λcN=>?_;unfold mV at h2;rw[gz (by simpa using cN),vc]at h2;split at h2<;>cases h2
  obtain⟨j,rfl⟩:∃j,i=own+j:=⟨i-own,by lia⟩;unfold mV at h2;rw[gZ (by simp),ee,Nat.add_sub_cancel_left,eI]at h2;cases hc:caps[j]? with
  |none=>rw[hc]at h2;cases h2
  |some ci=>
   rw[hc]at h2;have hσ:σ[ci]?=some (some v):=by
    have z:(σ[ci]?).join=some v:=by simpa using h2
    cases q:σ[ci]? with
    |none=>rw[q]at z;cases z
    |some o=>rw[q]at z;have z':o=some v:=z;rw[z']
   have Hu:(N.drop own)[j]?=some x:=by rw[List.getElem?_drop];exact h1
   have hX:X.N[ci]?=some x:=by
    have e:=ao (λl=>l[j]?) S.lM;simp only[eI,hc,Hu,Option.map_some]at e;exact dj e
   have Cu:=S.PR x (gj Hu);obtain⟨c,tF,qZ⟩:=Hr S I (s.heap.objs.size+1) Cu;obtain⟨m,hn,hl⟩:=I.loc;have hk:=S.free (x,.free) (nM Cu) rfl;have PV:vj X.env.scope x:=.inr hk;obtain⟨u,ru,lk⟩:=hl ci x v hX hσ PV;refine⟨u,ru,?_⟩;rcases lk with⟨z,_⟩|⟨_,c',e',z⟩
   ·have z':X.env.scope.names.lookup x=some .local:=z;rcases hk with hk|hk
    ·have iu:X.env.scope.names.lookup x=some .cell:=hk;rw[z']at iu;cases iu
    ·have iu:X.env.scope.names.lookup x=some .free:=hk;rw[z']at iu;cases iu
   ·rw[tF]at e';cases e';refine .inr ⟨?_,c,qZ,z.keeps k1⟩;show(compEnvC scope _ _ X.env).kindOf x=_∨(compEnvC scope _ _ X.env).kindOf x=_;rw[Ht,Cu];show some (if _ then NameKind.cell else NameKind.free)=_∨some (if _ then NameKind.cell else NameKind.free)=_
    split
    ·exact .inl rfl
    ·exact .inr rfl
 ·rcases tE S I _ h with a|⟨_,a⟩
  ·exact⟨_,(ok.empty _ _ a).1⟩
  ·obtain⟨v,q⟩:=I.cell x c a;exact⟨v,q.keeps k1⟩
 ·rcases tE S I _ h with a|⟨_,a⟩
  ·exact I.bH.fresh (Nat.le_of_succ_le (ok.empty _ _ a).2)
  ·exact I.mw x c a
 ·unfold mV;show _=N.length;rw[S.len,bQ,ee,bz]
end
def tG(X:Cx)(iJ:List Expr)(t:TT):Prop:=
 ∀(aI:List (Addr×Obj))(s:Shared)(σ:St)(H:Hp)(Q:Bool→Hp→Prop),Inv X aI σ H s→t σ H Q→
  wpAny (model X.prog X.w) X.A (forIn iJ true λc r=>if r=true then do let ok ← isTrue c X.env (eval c X.env);pure (ForInStep.yield ok)else pure (ForInStep.yield r)) (TP X aI σ Q) X.xe s
def i8:TT:=λ_ H Q=>Q true H
theorem gG:tG X [] i8:=λ_ _ _ H _ I h=>wpAny_tests_nil ⟨H,I,h⟩
theorem tH{c:Expr}{t:TT}(h:PT X c t):tG X [c] t:=λaI s σ H Q I q=>wpAny_tests_one (h aI s σ H Q I q)
def Cv(M:Model)(A:Around)(env:Env)(it cR:Value)(tg jn:Expr)(iJ:List Expr)(E:QV)(fin oV:Shared→Prop):Shared→Prop:=
 let kept:Shared→Prop:=λu=>wpAny M A (eval jn env) (λx u5=>wpAny M A (call (.builtin "list.append") [cR,x]) (λ_ u6=>oV u6) E u5) E u
 let PX:Shared→Prop:=λu=>wpAny M A (forIn iJ true λc r=>if r=true then(do let ok ← isTrue c env (eval c env);pure (ForInStep.yield ok))else pure (ForInStep.yield r)) (λok u4=>if ok=true then kept u4 else oV u4) E u
 let PY:QV:=λv u=>wpAny M A (letOwnedTupleGo tg it v) (λ_ u2=>wpAny M A (assign tg env v) (λ_ u3=>PX u3) E u2) E u
 λu=>wpAny M A (pyNext it) (λo u1=>match o with|none=>fin u1|some v=>PY v u1) E u
theorem PZ{prog:Program}{w:World}{R:Result→Shared→Prop}{jn tg iter:Expr}{iJ:List Expr}{pos:Pos}{it cR:Value}(I:Nat→Shared→Prop)(n:Nat)(start:I n s)
  (mz:∀m u,I m u→Cv (model prog w) A env it cR tg jn iJ (notedBy (model prog w) A env λe v=>R (.error e) v) (R (.ok .next)) (λv=>∃j,j<m∧I j v) u) :
  codeAny (model prog w) A (.compLoop (.ListComp jn [⟨tg,iter,iJ,0⟩] scope pos) 0 it cR env) R s:=by
 refine codeAny_loop rfl I (λm u hu=>wpAny_noted (m:=compTurn (.ListComp jn [⟨tg,iter,iJ,0⟩] scope pos) 0 it cR env) ?_) n start;have go:=mz m u hu;unfold Cv at go;rw[compTurn_list];refine aq (wpAny_standAt (aq (bj go λo u1 b1=>?_)))
 match o,b1 with
 |none,b1=>exact av b1
 |some v,b1=>
  refine aq (bj b1 λ_ u2 b2=>aq (bj b2 λ_ u3 b3=>aq (bj b3 λok u4 b4=>?_)))
  match ok,b4 with
  |false,b4=>exact av ⟨rfl,b4⟩
  |true,b4=>exact aq (aq (bj b4 λx u5 b5=>aq (bj b5 λ_ u6 b6=>av (av ⟨rfl,b6⟩))))
def jo(J:It)(g:TG)(tt:TT)(te:TE)(Q:VK)(W:Nat→Nat→St→Hp→List V→Prop):Prop:=
 ∀i m σ' H' ys,W i m σ' H' ys→
  (J.stop i H'∧ys.length≤sizeLine∧∀p,H' p=none→Q (.ref p) (upd H' p (.lst ys))) ∨
  (J.go i H'∧ys.length<sizeLine∧∃N:St→Hp→List V→Prop,(∀σ2 H2 zs,N σ2 H2 zs→∃m',m'<m∧W (i+1) m' σ2 H2 zs)∧
   ∀x H2,J.oZ i H' x H2→g x σ' H2 λσ3 H3=>tt σ3 H3 λb H4=>if b=true then te σ3 H4 λv H5=>N σ3 H5 (ys++[v])else N σ3 H4 ys)
def j9(wi:TI)(own:Nat)(caps:List Nat)(g:TG)(tt:TT)(te:TE):TE:=λσ H Q=>wi σ H λJ H1=>
 ∃W:Nat→Nat→St→Hp→List V→Prop,(∃m,W 0 m (mV own caps σ) H1 [])∧jo J g tt te Q W
section
variable{X:Cx}{tg jn iter:Expr}{iJ:List Expr}{scope:Scope}{pos:Pos}{N:List Str}{own:Nat}{caps:List Nat}{wi:TI}{g:TG}{tt:TT}{te:TE}
theorem Hv{σ:St}{H2:Hp}{s2:Shared}{J:It}{fp:List Addr}{tn:Nat→Heap→Prop}{Q:VK}{W:Nat→Nat→St→Hp→List V→Prop}{m0:Nat}
  {E:QV} {R:Value→Addr→Result→Shared→Prop} (hc:X.calm=true) (S:du X.N X.env.scope N own caps scope)
  (hg:∀cs C s₀ H₀ ex,PG (lL X N scope cs C s₀ H₀ ex) tg g) (ht:∀cs C s₀ H₀ ex,tG (lL X N scope cs C s₀ H₀ ex) iJ tt) (he:∀cs C s₀ H₀ ex,PE (lL X N scope cs C s₀ H₀ ex) jn te)
  (I2:Inv X aI σ H2 s2) (T:Turn X.prog X.w X.K tg J fp it tn) (j0:tn 0 s2.heap) (f2:∀b∈fp,jk X aI H2 b)
  (w0:W 0 m0 (mV own caps σ) H2 []) (mz:jo J g tt te Q W)
  (P0:∀D C s' H' ys,Inv X aI σ (upd H' D (.lst ys)) s'→jk X aI (upd H' D (.lst ys)) C→(∃m,s'.heap.Ns C m)→Q (.ref D) (upd H' D (.lst ys))→R (.ref D) C (.ok .next) s') :
  wpAny (model X.prog X.w) X.A (newList []) (λcR s₃=>wpAny (model X.prog X.w) X.A (newFunctionEnv scope X.env.globals (jB X.env.cells scope.names []) [] X.env.qual none .none (some X.env)) (λHw s₄=>
   codeAny (model X.prog X.w) X.A (.compStart (.ListComp jn [⟨tg,iter,iJ,0⟩] scope pos) 0 (.ref it) cR { Hw with scope:=relabel scope X.env }) (R cR Hw.locals) s₄) E s₃) E s2:=by
 refine aC (PQ ?_);dsimp only;generalize Cw:s2.heap.push { cls:=.type "list",dict:=none,data:=.seq ([]:List Value).toArray }=h3;have hC:h3.objs.size=s2.heap.objs.size+1:=by rw[← Cw,qD]
 have Hy:∀b o,s2.heap.get? b=some o→h3.get? b=some o:=λb o e=>Cw▸dH _ e;have I3:Inv X aI σ H2 { s2 with heap:=h3 }:=I2.kept (t':=s2.toks) Hy;have gD:h3.get? s2.heap.objs.size=some { cls:=.type "list",data:=.seq ([]:List Value).toArray }:=Cw▸ij _ rfl;have fD:jk X aI H2 s2.heap.objs.size:=I2.pX (ck _) (I2.bH.fresh (ck _));have Hz:∀b∈fp,b<s2.heap.objs.size:=λb hb=>by
  obtain⟨o,e,_⟩:=T.obj 0 _ j0 b hb;exact dG e
 have hex:∀b∈s2.heap.objs.size::fp,jk X aI H2 b∧b<({ s2 with heap:=h3 }:Shared).heap.objs.size:=λb hb=>by
  show _∧b<h3.objs.size;rw[hC];cases hb with
  |head=>exact⟨fD,Nat.lt_succ_self _⟩
  |tail _ hb=>exact⟨f2 b hb,Nat.lt_succ_of_lt (Hz b hb)⟩
 have IB:=PU S I3 hex;generalize hY:lL X N scope (p5 X scope h3.objs.size) h3.objs.size { s2 with heap:=h3 } H2 (s2.heap.objs.size::fp)=Y at IB;have yP:Y.prog=X.prog:=by rw[← hY];rfl
 have yW:Y.w=X.w:=by rw[← hY];rfl
 have yK:Y.K=X.K:=by rw[← hY];rfl
 have yc:Y.calm=true:=by rw[← hY];exact hc
 have yA:Y.A=X.A:=by rw[← hY];rfl
 have yx:Y.xe=λ_ _=>False:=by rw[← hY];rfl
 have yL:Y.env.locals=h3.objs.size:=by rw[← hY];rfl
 have HB:Y.ex=s2.heap.objs.size::fp:=by rw[← hY];rfl
 have P4:Y.fs=jX X.stack:=by rw[← hY];rfl
 have HG:Y.pn=[]:=by rw[← hY];rfl
 have Cy:Y.env=compEnvC scope (p5 X scope h3.objs.size) h3.objs.size X.env:=by rw[← hY];rfl
 have yg:PG Y tg g:=by rw[← hY];exact hg _ _ _ _ _
 have yt:tG Y iJ tt:=by rw[← hY];exact ht _ _ _ _ _
 have ye:PE Y jn te:=by rw[← hY];exact he _ _ _ _ _
 have yb:∀{σ':St}{H':Hp}{s':Shared}{pn:List (Addr×Obj)},Inv Y pn σ' H' s'→Un (jX X.stack) (s2.heap.objs.size::fp) H2 H' h3 s'.heap:=λ{σ' H' s' pn} J=>by
  have b:=J.base;rw[P4,HB]at b;have e1:Y.H₀=H2:=by rw[← hY];rfl
  have e2:Y.s₀.heap=h3:=by rw[← hY];rfl
  rw[e1,e2]at b;exact b
 have P5:∀{σ':St}{H':Hp}{s':Shared}{pn:List (Addr×Obj)},Inv Y pn σ' H' s'→s'.os=s2.os:=λ{σ' H' s' pn} J=>by
  have e:Y.s₀.os=s2.os:=by rw[← hY];rfl
  exact J.os.trans e
 have DL:s2.heap.objs.size≠Y.env.locals:=by rw[yL,hC];exact gX (Nat.lt_succ_self _)
 have HH:s2.heap.objs.size ∉ fp:=λz=>sG _ (Hz _ z);have Cz:∀b∈s2.heap.objs.size::fp,b∈Y.ex:=λb hb=>by rw[HB];exact hb
 have P6:∀{pn:List (Addr×Obj)}{H':Hp},(∀p∈pn,p.1 ∉ fp)→(∀b∈fp,H' b=none)→∀b∈fp,jk Y pn H' b:=λ{pn H'} hp hn b hb=>by
  have lN:=Cz b (fu _ hb);refine⟨hn b hb,(IB.ok.vm b lN).1,IB.ok.sS b lN,.inl lN,(IB.ok.vm b lN).2,λp tI z=>?_⟩;rw[HG,List.nil_append]at tI;exact hp p tI (z▸hb)
 have HI:∀b o,h3.get? b=some o→(vK h3 scope).get? b=some o:=λb o e=>pushCells_keeps _ _ b o (dH _ e);have HJ:tn 0 (vK h3 scope):=T.keep 0 s2.heap _ j0 λb _ o e=>HI b o (Hy b o e);have yz:=HI _ _ gD;have loop:codeAny (model X.prog X.w) X.A (.compLoop (.ListComp jn [⟨tg,iter,iJ,0⟩] scope pos) 0 (.ref it) (.ref s2.heap.objs.size) (compEnvC scope (p5 X scope h3.objs.size) h3.objs.size X.env)) (R (.ref s2.heap.objs.size) h3.objs.size)
   { s2 with heap:=vK h3 scope }:=by
  refine PZ (λn s'=>∃i σ' H' ys its lM,Inv Y [] σ' H' s'∧tn i s'.heap∧(∀b∈fp,H' b=none)∧H' s2.heap.objs.size=none∧
   s'.heap.get? s2.heap.objs.size=some { cls:=.type "list",data:=.seq (its:List Value).toArray lM }∧Vals ys its∧W i n σ' H' ys) m0
   ⟨0,_,H2,[],[],_,IB,HJ,λb hb=>(f2 b hb).1,fD.1,yz,.nil,w0⟩ ?_
  rintro n s5 ⟨i,σ5,H5,ys,its,lM,I5,t5,x4,HK,P7,yB,w5⟩;unfold Cv;dsimp only;have HM:Inv Y [(s2.heap.objs.size,{ cls:=.type "list",data:=.seq its.toArray lM })] σ5 H5 s5:=I5.xT λp hp=>by
   have e:=dI.mp hp;subst e;exact⟨P7,HK,DL,IB.ok.sS _ (Cz _ cZ),λv z=>by cases z⟩
  have P8:∀p∈[((s2.heap.objs.size:Addr),({ cls:=.type "list",data:=.seq its.toArray lM }:Obj))],p.1 ∉ fp:=λp hp=>by
   have e:=dI.mp hp;subst e;exact HH
  have CA:∀{H':Hp},(∀b∈fp,H' b=none)→∀b∈fp,jk Y [((s2.heap.objs.size:Addr),({ cls:=.type "list",data:=.seq its.toArray lM }:Obj))] H' b:=λhn=>P6 P8 hn;rcases mz i n σ5 H5 ys w5 with⟨stop,hz,qn⟩|⟨go,hz,NN,HN,step⟩
  ·rw[← yA];refine ai (T.done Y yP yW yK yc i _ s5 σ5 H5 (λ_ _=>False) HM (CA x4) t5 stop) (λr s6 h6=>?_) λ_ _ f=>f.elim;obtain⟨hr,I6⟩:=h6;subst hr;have CB:=I6.pin (s2.heap.objs.size,_) (iU _ (dI.mpr rfl));have nD:H2 s2.heap.objs.size=none:=fD.1;have base:=yb I6;have un:Un (jX X.stack) (s2.heap.objs.size::fp) H2 (upd H5 s2.heap.objs.size (.lst ys)) h3 s6.heap:=⟨base.keep,base.slot,λb o e n hx=>by
     rw[cn (λz=>hx (by rw[z];exact cZ))];exact base.free b o e n hx,base.there,
    λb xs e=>by rw[cn (eT e nD)];exact base.oU b xs e,λb o u e=>by rw[cn (eT e nD)];exact base.nS b o u e,λb ps e=>by
     obtain⟨oV,q⟩:=base.nT b ps e;exact⟨oV,by rw[cn (eT e nD)];exact q⟩⟩
   have bH:eh X.prog X.w (upd H5 s2.heap.objs.size (.lst ys)) s6.heap:=λb u e=>by
    have HP:=I6.bH;rw[yP,yW]at HP;by_cases hb:b=s2.heap.objs.size
    ·subst hb;rw[aX]at e;cases e;exact⟨hz,its,lM,yB,CB.1⟩
    ·rw[cn hb]at e;exact(HP b u e).oT (λc v _ q=>q) (λc q=>by rw[cn (eT q CB.2.1)];exact q) λc xs q=>by rw[cn (eT q CB.2.1)];exact q
   have I7:Inv X aI σ (upd H5 s2.heap.objs.size (.lst ys)) s6:=I3.Og (P5 I6) un bH I6.bare λb hb=>by
    have z:=(hex b hb).1;exact⟨z.2.2.2.1,z.2.1,z.2.2.2.2.1,z.2.2.2.2.2⟩
   have P9:H5 h3.objs.size=none:=by rw[← yL];exact I6.free
   have CD:h3.objs.size≠s2.heap.objs.size:=by rw[hC];exact Nat.succ_ne_self _
   refine P0 _ _ s6 H5 ys I7 (I3.pX (ck _) (by rw[cn CD];exact P9)) ?_ (qn _ HK);obtain⟨m,hn,_⟩:=I6.loc;rw[yL]at hn;exact⟨m,hn⟩
  ·rw[← yA];have lift:∀{α:Type}{t:Sem α}{Q1 Q2:α→Shared→Prop}{s':Shared},wpAny (model X.prog X.w) Y.A t Q1 Y.xe s'→(∀a kG,Q1 a kG→Q2 a kG)→
     wpAny (model X.prog X.w) Y.A t Q2 (notedBy (model X.prog X.w) Y.A (compEnvC scope (p5 X scope h3.objs.size) h3.objs.size X.env) λe s'=>R (.ref s2.heap.objs.size) h3.objs.size (.error e) s') s':=λh k=>
    ai h k λ_ _ f=>by rw[yx]at f;exact f.elim
   refine lift (T.item Y yP yW yK yc i _ s5 σ5 H5 Y.xe HM (CA x4) t5 go) λr s6 h6=>?_;obtain⟨u,hr,h6⟩:=h6;subst hr;refine lift h6 λ_ s7 h7=>?_;obtain⟨x,H7,I7,r7,y7,t7,Qa⟩:=h7;have Qb:=I7.pinned (CA Qa) (T.obj _ _ t7);have ha:=yg _ s7 σ5 H7 x u _ Qb r7 (step x H7 y7);rw[yP,yW,Cy]at ha;refine lift ha λ_ s8 h8=>?_;obtain⟨σ8,H8,I8,q8⟩:=h8;have hb:=yt _ s8 σ8 H8 _ I8 q8;rw[yP,yW,Cy]at hb;refine lift hb λok s9 h9=>?_;obtain⟨H9,I9,q9⟩:=h9;have after:∀{σ':St}{H':Hp}{s':Shared},Inv Y ([((s2.heap.objs.size:Addr),({ cls:=.type "list",data:=.seq its.toArray lM }:Obj))]++vz fp s7.heap) σ' H' s'→
     Inv Y [] σ' H' s'∧tn (i+1) s'.heap∧(∀b∈fp,H' b=none)∧H' s2.heap.objs.size=none∧s'.heap.get? s2.heap.objs.size=some { cls:=.type "list",data:=.seq its.toArray lM }:=λ{σ' H' s'} J=>by
    have pD:=J.pin (s2.heap.objs.size,_) (iU _ (mh _ (dI.mpr rfl)));refine⟨J.xT (λp hp=>by cases hp),T.keep _ _ _ t7 λb hb o e=>(J.pin (b,o) (iU _ (iU _ (xZ hb e)))).1,λb hb=>?_,pD.2.1,pD.1⟩;obtain⟨o,e,d⟩:=T.obj _ _ t7 b hb;exact(J.pin (b,o) (iU _ (iU _ (xZ hb e)))).2.1
   cases ok with
   |false=>
    rw[ah (by decide)]at q9;rw[ah (by decide)];obtain⟨m',hm,w9⟩:=HN _ _ _ q9;obtain⟨a1,a2,a3,a4,a5⟩:=after I9;exact⟨m',hm,i+1,σ8,H9,ys,its,lM,a1,a2,a3,a4,a5,yB,w9⟩
   |true=>
    rw[ae rfl]at q9;rw[ae rfl];have hd:=ye _ s9 σ8 H9 _ I9 q9;rw[yP,yW,Cy]at hd;refine lift hd λv tJ Qc=>?_;obtain⟨y,HQ,Qd,Qe,Qf⟩:=Qc;obtain⟨m',hm,Qg⟩:=HN _ _ _ Qf;obtain⟨a1,a2,a3,a4,a5⟩:=after Qd;have cA:=yB.length;refine append_at (hsz:=by rw[dm];lia) a5 λh' sb g'=>?_;have HR:=Cz _ (cZ (a:=s2.heap.objs.size) (l:=fp));have Qh:Inv Y [] σ8 HQ { tJ with heap:=h' }:=a1.turned (t':=tJ.toks) (it:=s2.heap.objs.size) (λb o hb e=>(sb.2 b hb).trans e) a4 DL (.inl HR) (IB.ok.vm _ HR).2 (by rw[HG];intro p hp;cases hp);refine⟨m',hm,i+1,σ8,HQ,ys++[y],its++[v],lM+1,Qh,T.keep _ _ _ a2 λb hb o e=>(sb.2 b (λz=>HH (z▸hb))).trans e,a3,a4,?_,yB.snoc Qe,Qg⟩;rw[g',List.push_toArray]
 exact codeAny_compStart_list loop (T.self X.A 0 _ _ _ HJ loop)
theorem HS(S:du X.N X.env.scope N own caps scope){σ:St}(I:Inv X aI σ H s):closureFor scope X.env=pure (jB X.env.cells scope.names []):=
 PL λx hx hk=>I.ok.has x.1 (S.free x hx hk)
theorem i9(hc:X.calm=true)(hi:PI X tg iter wi)(S:du X.N X.env.scope N own caps scope)
  (hg:∀cs C s₀ H₀ ex,PG (lL X N scope cs C s₀ H₀ ex) tg g) (ht:∀cs C s₀ H₀ ex,tG (lL X N scope cs C s₀ H₀ ex) iJ tt) (he:∀cs C s₀ H₀ ex,PE (lL X N scope cs C s₀ H₀ ex) jn te)
  (hs:∀x,foldedSetIterable iter X.env x=pure x:=by intro _;rfl):PE X (.ListComp jn [⟨tg,iter,iJ,0⟩] scope pos) (j9 wi own caps g tt te):=by
 intro aI s σ H Q I h;rw[eval_ListComp];refine wpAny_comprehension_free (use:=none) rfl hs (HS S I) S.kind (λx hx hl=>vJ S.yy (by rw[← hl];exact hx)) ?_;refine bj (hi aI s σ H _ I h) λv s1 h1=>bj h1 λxX s2 h2=>?_;obtain⟨it,fp,tn,J,H2,e,I2,T,j0,f2,W,⟨m0,w0⟩,mz⟩:=h2;subst e;refine Hv hc S hg ht he I2 T j0 f2 w0 mz λD C s' H' ys I' F' hn q=>?_;obtain⟨m,hn⟩:=hn;refine⟨m,hn,λh' sb=>⟨.ref D,_,I'.turned (t':=s'.toks) (λb o hb e=>(sb.2 b hb).trans e) F'.1 F'.2.1 F'.2.2.2.1 F'.2.2.2.2.1 F'.2.2.2.2.2,rfl,q⟩⟩
theorem mY{my HU:Pos}(hc:X.calm=true)(hN:X.N.Nodup)(yC:X.N[i]?=some x)(hx:X.env.scope.names.lookup x=some .local)(hi:PI X tg iter wi)(S:du X.N X.env.scope N own caps scope)
  (hg:∀cs C s₀ H₀ ex,PG (lL X N scope cs C s₀ H₀ ex) tg g) (ht:∀cs C s₀ H₀ ex,tG (lL X N scope cs C s₀ H₀ ex) iJ tt) (he:∀cs C s₀ H₀ ex,PE (lL X N scope cs C s₀ H₀ ex) jn te)
  (Qi:swapsWith (.ListComp jn [⟨tg,iter,iJ,0⟩] scope pos) (some (.Name x my)) HU.line X.env=pure true:=by rfl)
  (hs:∀x,foldedSetIterable iter X.env x=pure x:=by intro _;rfl):PS X (.Assign [.Name x my] (.ListComp jn [⟨tg,iter,iJ,0⟩] scope pos) HU) (cy (j9 wi own caps g tt te) (bq i)):=by
 intro aI s σ H D I h;rw[exec_Assign_Name_used _ _ _ _ Qi];refine aq (wpAny_standAt (aq ?_));show wpAny _ X.A (do let _ ← comprehension (.ListComp jn [⟨tg,iter,iJ,0⟩] scope pos) scope X.env _ (newList []) false (eval iter X.env) (some (assign (.Name x my) X.env))) _ _ s
 refine aq (ai (wpAny_comprehension_free (use:=some (assign (.Name x my) X.env)) (Q:=λ_ s'=>SP X aI D .next s') rfl hs (HS S I) S.kind (λx hx hl=>vJ S.yy (by rw[← hl];exact hx)) ?_) (λ_ s' hq=>av (av hq)) λ_ _ e=>e);refine bj (hi aI s σ H _ I h) λv s1 h1=>bj h1 λxX s2 h2=>?_;obtain⟨it,fp,tn,J,H2,e,I2,T,j0,f2,W,⟨m0,w0⟩,mz⟩:=h2;subst e;refine Hv hc S hg ht he I2 T j0 f2 w0 mz λD' C s' H' ys I' F' hn q=>?_;obtain⟨m,hn⟩:=hn;refine wpAny_assign_Name (FX (v:=.ref D') I' hN yC (.inl hx) rfl (λkG Qj tK=>?_) (.inr hx));obtain⟨a,sb,ha⟩:=tK;have Qk:C≠a:=by
  rcases ha with ha|ha
  ·rw[ha];exact F'.2.1
  ·exact(F'.2.2.2.2.1 x a ha).symm
 exact⟨m,hn.sameBut sb Qk,λh' Ql=>⟨_,_,Qj.turned (t':=kG.toks) (λb o hb e=>(Ql.2 b hb).trans e) F'.1 F'.2.1 F'.2.2.2.1 F'.2.2.2.2.1 F'.2.2.2.2.2,q⟩⟩
end
noncomputable def Qm(b:Bool):String:=match b with
 |true => "list_iterator"
 |false => "tuple_iterator"
noncomputable def Qn(b:Bool):String:=match b with
 |true => "list"
 |false => "tuple"
noncomputable abbrev kJ(b:Bool)(a:Addr)(i:Nat):Obj:={ cls:=.type (Qm b),data:=.fields #[.ref a,.int i 0] }
def iK(b:Bool)(h:Heap)(it a:Addr)(i:Nat):Prop:=h.get? it=some (kJ b a i)
def jC(b:Bool)(h:Heap)(a:Addr)(its:Array Value):Prop:=∃o n,h.get? a=some o∧o.cls=.type (Qn b)∧o.data=.seq its n
section
variable(it a:Addr)(i:Nat)(its:Array Value)(o:Obj)(n:Nat)(ed:o.data=.seq its n)
include ed
theorem Qo(x:Value)(hx:its[i]?=some x) :
  Meets (Builtin.«tuple_iterator.__next__» ⟨[.ref it],[]⟩) (λ_ R s=>(s.heap.get? it=some (kJ false a i)∧s.heap.get? a=some o)∧
   R (.ok (.ret x)) { s with heap:=s.heap.update it (Obj.mapFields λvs=>vs.setIfInBounds 1 (rawInt ((i:Int)+1))) }):=
 .of_wp λprog w A R s hyp=>by
  obtain⟨h,g,dr,tk,os⟩:=s;obtain⟨⟨e1,e2⟩,fin⟩:=hyp;have hU:its[((i:Nat):Int).toNat]?=some x:=by simpa using hx
  wp_walk
  rw[ed];wp_walk
  rw[hU];wp_walk
  exact⟨_,rfl,fin⟩
theorem Qp(x:Value)(hx:its[i]?=some x) :
  Meets (Builtin.«list_iterator.__next__» ⟨[.ref it],[]⟩) (λ_ R s=>(s.heap.get? it=some (kJ true a i)∧s.heap.get? a=some o)∧
   R (.ok (.ret x)) { s with heap:=s.heap.update it (Obj.mapFields λvs=>vs.setIfInBounds 1 (rawInt ((i:Int)+1))) }):=
 .of_wp λprog w A R s hyp=>by
  obtain⟨h,g,dr,tk,os⟩:=s;obtain⟨⟨e1,e2⟩,fin⟩:=hyp;have hU:its[((i:Nat):Int).toNat]?=some x:=by simpa using hx
  wp_walk
  rw[ed];wp_walk
  rw[hU];wp_walk
  exact⟨_,rfl,fin⟩
theorem Qq(hx:its[i]?=none) :
  Meets (Builtin.«tuple_iterator.__next__» ⟨[.ref it],[]⟩) (λA R s=>A.handled=none∧(s.heap.get? it=some (kJ false a i)∧s.heap.get? a=some o)∧
   ∀h' e,(∀b u,b≠it→s.heap.get? b=some u→h'.get? b=some u)→(∃u,h'.get? e=some u∧u.cls=.type "StopIteration")→R (.error (.ref e)) { s with heap:=h' }):=
 .of_wp λprog w A R s hyp=>by
  obtain⟨h,g,dr,tk,os⟩:=s;obtain⟨hh,⟨e1,e2⟩,fin⟩:=hyp;have Qr:A.in1.handled=none:=hh;have hU:its[((i:Nat):Int).toNat]?=none:=by simpa using hx
  wp_walk
  rw[ed];wp_walk
  rw[hU];wp_walk
  unfold raiseNew;wp_walk
  refine fin _ _ (λb u hb q=>?_) ⟨_,ij _ rfl,rfl⟩;exact dH _ (dH _ ((Heap.get?_update_other _ _ (Ne.symm hb)).trans q))
theorem Qs(hx:its[i]?=none) :
  Meets (Builtin.«list_iterator.__next__» ⟨[.ref it],[]⟩) (λA R s=>A.handled=none∧(s.heap.get? it=some (kJ true a i)∧s.heap.get? a=some o)∧
   ∀h' e,(∀b u,b≠it→s.heap.get? b=some u→h'.get? b=some u)→(∃u,h'.get? e=some u∧u.cls=.type "StopIteration")→R (.error (.ref e)) { s with heap:=h' }):=
 .of_wp λprog w A R s hyp=>by
  obtain⟨h,g,dr,tk,os⟩:=s;obtain⟨hh,⟨e1,e2⟩,fin⟩:=hyp;have Qr:A.in1.handled=none:=hh;have hU:its[((i:Nat):Int).toNat]?=none:=by simpa using hx
  wp_walk
  rw[ed];wp_walk
  rw[hU];wp_walk
  unfold raiseNew;wp_walk
  refine fin _ _ (λb u hb q=>?_) ⟨_,ij _ rfl,rfl⟩;exact dH _ (dH _ ((Heap.get?_update_other _ _ (Ne.symm hb)).trans q))
end
section
variable{prog:Program}{w:World}{A:Around}{E:QV}{s:Shared}{b:Bool}{it a:Addr}{i:Nat}{its:Array Value}
theorem iK.moved(h:Heap)(e:iK b h it a i):iK b (h.update it (Obj.mapFields λvs=>vs.setIfInBounds 1 (rawInt ((i:Int)+1)))) it a (i+1):=sH _ e rfl
theorem Qt{x:Value}(e1:iK b s.heap it a i)(e2:jC b s.heap a its)(hx:its[i]?=some x)
  (q:∀h',iK b h' it a (i+1)→Heap.SameBut it s.heap h'→Q x { s with heap:=h' }):wpAny (model prog w) A (Builtin.SmallTypes.nextOf (.ref it)) Q E s:=by
 obtain⟨o,n,eo,ec,ed⟩:=e2;cases b<;>unfold Builtin.SmallTypes.nextOf
 ·exact aq (az (T := "tuple_iterator") ⟨_,e1,rfl⟩ FO (aD FO ⟨_,e1,rfl⟩ F.entry_tuple_iterator_next (F.args_tuple_iterator_next_1 _) (Qo it a i its o n ed x hx) ⟨⟨e1,eo⟩,av (q _ (iK.moved _ e1) (nP ..))⟩))
 ·exact aq (az (T := "list_iterator") ⟨_,e1,rfl⟩ slot_listiter_next (aD slot_listiter_next ⟨_,e1,rfl⟩ entry_listiter_next (args_listiter_next _) (Qp it a i its o n ed x hx) ⟨⟨e1,eo⟩,av (q _ (iK.moved _ e1) (nP ..))⟩))
theorem Qu(hh:A.handled=none)(e1:iK b s.heap it a i)(e2:jC b s.heap a its)(hx:its[i]?=none)
  (q:∀h' e,Heap.ExtBut it s.heap h'→(∃u,h'.get? e=some u∧u.cls=.type "StopIteration")→E (.ref e) { s with heap:=h' }):wpAny (model prog w) A (Builtin.SmallTypes.nextOf (.ref it)) Q E s:=by
 obtain⟨o,n,eo,ec,ed⟩:=e2;cases b<;>unfold Builtin.SmallTypes.nextOf
 ·exact aq (az (T := "tuple_iterator") ⟨_,e1,rfl⟩ FO (aD FO ⟨_,e1,rfl⟩ F.entry_tuple_iterator_next (F.args_tuple_iterator_next_1 _) (Qq it a i its o n ed hx) ⟨hh,⟨e1,eo⟩,λh' e k z=>q h' e (λc u hc y=>k c u hc y) z⟩))
 ·exact aq (az (T := "list_iterator") ⟨_,e1,rfl⟩ slot_listiter_next (aD slot_listiter_next ⟨_,e1,rfl⟩ entry_listiter_next (args_listiter_next _) (Qs it a i its o n ed hx) ⟨hh,⟨e1,eo⟩,λh' e k z=>q h' e (λc u hc y=>k c u hc y) z⟩))
end
theorem yD{prog:Program}{w:World}(b:Bool)(hh:A.handled=none)(it l:Addr)(dQ:l≠it)(items:Array Value) :
  Draws prog w A it [it,l] items.size (λi v=>items[i]?=some v) (λi h=>iK b h it l i∧jC b h l items):=by
 refine⟨λi h st=>⟨_,st.1⟩,λi h h' st k=>⟨k it (by simp) _ st.1,?_⟩,λi s Q E hi st q=>?_,λs Q E st q=>Qu hh st.1 st.2 (by simp) q⟩
 ·obtain⟨o,n,eo,r⟩:=st.2;exact⟨o,n,k l (by simp) o eo,r⟩
 ·have hx:items[i]?=some items[i]:=by simp[hi]
  refine Qt st.1 st.2 hx λh' e1 sb=>q _ h' s.toks hx ⟨e1,?_⟩ sb;obtain⟨o,n,eo,r⟩:=st.2;exact⟨o,n,(sb.2 l dQ).trans eo,r⟩
structure CC(z TI TO i1 i2:Addr)(pd pe:List Addr):Prop where
 HV:TI≠z
 p6:TO≠z
 yE:i1≠z
 CF:i2≠z
 Qv:TI≠TO
 Qw:TI≠i1
 Qx:TI≠i2
 HW:TO≠i1
 Qy:TO≠i2
 HX:i1≠i2
 fz:z ∉ pd∧z ∉ pe
 fO:TO ∉ pd∧TO ∉ pe
 f2:i2 ∉ pd
 f1:i1 ∉ pe
section
variable{prog:Program}{w:World}{A:Around}{E:QV}{z TI TO i1 i2:Addr}{pd pe:List Addr}{n1 n2 k:Nat}{P1 P2:Nat→Value→Prop}{S1 S2:Nat→Heap→Prop}{a b:Value}
theorem Draws.but{fp:List Addr}{n:Nat}{P:Nat→Value→Prop}{St:Nat→Heap→Prop}(D:PySem.Draws prog w A it fp n P St){k:Nat}(x:St k h)(hc:c ∉ fp)(sb:Heap.SameBut c h h'):St k h':=
 D.frame _ _ _ x λb hb o e=>(sb.2 b λz=>hc (z▸hb)).trans e
def HY(z TO i1 i2:Addr)(h h':Heap):Prop:=∀c o,c≠z→c≠TO→c≠i1→c≠i2→h.get? c=some o→h'.get? c=some o
set_option maxHeartbeats 2000000 in
theorem Qz(D1:PySem.Draws prog w A i1 pd n1 P1 S1)(D2:PySem.Draws prog w A i2 pe n2 P2 S2)(D:CC z TI TO i1 i2 pd pe)
  (hz:IsZip s.heap z TI TO .none) (hT:IsPair s.heap TI (.ref i1) (.ref i2)) (hO:IsPair s.heap TO a b) (h1:S1 k s.heap) (h2:S2 k s.heap) (l1:k<n1) (l2:k<n2)
  (q:∀x y h' t,P1 k x→P2 k y→IsZip h' z TI TO (rawInt s.heap.objs.size)→IsPair h' TO x y→S1 (k+1) h'→S2 (k+1) h'→IsPair h' s.heap.objs.size x y→h'.objs.size=s.heap.objs.size+1→HY z TO i1 i2 s.heap h'→
   Q (.ref s.heap.objs.size) { s with heap:=h',toks:=t }):wpAny (model prog w) A (Builtin.«zip.__next__» ⟨[.ref z],[]⟩) (λfin s'=>∃v,fin=.done (.ret v)∧Q v s') E s:=by
 obtain⟨h,g,dr,tk,os⟩:=s;have vL:h.get? z=some _:=hz;have QA:h.get? TI=some _:=hT;wp_walk using wpAny_onRaise,D1.item k _ _ _ l1
 ·exact Draws.but D1 h1 D.fz.1 (nP ..)
 intro x ha ta p1 sa ka;replace ka:Heap.SameBut i1 (h.update z _) ha:=ka;have zz:=nP h z (Obj.mapFields λvs=>vs.setIfInBounds 0 Value.ellipsis);have yF:ha.get? TO=some _:=((ka.2 TO D.HW).trans (zz.2 TO D.p6)).trans hO;have tt:=nP ha TO (Obj.mapSeq λvs=>vs.setIfInBounds 0 x);wp_walk using wpAny_onRaise,wpAny_updateSeq yF rfl,D2.item k _ _ _ l2
 all_goals try exact Draws.but D2 (Draws.but D2 (Draws.but D2 h2 D.fz.2 zz) D.f1 ka) D.fO.2 tt
 intro y hb tb p2 sb kb;replace kb:Heap.SameBut i2 (ha.update TO _) hb:=kb;have HZ:hb.get? TO=some { cls:=.type "tuple",data:=.seq #[x,b] }:=by
  rw[kb.2 TO D.Qy,sH _ yF rfl];simp[Obj.mapSeq]
 have QB:hb.get? z=some { cls:=.type "zip",dict:=none,data:=.fields #[.ellipsis,.bool false,.bool false,.ref TI,.ref TO],slots:=#[] }:=by
  rw[kb.2 z D.CF.symm,tt.2 z D.p6.symm,ka.2 z D.yE.symm,sH _ vL rfl];simp[Obj.mapFields]
 have nz:TO≠z:=D.p6;wp_walk using wpAny_updateSeq HZ rfl
 refine⟨_,rfl,?_⟩;dsimp only;have sz:hb.objs.size=h.objs.size:=by rw[kb.1,tt.1,ka.1,zz.1]
 have uu:=nP hb TO (Obj.mapSeq λvs=>vs.setIfInBounds (0+1) y);have Ia:(hb.update TO (Obj.mapSeq λvs=>vs.setIfInBounds (0+1) y)).get? TO=some { cls:=.type "tuple",data:=.seq #[x,y] }:=by
  rw[sH _ HZ rfl];simp[Obj.mapSeq]
 have ex:(#[x,b].setIfInBounds (0+1) y).toList.toArray=#[x,y]:=by simp
 rw[ex];generalize hb.update TO (Obj.mapSeq λvs=>vs.setIfInBounds (0+1) y)=hc at uu Ia ⊢;have QC:hc.objs.size=h.objs.size:=uu.1.trans sz;have new:=ij hc (o:={ cls:=.type "tuple",data:=.seq #[x,y] }) rfl;have CG:=qD hc { cls:=.type "tuple",data:=.seq #[x,y] };have old:∀c o,hc.get? c=some o→(hc.push { cls:=.type "tuple",data:=.seq #[x,y] }).get? c=some o:=λc o e=>dH _ e;rw[QC]at new CG ⊢;generalize hc.push { cls:=.type "tuple",data:=.seq #[x,y] }=hp at new CG old ⊢;have QD:=old z _ ((uu.2 z D.p6.symm).trans QB);have v1:=nP hp z (Obj.mapFields λvs=>vs.setIfInBounds 0 (rawInt h.objs.size));have v2:=nP (hp.update z (Obj.mapFields λvs=>vs.setIfInBounds 0 (rawInt h.objs.size))) z (Obj.mapFields λvs=>vs.setIfInBounds 1 (Value.bool false));have Ib:((hp.update z (Obj.mapFields λvs=>vs.setIfInBounds 0 (rawInt h.objs.size))).update z (Obj.mapFields λvs=>vs.setIfInBounds 1 (Value.bool false))).get? z=some { cls:=.type "zip",dict:=none,data:=.fields #[rawInt h.objs.size,.bool false,.bool false,.ref TI,.ref TO],slots:=#[] }:=by
  rw[sH _ (sH _ QD rfl) rfl];simp[Obj.mapFields]
 have fwd:∀c o,c≠z→hc.get? c=some o→((hp.update z (Obj.mapFields λvs=>vs.setIfInBounds 0 (rawInt h.objs.size))).update z (Obj.mapFields λvs=>vs.setIfInBounds 1 (Value.bool false))).get? c=some o:=λc o ne e=>((v2.2 c ne).trans (v1.2 c ne)).trans (old c o e);have Ic:=(v2.1.trans v1.1).trans CG;have vM:=((v2.2 h.objs.size (Nat.ne_of_gt (dG vL))).trans (v1.2 h.objs.size (Nat.ne_of_gt (dG vL)))).trans new;generalize (hp.update z (Obj.mapFields λvs=>vs.setIfInBounds 0 (rawInt h.objs.size))).update z (Obj.mapFields λvs=>vs.setIfInBounds 1 (Value.bool false))=hF at Ib fwd Ic vM ⊢;refine q x y hF tb p1 p2 Ib (fwd TO _ D.p6 Ia) (D1.frame _ _ _ (Draws.but D1 (Draws.but D1 (Draws.but D1 sa D.fO.1 tt) D.f2 kb) D.fO.1 uu) λc hm o e=>fwd c o (λj=>D.fz.1 (j▸hm)) e)
  (D2.frame _ _ _ (Draws.but D2 sb D.fO.2 uu) λc hm o e=>fwd c o (λj=>D.fz.2 (j▸hm)) e) vM Ic λc o n1 n2 n3 n4 e=>fwd c o n1 ?_
 rw[uu.2 c n2,kb.2 c n4,tt.2 c n2,ka.2 c n3,zz.2 c n1];exact e
end
section
variable{prog:Program}{w:World}{A:Around}{E:QV}{z TI TO i1 i2:Addr}{pd pe:List Addr}{n1 n2 k:Nat}{P1 P2:Nat→Value→Prop}{S1 S2:Nat→Heap→Prop}{a b:Value}
set_option maxHeartbeats 2000000 in
theorem QE{Q:Fin→Shared→Prop}(D1:PySem.Draws prog w A i1 pd n1 P1 S1)(D2:PySem.Draws prog w A i2 pe n2 P2 S2)(D:CC z TI TO i1 i2 pd pe)
  (hz:IsZip s.heap z TI TO .none) (hT:IsPair s.heap TI (.ref i1) (.ref i2)) (hO:IsPair s.heap TO a b) (h1:S1 k s.heap) (h2:S2 k s.heap) (QF:k=n1∨(k<n1∧k=n2))
  (q:∀h' e t,HY z TO i1 i2 s.heap h'→(∃o,h'.get? e=some o∧o.cls=.type "StopIteration")→E (.ref e) { s with heap:=h',toks:=t }):wpAny (model prog w) A (Builtin.«zip.__next__» ⟨[.ref z],[]⟩) Q E s:=by
 obtain⟨h,g,dr,tk,os⟩:=s;have vL:h.get? z=some _:=hz;have QA:h.get? TI=some _:=hT;have zz:=nP h z (Obj.mapFields λvs=>vs.setIfInBounds 0 Value.ellipsis);have Ie:(h.update z (Obj.mapFields λvs=>vs.setIfInBounds 0 Value.ellipsis)).get? z=some { cls:=.type "zip",dict:=none,data:=.fields #[.ellipsis,.bool false,.bool false,.ref TI,.ref TO],slots:=#[] }:=by
  rw[sH _ vL rfl];simp[Obj.mapFields]
 rcases QF with rfl|⟨l1,rfl⟩
 ·wp_walk using wpAny_onRaise,D1.done
  all_goals try exact Draws.but D1 h1 D.fz.1 zz
  intro hx e kx ⟨oe,xe,xc⟩;have CH:hx.get? z=some _:=kx z _ D.yE.symm Ie;have CI:e≠z:=λy=>by
   subst y;rw[CH]at xe;cases xe;simp at xc
  wp_walk
  have vv:=nP hx z (Obj.mapFields λvs=>vs.setIfInBounds 0 Value.none);exact q _ e _ (λc o m1 m2 m3 m4 y=>(vv.2 c m1).trans (kx c o m3 ((zz.2 c m1).trans y))) ⟨oe,(vv.2 e CI).trans xe,xc⟩
 ·wp_walk using wpAny_onRaise,D1.item k _ _ _ l1
  all_goals try exact Draws.but D1 h1 D.fz.1 zz
  intro x ha ta p1 sa ka;replace ka:Heap.SameBut i1 (h.update z _) ha:=ka;have yF:ha.get? TO=some _:=((ka.2 TO D.HW).trans (zz.2 TO D.p6)).trans hO;have tt:=nP ha TO (Obj.mapSeq λvs=>vs.setIfInBounds 0 x);wp_walk using wpAny_onRaise,wpAny_updateSeq yF rfl,D2.done
  all_goals try exact Draws.but D2 (Draws.but D2 (Draws.but D2 h2 D.fz.2 zz) D.f1 ka) D.fO.2 tt
  intro hx e kx ⟨oe,xe,xc⟩;replace kx:Heap.ExtBut i2 (ha.update TO _) hx:=kx;have CH:hx.get? z=some _:=kx z _ D.CF.symm ((tt.2 z D.p6.symm).trans ((ka.2 z D.yE.symm).trans Ie));have CI:e≠z:=λy=>by
   subst y;rw[CH]at xe;cases xe;simp at xc
  wp_walk
  have vv:=nP hx z (Obj.mapFields λvs=>vs.setIfInBounds 0 Value.none);exact q _ e _ (λc o m1 m2 m3 m4 y=>(vv.2 c m1).trans (kx c o m4 ((tt.2 c m2).trans ((ka.2 c m3).trans ((zz.2 c m1).trans y))))) ⟨oe,(vv.2 e CI).trans xe,xc⟩
end
def Sq(b:Bool)(K:Frag)(H:Hp)(a:Addr)(xs:List V):Prop:=match b with
 |true=>cM K H a xs
 |false=>aZ K H a xs
theorem Inv.sq{σ:St}(I:Inv X aI σ H s)(h:Sq b X.K H a xs):∃its:List Value,Vals xs its∧jC b s.heap a its.toArray∧xs.length≤sizeLine:=by
 cases b with
 |true=>
  obtain⟨its,rv,p,hz⟩:=I.list h;obtain⟨o,eo,ec,n,ed⟩:=p.isList;exact⟨its,rv,⟨o,n,eo,ec,ed⟩,hz⟩
 |false=>
  obtain⟨its,rv,⟨o,eo,ec,n,ed⟩,hz⟩:=I.tuple h;exact⟨its,rv,⟨o,n,eo,ec,ed⟩,hz⟩
theorem Inv.Ig{σ:St}{ys:List V}(I:Inv X aI σ H s)(h:Sq b X.K H a xs)(h':Sq b X.K H a ys):xs=ys:=by
 cases b with
 |true=>exact I.Gj h h'
 |false=>exact I.Gk h h'
theorem iK.up(x:iK b h it a i)(k:∀o,h.get? it=some o→h'.get? it=some o):iK b h' it a i:=k _ x
theorem iK.obj(x:iK b h it a i):∃o,h.get? it=some o∧∀v,o.data≠.cell v:=⟨_,x,λv z=>by cases z⟩
theorem jC.obj(x:jC b h a its):∃o,h.get? a=some o:=let ⟨o,_,e,_⟩:=x;⟨o,e⟩
section
variable{X:Cx}{aI:List (Addr×Obj)}{σ:St}{H:Hp}{s:Shared}{h':Heap}
theorem Inv.Ih{t':Nat}{ch:List Addr}(I:Inv X aI σ H s)(k:∀b o,b ∉ ch→s.heap.get? b=some o→h'.get? b=some o)(hf:∀b∈ch,jk X aI H b):Inv X aI σ H { s with heap:=h',toks:=t' }:=by
 have vp:∀b u,H b=some u→b ∉ ch:=λb u e z=>by rw[(hf b z).1]at e;cases e
 refine I.step (g':=s.gens) (d':=s.drawn) (ch:=ch) (λb hb=>⟨(hf b hb).2.2.2.1,(hf b hb).2.1,(hf b hb).2.2.2.2.1,(hf b hb).2.2.2.2.2⟩) (λb o _ _ hc e _=>k b o hc e) (λb o _ _ hc e _=>⟨o.slots,k b o hc e⟩) (λ_ _ _ _ n=>n)
  (λb o hc e=>⟨o,k b o hc e⟩) (λ_ _ e=>e) (λ_ _ _ e=>e) (λb ps e=>⟨#[],by rw[e];simp⟩) (λm hm=>?_) (λb u e=>?_) I.bare
 ·obtain⟨o,es,ep,ho,r⟩:=hm;exact⟨o,es,ep,k _ o (λz=>(hf _ z).2.1 rfl) ho,r⟩
 ·refine(I.bH b u e).oT (λc v hc q=>k c v ?_ q) (λ_ q=>q) λ_ _ q=>q;rcases hc with z|z
  ·rw[z];exact vp b u e
  ·exact vp c _ z
theorem Inv.QG{o:HO}(I:Inv X aI σ H s)(f:jk X aI H p)(new:dW X.prog X.w (upd H p o) s.heap p o):Inv X aI σ (upd H p o) s:=by
 have hp:=f.1;refine I.step (g':=s.gens) (d':=s.drawn) (t':=s.toks) (h':=s.heap) (ch:=[p]) (λb hb=>?_) (λb o _ _ _ e _=>e) (λb o _ _ _ e _=>⟨o.slots,e⟩) (λb o hc e n=>?_)
  (λb o _ e=>⟨o,e⟩) (λb xs e=>by rw[cn (eT e hp)];exact e) (λb o u e=>by rw[cn (eT e hp)];exact e) (λb ps e=>⟨#[],by rw[cn (eT e hp),e];simp⟩) (λm hm=>hm) (λb u e=>?_) I.bare
 ·have e:=dI.mp hb;subst e;exact⟨f.2.2.2.1,f.2.1,f.2.2.2.2.1,f.2.2.2.2.2⟩
 ·rw[cn (λz=>hc (by rw[z];exact dI.mpr rfl))];exact n
 ·by_cases hb:b=p
  ·subst hb;rw[aX]at e;cases e;exact new
  ·rw[cn hb]at e;exact(I.bH b u e).oT (λc v _ q=>q) (λc q=>by rw[cn (eT q hp)];exact q) λc xs q=>by rw[cn (eT q hp)];exact q
end
section
variable{prog:Program}{w:World}{A:Around}{E:QV}{s:Shared}
theorem Ii{T id:String}{v:Value}{Q:Option Value→Shared→Prop}(ty:s.TypeIs v T)(sl:Slot T (Str.ofString "__next__") id)
  (h:wpAny (model prog w) A (call (.builtin id) [v]) (λx s'=>Q (some x) s') (λe s'=>∃c o,e=.ref c∧s'.heap.get? c=some o∧o.cls=.type "StopIteration"∧Q none s') s):wpAny (model prog w) A (pyNext v) Q E s:=by
 unfold pyNext;refine aq (wpAny_attempt (az ty sl (ai h (λx s' y=>av y) λe s' y=>?_)));obtain⟨c,o,rfl,e1,e2,y⟩:=y;exact aq (wpAny_isInstance (b:=true) ⟨o,e1,e2⟩ isSubtype_stop (av y))
theorem Ij(b:Bool)(e:jC b s.heap a its)(q:Q (.ref s.heap.objs.size) { s with heap:=s.heap.push (kJ b a 0) }):wpAny (model prog w) A (pyIter (.ref a)) Q E s:=by
 obtain⟨o,n,eo,ec,ed⟩:=e;cases b
 ·exact wpAny_pyIter_tuple ⟨o,eo,ec,n,ed⟩ q
 ·exact wpAny_pyIter_list ⟨o,eo,ec,n,ed⟩ q
end
structure Ik(b1 b2:Bool)(l1 l2:Addr)(h h':Heap):Prop where
 zip:IsZip h' (h.objs.size+4) (h.objs.size+2) (h.objs.size+3) .none
 QH:IsPair h' (h.objs.size+2) (.ref h.objs.size) (.ref (h.objs.size+1))
 out:IsPair h' (h.objs.size+3) .none .none
 one:iK b1 h' h.objs.size l1 0
 two:iK b2 h' (h.objs.size+1) l2 0
 old:∀c o,h.get? c=some o→h'.get? c=some o
theorem jC.up(x:jC b h a its)(k:∀o,h.get? a=some o→h'.get? a=some o):jC b h' a its:=by
 obtain⟨o,n,eo,r⟩:=x;exact⟨o,n,k o eo,r⟩
theorem QI(b1 b2:Bool)(l1 l2:Addr)(xs ys:Array Value) :
  Meets (Builtin.«zip.__new__» ⟨[.type "zip",.ref l1,.ref l2],[]⟩) (λ_ R s=>(jC b1 s.heap l1 xs∧jC b2 s.heap l2 ys)∧
   ∀h',Ik b1 b2 l1 l2 s.heap h'→R (.ok (.ret (.ref (s.heap.objs.size+4)))) { s with heap:=h' }):=
 .of_wp λprog w A R s hyp=>by
  obtain⟨h,g,dr,tk,os⟩:=s;obtain⟨⟨q1,q2⟩,fin⟩:=hyp;have sub:=sub_zip;have QJ:jC b2 (Shared.mk (h.push (kJ b1 l1 0)) g dr tk os).heap l2 ys:=q2.up λo e=>dH _ e;wp_walk using Ij b1 q1,Ij b2 QJ
  dsimp only;have z1:=qD h (kJ b1 l1 0);generalize e1:h.push (kJ b1 l1 0)=ha at *;have z2:=qD ha (kJ b2 l2 0);generalize e2:ha.push (kJ b2 l2 0)=hb at *;generalize e3:hb.push _=hc;have z3:hc.objs.size=hb.objs.size+1:=by rw[← e3];exact qD ..
  generalize e4:hc.push _=hd;have z4:hd.objs.size=hc.objs.size+1:=by rw[← e4];exact qD ..
  rw[z1]at z2;rw[z2]at z3;rw[z3]at z4;have a1:ha.get? h.objs.size=some (kJ b1 l1 0):=by rw[← e1];exact ij _ rfl
  have a2:hb.get? (h.objs.size+1)=some (kJ b2 l2 0):=by rw[← e2,← z1];exact ij _ rfl
  have a3:hc.get? (h.objs.size+2)=some { cls:=.type "tuple",data:=.seq #[.ref h.objs.size,.ref (h.objs.size+1)] }:=by
   rw[← e3,← z2,← z1];exact ij _ rfl
  have a4:hd.get? (h.objs.size+3)=some { cls:=.type "tuple",data:=.seq #[.none,.none] }:=by
   rw[← e4,← z3];exact ij _ rfl
  have u1:∀c o,h.get? c=some o→ha.get? c=some o:=λc o y=>by rw[← e1];exact dH _ y
  have u2:∀c o,ha.get? c=some o→hb.get? c=some o:=λc o y=>by rw[← e2];exact dH _ y
  have u3:∀c o,hb.get? c=some o→hc.get? c=some o:=λc o y=>by rw[← e3];exact dH _ y
  have u4:∀c o,hc.get? c=some o→hd.get? c=some o:=λc o y=>by rw[← e4];exact dH _ y
  have u5:∀(r:Obj) c o,hd.get? c=some o→(hd.push r).get? c=some o:=λr c o y=>dH _ y;rw[z2,z3,z4];refine⟨_,rfl,fin _ ⟨?_,u5 _ _ _ (u4 _ _ a3),u5 _ _ _ a4,u5 _ _ _ (u4 _ _ (u3 _ _ (u2 _ _ a1))),u5 _ _ _ (u4 _ _ (u3 _ _ a2)),λc o y=>u5 _ _ _ (u4 _ _ (u3 _ _ (u2 _ _ (u1 _ _ y))))⟩⟩;rw[← z4];exact ij _ rfl
section
variable{prog:Program}{w:World}{A:Around}{E:QV}{s:Shared}
theorem QK(b1 b2:Bool){l1 l2:Addr}{xs ys:Array Value}(q1:jC b1 s.heap l1 xs)(q2:jC b2 s.heap l2 ys)
  (q:∀h',Ik b1 b2 l1 l2 s.heap h'→Q (.ref (s.heap.objs.size+4)) { s with heap:=h' }):wpAny (model prog w) A (call (.type "zip") [.ref l1,.ref l2]) Q E s:=
 callType_new F.called_zip (by decide) (F.typeCall_zip_2 _ _) (F.newCall_zip_2 _ _) (λv=>F.args_object_init_3 v _ _) F.entry_zip_new (QI b1 b2 l1 l2 xs ys) ⟨⟨q1,q2⟩,λh' N=>⟨⟨_,N.zip,rfl⟩,q h' N⟩⟩
end
noncomputable def tL(K:Frag)(b1 b2:Bool)(l1 l2:Addr):It:=
 ⟨λi H=>∃xs ys x y,Sq b1 K H l1 xs∧Sq b2 K H l2 ys∧xs[i]?=some x∧ys[i]?=some y,
   λi H v H'=>∃p x y,v=.ref p∧H p=none∧H'=upd H p (.tup [x,y])∧(∀xs,Sq b1 K H l1 xs→xs[i]?=some x)∧∀ys,Sq b2 K H l2 ys→ys[i]?=some y,
   λi H=>∃xs ys,Sq b1 K H l1 xs∧Sq b2 K H l2 ys∧(i=xs.length∨(i<xs.length∧i=ys.length))⟩
theorem QL{P:Program}{w:World}{x y:V}{u v:Value}(hp:IsPair h p u v)(rx:RelV x u)(ry:RelV y v):dW P w H h p (.tup [x,y]):=
 ⟨by show 2≤sizeLine;decide,[u,v],.cons rx (.cons ry .nil),_,hp,rfl,rfl,_,rfl⟩
structure QM(z TI TO i1 i2 l1 l2:Addr):Prop where
 sep:CC z TI TO i1 i2 [i1,l1] [i2,l2]
 n1:l1≠i1
 n2:l2≠i2
theorem QN{P:Program}{w:World}{K:Frag}{es:List Expr}{kt:Nat}{pt:Pos}(b1 b2:Bool){z TI TO i1 i2 l1 l2:Addr}(D:QM z TI TO i1 i2 l1 l2) :
  Turn P w K (.Tuple es kt pt) (tL K b1 b2 l1 l2) [z,TI,TO,i1,i2] z (λi h=>IsZip h z TI TO .none∧IsPair h TI (.ref i1) (.ref i2)∧(∃a b,IsPair h TO a b)∧iK b1 h i1 l1 i∧iK b2 h i2 l2 i) where
 mem:=by simp
 obj:=λi h st b hb=>by
  obtain⟨hz,pf,⟨a,c,p7⟩,h1,h2⟩:=st;simp only[dS,or_false,List.not_mem_nil]at hb;rcases hb with rfl|rfl|rfl|rfl|rfl
  ·exact⟨_,hz,λv q=>by cases q⟩
  ·exact⟨_,pf,λv q=>by cases q⟩
  ·exact⟨_,p7,λv q=>by cases q⟩
  ·exact h1.obj
  ·exact h2.obj
 keep:=λi h h' st k=>by
  obtain⟨hz,pf,⟨a,c,p7⟩,h1,h2⟩:=st;exact⟨k z (by simp) _ hz,k TI (by simp) _ pf,⟨a,c,k TO (by simp) _ p7⟩,h1.up λo e=>k i1 (by simp) o e,h2.up λo e=>k i2 (by simp) o e⟩
 item:=by
  intro X hP hw hK hc i aI s σ H E I hf st hg;subst hP hw hK;obtain⟨hz,pf,⟨ta,tb,p7⟩,h1,h2⟩:=st;obtain⟨xs,ys,x,y,kK,gH,hx,hy⟩:=hg;obtain⟨tM,yG,p1,Il⟩:=I.sq kK;obtain⟨tN,yH,p2,Im⟩:=I.sq gH;obtain⟨u,hu,ru⟩:=yG.get hx;obtain⟨v,hv,rv⟩:=yH.get hy;have lx:i<tM.toArray.size:=by rw[dm];exact(gi.mp hu).1
  have ly:i<tN.toArray.size:=by rw[dm];exact(gi.mp hv).1
  have hh:X.A.in1.handled=none:=I.ok.hd hc;have QO:z<s.heap.objs.size:=dG hz;refine Ii ⟨_,hz,rfl⟩ F.slot_zip_next (aA F.slot_zip_next ⟨_,hz,rfl⟩ F.entry_zip_next (Qz (yD b1 hh i1 l1 D.n1 tM.toArray) (yD b2 hh i2 l2 D.n2 tN.toArray) D.sep hz pf p7 ⟨h1,p1⟩ ⟨h2,p2⟩ lx ly λu' v' h' tk e1 e2 a1 a2 a3 a4 a5 a6 hk=>?_) (F.args_zip_next_1 _));have eu:u'=u:=by
   have Io:tM.toArray[i]?=some u':=e1;rw[List.getElem?_toArray,hu]at Io;exact(dj Io).symm
  have ev:v'=v:=by
   have Ip:tN.toArray[i]?=some v':=e2;rw[List.getElem?_toArray,hv]at Ip;exact(dj Ip).symm
  subst eu ev;refine⟨_,rfl,wpAny_letOwnedTupleGo_zip a1 λtK QP sb=>?_⟩;have iu:∀b o,b ∉ [z,TI,TO,i1,i2]→s.heap.get? b=some o→tK.get? b=some o:=λb o hb e=>by
   have:b≠z∧b≠TI∧b≠TO∧b≠i1∧b≠i2:=by simpa using hb
   exact(sb.2 b this.1).trans (hk b o this.1 this.2.2.1 this.2.2.2.1 this.2.2.2.2 e)
  have I1:Inv X aI σ H { s with heap:=tK,toks:=tk }:=I.Ih iu hf;have QQ:s.heap.objs.size≠z:=Nat.ne_of_gt QO;have CJ:IsPair tK s.heap.objs.size u' v':=(sb.2 _ QQ).trans a5;have fp:jk X aI H s.heap.objs.size:=I.pX (ck _) (I.bH.fresh (ck _));have I2:=I1.QG (o:=.tup [x,y]) fp (QL CJ ru rv);have up:∀b,b≠z→∀o,h'.get? b=some o→tK.get? b=some o:=λb hb o e=>(sb.2 b hb).trans e;refine⟨.ref s.heap.objs.size,_,I2,rfl,⟨_,x,y,rfl,fp.1,rfl,λxs' q=>by rw[I.Ig q kK];exact hx,λys' q=>by rw[I.Ig q gH];exact hy⟩,⟨QP,up _ D.sep.HV _ (hk _ _ D.sep.HV D.sep.Qv D.sep.Qw D.sep.Qx pf),⟨_,_,up _ D.sep.p6 _ a2⟩,a3.1.up λo e=>up _ D.sep.yE o e,a4.1.up λo e=>up _ D.sep.CF o e⟩,λb hb=>?_⟩;rw[cn]
  ·exact(hf b hb).1
  ·obtain⟨o,e⟩:∃o,s.heap.get? b=some o:=by
    simp only[dS,or_false,List.not_mem_nil]at hb;rcases hb with rfl|rfl|rfl|rfl|rfl
    ·exact⟨_,hz⟩
    ·exact⟨_,pf⟩
    ·exact⟨_,p7⟩
    ·exact⟨_,h1.obj.choose_spec.1⟩
    ·exact⟨_,h2.obj.choose_spec.1⟩
   exact gX (dG e)
 done:=by
  intro X hP hw hK hc i aI s σ H E I hf st hg;subst hP hw hK;obtain⟨hz,pf,⟨ta,tb,p7⟩,h1,h2⟩:=st;obtain⟨xs,ys,kK,gH,hx⟩:=hg;obtain⟨tM,yG,p1,Il⟩:=I.sq kK;obtain⟨tN,yH,p2,Im⟩:=I.sq gH;have hh:X.A.in1.handled=none:=I.ok.hd hc;have ll1:=yG.length;have ll2:=yH.length;refine Ii ⟨_,hz,rfl⟩ F.slot_zip_next (aA F.slot_zip_next ⟨_,hz,rfl⟩ F.entry_zip_next (QE (yD b1 hh i1 l1 D.n1 tM.toArray) (yD b2 hh i2 l2 D.n2 tN.toArray) D.sep hz pf p7 ⟨h1,p1⟩ ⟨h2,p2⟩ ?_ λh' e tk hk ⟨o,e1,e2⟩=>⟨e,o,rfl,e1,e2,?_⟩) (F.args_zip_next_1 _))
  ·rw[dm,dm];lia
  ·refine⟨rfl,I.Ih (λb o hb y=>?_) hf⟩
   have:b≠z∧b≠TI∧b≠TO∧b≠i1∧b≠i2:=by simpa using hb
   exact hk b o this.1 this.2.2.1 this.2.2.2.1 this.2.2.2.2 y
 self:=λ_ _ _ _ _ st h=>wpAny_pyIter_zip st.1 h
theorem jq{n:Nat}(i j:Nat)(h:i≠j:=by decide):@Ne Addr (n+i) (n+j):=λz=>h (Nat.add_left_cancel z)
theorem tO{n:Nat}{l:Addr}(i:Nat)(h:l<n):@Ne Addr (n+i) l:=Nat.ne_of_gt (ip h (oP n i))
theorem tP{b:Addr}(h1:a≠b)(h2:a≠c):a ∉ [b,c]:=by simp[h1,h2]
theorem QR:bootBuiltins "zip"=some (.type "zip"):=by decide +kernel
section
variable{X:Cx}
def Iq(K:Frag)(b1 b2:Bool)(t:TA):TI:=λσ H R=>t σ H λvs H1=>∃l1 l2,vs=[.ref l1,.ref l2]∧(∃xs,Sq b1 K H1 l1 xs)∧(∃ys,Sq b2 K H1 l2 ys)∧R (tL K b1 b2 l1 l2) H1
theorem QS(b1 b2:Bool){a b:Expr}{ta:TA}{p pos pt:Pos}{es:List Expr}{kt:Nat}(hg:Gl X "zip")(hm:X.mg "zip"=none)(ha:PA X [a,b] ta)(hs:starEach [a,b] X.env=[(false,eval a X.env),(false,eval b X.env)]:=by rfl)(nY:starEach [b] X.env=[(false,eval b X.env)]:=by rfl) :
  PI X (.Tuple es kt pt) (.Call (.Name "zip" p) [a,b] [] pos) (Iq X.K b1 b2 ta):=by
 intro aI s σ H R I h;refine Call_ (qO I hg hm QR (BE (bj (ha pos aI s σ H _ I h) λus s1 ⟨vs,H1,I1,r1,q1⟩=>?_) (by rw[hs,nY]) (by rw[nY];rfl)));obtain⟨l1,l2,e,⟨xs,kK⟩,⟨ys,gH⟩,q⟩:=q1;subst e;cases r1 with
 |cons r rr=>
  cases rr with
  |cons r' rr=>
   cases rr;cases r;cases r';obtain⟨tM,yG,p1,Il⟩:=I1.sq kK;obtain⟨tN,yH,p2,Im⟩:=I1.sq gH;have a1:l1<s1.heap.objs.size:=by obtain⟨_,e⟩:=p1.obj;exact dG e
   have a2:l2<s1.heap.objs.size:=by obtain⟨_,e⟩:=p2.obj;exact dG e
   refine QK b1 b2 p1 p2 λh' N=>wpAny_pyIter_zip N.zip ?_;refine⟨_,_,_,_,H1,rfl,I1.kept (t':=s1.toks) N.old,QN b1 b2 (z:=s1.heap.objs.size+4) (TI:=s1.heap.objs.size+2) (TO:=s1.heap.objs.size+3) (i1:=s1.heap.objs.size) (i2:=s1.heap.objs.size+1) ⟨?_,gX a1,gX (Nat.lt_succ_of_lt a2)⟩,⟨N.zip,N.QH,⟨_,_,N.out⟩,N.one,N.two⟩,λb hb=>?_,q⟩
   ·exact⟨jq 2 4,jq 3 4,jq 0 4,jq 1 4,jq 2 3,jq 2 0,jq 2 1,jq 3 0,jq 3 1,jq 0 1,⟨tP (jq 4 0) (tO 4 a1),tP (jq 4 1) (tO 4 a2)⟩,⟨tP (jq 3 0) (tO 3 a1),tP (jq 3 1) (tO 3 a2)⟩,tP (jq 1 0) (tO 1 a1),tP (jq 0 1) (tO 0 a2)⟩
   ·have lN:s1.heap.objs.size≤b:=by
     simp only[dS,or_false,List.not_mem_nil]at hb;rcases hb with rfl|rfl|rfl|rfl|rfl
     ·exact oP _ 4
     ·exact oP _ 2
     ·exact oP _ 3
     ·exact ck _
     ·exact oP _ 1
    exact I1.pX lN (I1.bH.fresh lN)
end
theorem aM.sq{K:Frag}(e:aM H H')(h:Sq b K H a xs):Sq b K H' a xs:=by
 cases b with
 |true=>exact e.seq h
 |false=>
  rcases h with h|h
  ·refine .inl ?_;rcases h with h|⟨o,h⟩
   ·exact .inl (e _ _ h)
   ·exact .inr ⟨o,e _ _ h⟩
  ·exact .inr h
theorem aM.bE{K:Frag}(e:aM H H')(h:aZ K H a xs):aZ K H' a xs:=e.sq (b:=false) h
theorem aM.upd{H:Hp}{p:Addr}{o:HO}(h:H p=none):aM H (upd H p o):=λb u e=>by rw[cn (eT e h)];exact e
def jD(K:Frag)(H:Hp)(xs:List V)(Q:VK):Prop:=∀p H',aM H H'→aZ K H' p xs→Q (.ref p) H'
theorem jD.old{K:Frag}{Q:VK}(h:jD K H xs Q)(q:aZ K H p xs):Q (.ref p) H:=h p H (.refl H) q
theorem jD.new{K:Frag}{Q:VK}(h:jD K H xs Q)(n:H p=none):Q (.ref p) (upd H p (.tup xs)):=h p _ (.upd n) (.of aX)
theorem QT:fillsNumberSlot (.type "tuple") "mul"=pure false:=
 PySem.fillsNumberSlot_seq (id := "tuple.__mul__") (r:=some (.builtin "tuple.__rmul__")) F.slot_tuple_mul.lookup (by decide +kernel) F.slot_tuple_rmul.lookup (by decide +kernel)
theorem QU:seqRepeat? (.type "tuple")=pure (some (.builtin "tuple.__mul__")):=by
 unfold seqRepeat?;rw[PySem.seqSlot_of (T := "tuple") (name := "__mul__") (id := "tuple.__mul__") F.slot_tuple_mul.lookup (by decide +kernel),PySem.seqSlot_of (T := "tuple") (name := "__rmul__") (id := "tuple.__rmul__") F.slot_tuple_rmul.lookup (by decide +kernel)];rfl
theorem QW(a:Int)(t:Tok)(l:Addr)(items:Array Value)(n:Nat)(dd:Option Addr)(sl:Array (Option Value)) :
  Meets (Builtin.«int.__rmul__» ⟨[.int a t,.ref l],[]⟩) (λ_ R s=>s.heap.get? l=some { cls:=.type "tuple",dict:=dd,data:=.seq items n,slots:=sl }∧R (.ok (.ret Value.notImplemented)) s):=
 .of_wp λprog w A R s h=>by
  obtain⟨CK,CL,CM,CN,CO⟩:=s;have lO:=h.1;wp_walk
  exact⟨_,rfl,h.2⟩
section
variable{X:Cx}
theorem Ir:∀{ns:List Int}{its:List Value},Vals (ns.map V.int) its→∃ps:List (Int×Tok),its=ps.map (λp=>Value.int p.1 p.2)∧ps.map (·.1)=ns
 | [],_,.nil=>⟨[],rfl,rfl⟩
 |n::ns,_,.cons r rr=>by
  obtain⟨t,rfl⟩:=r;obtain⟨ps,rfl,rfl⟩:=Ir rr;exact⟨(n,t)::ps,rfl,rfl⟩
theorem QX(hc:X.calm=true):g6 X (.builtin "sum") (λxs H Q=>∃p ns,xs=[.ref p]∧cM X.K H p (List.map V.int ns)∧Q (.int ns.sum) H):=by
 intro aI s σ H vs us Q I r h;obtain⟨p,ns,rfl,hq,q⟩:=h;obtain⟨u,rfl,ru⟩:=vals1 r;cases ru;obtain⟨its,rv,pl,hz⟩:=I.list hq;obtain⟨ps,rfl,rfl⟩:=Ir rv;have CP:s.heap.IsList p (intItems ps.toArray):=by
  have z:=pl.isList;rwa[show(ps.map λp=>Value.int p.1 p.2).toArray=intItems ps.toArray by simp[intItems]]at z
 refine sum_intListG (I.ok.hd hc) CP λh' tk t' hk=>⟨.int _,H,I.kept hk,⟨t',?_⟩,q⟩
 have:=preSum_eq ps.toArray ps.toArray.size
 simp only[dm]at this;rw[nQ (Nat.le_of_eq (bz _))]at this;simp[this]
theorem Iu{T:String}:g6 X (.builtin "isinstance") (λxs H Q=>∃x t b,xs=[x,.ty T]∧kz X.K H x t∧kitOne X.K t (.type T)=some b∧Q (.bl b) H):=by
 intro aI s σ H vs us Q I r h;obtain⟨x,t,b,rfl,ty,e,q⟩:=h;obtain⟨u,v,rfl,ru,rv⟩:=vals2 r;cases rv;exact OW I ru ty e λtk=>⟨.bl b,H,I.tok tk,rfl,q⟩
end
mutual
inductive fj(K:Frag)(H:Hp):V→Dat→Prop
 |none:fj K H .cI .none
 |bool (b:Bool):fj K H (.bl b) (.bool b)
 |int (i:Int):fj K H (.int i) (.int i)
 |str (x:Str):fj K H (.str x) (.str x)
 |tuple {a:Addr} {xs:List V} {ds:List Dat}:aZ K H a xs→bG K H xs ds→fj K H (.ref a) (.tuple ds)
 |list {a:Addr} {xs:List V} {ds:List Dat}:cM K H a xs→bG K H xs ds→fj K H (.ref a) (.list ds)
inductive bG(K:Frag)(H:Hp):List V→List Dat→Prop
 |nil:bG K H [] []
 |cons {v:V} {vs:List V} {d:Dat} {ds:List Dat}:fj K H v d→bG K H vs ds→bG K H (v::vs) (d::ds)
end
mutual
theorem fj.mono{K:Frag}{H H':Hp}(e:aM H H'):∀{v:V}{d:Dat},fj K H v d→fj K H' v d
 |_,_,.none=>.none
 |_,_,.bool b=>.bool b
 |_,_,.int i=>.int i
 |_,_,.str x=>.str x
 |_,_,.tuple h r=>.tuple (e.bE h) (bG.mono e r)
 |_,_,.list h r=>.list (e.seq h) (bG.mono e r)
theorem bG.mono{K:Frag}{H H':Hp}(e:aM H H'):∀{vs:List V}{ds:List Dat},bG K H vs ds→bG K H' vs ds
 |_,_,.nil=>.nil
 |_,_,.cons h r=>.cons (fj.mono e h) (bG.mono e r)
end
theorem bG.length{K:Frag}{H:Hp}:∀{vs:List V}{ds:List Dat},bG K H vs ds→vs.length=ds.length
 |_,_,.nil=>rfl
 |_,_,.cons _ r=>by rw[eF,eF,bG.length r]
theorem bG.append{K:Frag}{H:Hp}:∀{vs ws:List V}{ds es:List Dat},bG K H vs ds→bG K H ws es→bG K H (vs++ws) (ds++es)
 |_,_,_,_,.nil,k=>k
 |_,_,_,_,.cons h r,k=>.cons h (bG.append r k)
theorem bG.get{K:Frag}{H:Hp}:∀{vs:List V}{ds:List Dat}{i:Nat}{v:V},bG K H vs ds→vs[i]?=some v→∃d,ds[i]?=some d∧fj K H v d
 |_,_,0,_,.cons h _,e=>by
  have e':_=_:=dj e;subst e';exact⟨_,rfl,h⟩
 |_,_,i+1,v,.cons _ r,e=>bG.get (i:=i) (v:=v) r e
theorem bG.ints{K:Frag}{H:Hp}:∀(ns:List Int),bG K H (ns.map V.int) (ns.map Dat.int)
 | []=>.nil
 |n::ns=>.cons (.int n) (bG.ints ns)
theorem bG.CQ{K:Frag}{H:Hp}:∀{xs:List V}{ns:List Int},bG K H xs (ns.map Dat.int)→xs=ns.map V.int
 |_,[],h=>by cases h;rfl
 |_,n::ns,h=>by
  cases h with
  |cons h r=>
   cases h;rw[bG.CQ r];rfl
mutual
theorem fj.reads{X:Cx}{aI:List (Addr×Obj)}{σ:St}{H:Hp}{s:Shared}(I:Inv X aI σ H s):∀{v:V}{d:Dat}{u:Value},fj X.K H v d→RelV v u→∃as,Reads s.heap u (PySem.W.kqdP d) as
 |_,_,u,.none,r=>by cases(show u=Value.none from r);exact⟨_,.none⟩
 |_,_,u,.bool b,r=>by cases(show u=Value.bool b from r);exact⟨_,.bool b⟩
 |_,_,u,.int i,r=>by obtain⟨t,rfl⟩:=r;exact⟨_,.int i t⟩
 |_,_,u,.str x,r=>by obtain⟨t,rfl⟩:=r;exact⟨_,.str x t⟩
 |_,_,u,.tuple (a:=a) h q,r=>by
  cases(show u=Value.ref a from r)
  obtain⟨its,rv,⟨o,ho,hc,n,hd⟩,_⟩:=I.tuple h;obtain⟨as,z⟩:=bG.reads I q rv;rw[PySem.W.kqdP];exact⟨as,.tuple ho hc hd (by simpa using z)⟩
 |_,_,u,.list (a:=a) h q,r=>by
  cases(show u=Value.ref a from r)
  obtain⟨its,rv,p,_⟩:=I.list h;obtain⟨o,ho,hc,n,hd⟩:=p.isList;obtain⟨as,z⟩:=bG.reads I q rv;rw[PySem.W.kqdP];exact⟨_,.list ho hc hd (by simpa using z)⟩
theorem bG.reads{X:Cx}{aI:List (Addr×Obj)}{σ:St}{H:Hp}{s:Shared}(I:Inv X aI σ H s):∀{vs:List V}{ds:List Dat}{us:List Value},bG X.K H vs ds→Vals vs us→∃as,ReadsAll s.heap us (PySem.W.kqdPs ds) as
 |_,_,_,.nil,.nil=>⟨_,.nil⟩
 |_,_,_,.cons h q,.cons r rr=>by
  obtain⟨as,z⟩:=fj.reads I h r;obtain⟨bs,y⟩:=bG.reads I q rr;rw[PySem.W.kqdPs];exact⟨_,.cons z y⟩
end
section
variable{X:Cx}
open Classical in
def vN(K:Frag)(neg:Bool):R2:=λx y H Q=>∃d e,fj K H x d∧fj K H y e∧kqdOk 8 d=true∧kqdOk 8 e=true∧Q (.bl (if neg then !decide (d=e)else decide (d=e))) H
open Classical in
theorem Iv{d e:Dat}(hd:kqdOk 8 d=true)(he:kqdOk 8 e=true):PyData.eqv (PySem.W.kqdP d) (PySem.W.kqdP e)=decide (d=e):=by
 exact Bool.eq_iff_iff.mpr ((PySem.W.kqd_eqv 8 d e 8 hd he).trans decide_eq_true_iff.symm)
theorem vO{d:Dat}(hd:kqdOk 8 d=true):SeqAt.shaped (PySem.W.kqdP d)=true:=by
 have l:=PySem.W.kqd_lay 8 d hd;unfold SeqAt.shaped;rw[l.1,Bool.true_and];exact aE (ft l.2 (by decide))
theorem QY(hu:X.A.units+64<cLine):eM X (compareOp .Eq) (vN X.K false):=by
 intro aI s σ H x y v u Q I rx ry h;obtain⟨d,e,hx,hy,hd,he,q⟩:=h;obtain⟨as,ra⟩:=hx.reads I rx;obtain⟨bs,rb⟩:=hy.reads I ry;refine eq_dataH ra rb (vO hd) (vO he) hu ?_;rw[Iv hd he];exact⟨.bl _,H,I,rfl,q⟩
end
noncomputable def cG(ns:List Int):Dat:=.tuple (ns.map .int)
theorem QZ(n:Nat)(ns:List Int):kqdOk (n+1) (cG ns)=true:=by
 unfold cG kqdOk;rw[List.all_map];exact qE.mpr λ_ _=>by cases n<;>rfl
theorem Q0(l:Addr)(items:Array Value)(n:Nat)(dd:Option Addr)(sl:Array (Option Value))(u:Tok) :
  Meets (Builtin.«tuple.__mul__» ⟨[.ref l,.int 1 u],[]⟩) (λ_ R s=>s.heap.get? l=some { cls:=.type "tuple",dict:=dd,data:=.seq items n,slots:=sl }∧R (.ok (.ret (.ref l))) s):=
 .of_wp λprog w A R s h=>by
  obtain⟨CK,CL,CM,CN,CO⟩:=s;have lO:=h.1;have f1:=AutoSeq1.idx_int;wp_walk using qF lO
  exact⟨_,rfl,h.2⟩
theorem Q3(l:Addr)(items:Array Value)(n:Nat)(dd:Option Addr)(sl:Array (Option Value))(x:Int)(u:Tok)(hx:x≤0)(Q4:-(2^63)≤x)(dQ:items.isEmpty=false) :
  Meets (Builtin.«tuple.__mul__» ⟨[.ref l,.int x u],[]⟩) (λ_ R s=>s.heap.get? l=some { cls:=.type "tuple",dict:=dd,data:=.seq items n,slots:=sl }∧
   R (.ok (.ret (Value.ref s.heap.objs.size))) { s with heap:=s.heap.push { cls:=Value.type "tuple",data:=Data.seq #[] } }):=
 .of_wp λprog w A R s h=>by
  obtain⟨CK,CL,CM,CN,CO⟩:=s;have lO:=h.1;have f1:=AutoSeq1.idx_int;have c1:(decide (x < -2^63)||decide (x≥2^63))=false:=by simp;lia
  have c2:(items.isEmpty||x==1)=false:=by rw[dQ];simp;lia
  have c3:(decide (x≤0)||items.isEmpty)=true:=by simp[hx]
  wp_walk using qF lO
  refine aF (by rw[c1];rfl) ?_;wp_walk using qF lO
  refine aF (by rw[c2];rfl) ?_;wp_walk using qF lO
  exact⟨_,rfl,h.2⟩
theorem Iw(items:Array Value):∀(k:Nat)(cR:Array Value),(List.foldl (λx1 x2=>x1++x2) cR (List.replicate k items)).size=cR.size+k*items.size
 |0,cR=>by simp
 |k+1,cR=>by rw[nN,List.foldl_cons,Iw items k,Array.size_append,Nat.succ_mul];lia
theorem Q5(l:Addr)(items:Array Value)(n:Nat)(dd:Option Addr)(sl:Array (Option Value))(x:Int)(u:Tok)(hx:2≤x)(Q4:x<2^63)(dQ:items.isEmpty=false)(hz:items.size*x.toNat≤sizeLine) :
  Meets (Builtin.«tuple.__mul__» ⟨[.ref l,.int x u],[]⟩) (λ_ R s=>s.heap.get? l=some { cls:=.type "tuple",dict:=dd,data:=.seq items n,slots:=sl }∧
   R (.ok (.ret (Value.ref s.heap.objs.size))) { s with heap:=s.heap.push { cls:=Value.type "tuple",data:=Data.seq (List.foldl (λx1 x2=>x1++x2) #[] (List.replicate x.toNat items)) } }):=
 .of_wp λprog w A R s h=>by
  obtain⟨CK,CL,CM,CN,CO⟩:=s;have lO:=h.1;have f1:=AutoSeq1.idx_int;have c1:(decide (x < -2^63)||decide (x≥2^63))=false:=by simp;lia
  have c2:(items.isEmpty||x==1)=false:=by rw[dQ];simp;lia
  have c3:(decide (x≤0)||items.isEmpty)=false:=by rw[dQ];simp;lia
  have e:(items.size:Int)*x=((items.size*x.toNat:Nat):Int):=by
   rw[Int.natCast_mul];congr 1;lia
  have o9:(sizeLine:Nat)≤(2^63-1)/8:=by decide
  have c4:decide ((items.size:Int)*x>(2^63-1)/8)=false:=by rw[e];simp only[decide_eq_false_iff_not];lia
  have c5:Builtin.Tuple.tupleTooMany ((items.size:Int)*x)=false:=by rw[e];unfold Builtin.Tuple.tupleTooMany;simp only[decide_eq_false_iff_not];lia
  have c6:(List.foldl (λx1 x2=>x1++x2) #[] (List.replicate x.toNat items)).size≤sizeLine:=by rw[Iw,Array.size_empty,Nat.zero_add,Nat.mul_comm];exact hz
  wp_walk using qF lO
  refine aF (by rw[c1];rfl) ?_;wp_walk using qF lO
  refine aF (by rw[c2];rfl) ?_;wp_walk using qF lO
  refine aF (by rw[c3];rfl) ?_;wp_walk
  refine aF c4 ?_;wp_walk
  refine aF (by rw[c5];rfl) ?_;wp_walk
  exact⟨_,rfl,h.2⟩
def yI(K:Frag):R2:=λx y H Q=>∃a k xs,x=.ref a∧y=.int k∧aZ K H a xs∧xs≠[]∧-(2^63)≤k∧k<2^63∧xs.length*k.toNat≤sizeLine∧jD K H (List.replicate k.toNat xs).flatten Q
theorem Q6{X:Cx}:eM X (binaryOp .Mult) (yI X.K):=by
 intro aI s σ H x y v u Q I rx ry h;obtain⟨l,k,xs,rfl,rfl,hH,dQ,h1,h2,hz,q⟩:=h;cases rx;obtain⟨t,rfl⟩:=ry;obtain⟨its,r,ht,_⟩:=I.tuple hH;obtain⟨⟨cls,dd,data,sl⟩,ho,hc,n,hd⟩:=id ht;simp only at hc hd;subst hc hd;have hi:its.toArray.isEmpty=false:=by
  have:its≠[]:=λz=>dQ (r.ym.mp z)
  cases its with
  |nil=>exact absurd rfl this
  |cons a b=>rfl
 have cA:its.toArray.size*k.toNat≤sizeLine:=by rw[dm,← r.length];exact hz
 have f0:∀m:Nat,List.foldl (λx1 x2=>x1++x2) #[] (List.replicate m its.toArray)=(List.replicate m its).flatten.toArray:=λm=>by
  have:=foldl_rep its m []
  rw[List.nil_append]at this;exact this
 refine wpAny_binaryOp_repeat_ref (T := "tuple") (U := "int") (by decide) ⟨_,ho,rfl⟩ (λs'=>typeIs_int s' k t) QT F.fills_int_mul F.slot_int_rmul QU F.slot_int_index.lookup
  (aD F.slot_int_rmul (typeIs_int s k t) F.entry_int_rmul (F.args_int_rmul_2 _ _) (QW k t l its.toArray n dd sl) ⟨ho,rfl,⟨_,ho,rfl⟩,?_⟩)
 by_cases Q7:k=1
 ·subst Q7;refine aD F.slot_tuple_mul ⟨_,ho,rfl⟩ F.entry_tuple_mul (F.args_tuple_mul_2 _ _) (Q0 l its.toArray n dd sl t) ⟨ho,?_⟩;exact⟨.ref l,H,I,rfl,q.old (by simpa using hH)⟩
 ·by_cases CS:k≤0
  ·refine aD F.slot_tuple_mul ⟨_,ho,rfl⟩ F.entry_tuple_mul (F.args_tuple_mul_2 _ _) (Q3 l its.toArray n dd sl k t CS h1 hi) ⟨ho,?_⟩;have e:k.toNat=0:=by lia
   rw[e]at q;exact⟨.ref _,_,I.laid (t':=s.toks) (o:=.tup []) (λb ob q=>dH _ q) (ck _) ⟨mi _,[],.nil,nR.new _ _⟩,rfl,q.new I.fresh⟩
  ·refine aD F.slot_tuple_mul ⟨_,ho,rfl⟩ F.entry_tuple_mul (F.args_tuple_mul_2 _ _) (Q5 l its.toArray n dd sl k t (by lia) h2 hi cA) ⟨ho,?_⟩;rw[f0];exact⟨.ref _,_,I.laid (t':=s.toks) (o:=.tup (List.replicate k.toNat xs).flatten) (λb ob q=>dH _ q) (ck _) ⟨by rw[Hm,Nat.mul_comm];exact hz,_,r.rep k.toNat,nR.new _ _⟩,rfl,q.new I.fresh⟩
noncomputable def Iy(oN:List Str)(p4:Scope)(N:List Str)(own:Nat)(caps:List Nat)(scope:Scope):Bool:=
 decide (scope.kind=.function)&&decide N.Nodup&&decide (scope.names.map (·.1)).Nodup &&
 scope.names.all (λx=>x.2 != .free||(decide (p4.names.lookup x.1=some .cell)||decide (p4.names.lookup x.1=some .free))) &&
 decide (N.length=own+caps.length)&&decide (caps.map (λi=>oN[i]?)=(N.drop own).map some)&&(N.drop own).all (λx=>decide (scope.names.lookup x=some .free))
theorem du.mk'{oN:List Str}{p4:Scope}{N:List Str}{own:Nat}{caps:List Nat}{scope:Scope}(h:Iy oN p4 N own caps scope=true):du oN p4 N own caps scope:=by
 unfold Iy at h;simp only[gP,aG,qE,Bool.or_eq_true,bne_iff_ne,ne_eq]at h;obtain⟨⟨⟨⟨⟨⟨h1,h2⟩,h3⟩,h4⟩,h5⟩,h6⟩,h7⟩:=h;exact⟨h1,h2,h3,λx hx hk=>(h4 x hx).elim (λz=>absurd hk z) id,h5,h6,h7⟩
def kc(n:Nat)(cp:St)(H1:Hp)(P:Hp→List V→Prop):St→Hp→List V→Prop:=λσ H zs=>(∃o:St,o.length=n∧σ=o++cp)∧aM H1 H∧P H zs
section
variable{K:Frag}{H1:Hp}{cp:St}{g:TG}{tt:TT}{te:TE}{Q:VK}{xs ys:List V}{l1 l2 a:Addr}{b1 b2 b:Bool}{n own:Nat}{J:It}
theorem vP(Pv:Nat→Hp→List V→Prop)(hn:n≤sizeLine)(h0:Pv 0 H1 [])(cA:∀i H zs,Pv i H zs→zs.length≤i)
  (Q8:∀i H,aM H1 H→i<n→J.go i H) (Q9:∀H,aM H1 H→J.stop n H)
  (step:∀i o H zs,i<n→o.length=own→aM H1 H→Pv i H zs→∀x H2,J.oZ i H x H2→g x (o++cp) H2 λσ3 H3=>tt σ3 H3 λc H4=>if c=true then te σ3 H4 λv H5=>kc own cp H1 (Pv (i+1)) σ3 H5 (zs++[v])else kc own cp H1 (Pv (i+1)) σ3 H4 zs)
  (done:∀H zs,aM H1 H→Pv n H zs→∀p,H p=none→Q (.ref p) (upd H p (.lst zs))) :
  ∃W:Nat→Nat→St→Hp→List V→Prop,(∃m,W 0 m (List.replicate own none++cp) H1 [])∧jo J g tt te Q W:=by
 refine⟨λi m σ H zs=>m=n-i∧i≤n∧kc own cp H1 (Pv i) σ H zs,⟨n,by simp,mi _,⟨_,by simp,rfl⟩,.refl _,h0⟩,?_⟩;rintro i m σ H zs ⟨rfl,hi,⟨o,ho,rfl⟩,sm,pv⟩;have hl:=cA _ _ _ pv;by_cases cN:i<n
 ·exact .inr ⟨Q8 i H sm cN,by lia,kc own cp H1 (Pv (i+1)),λσ2 H2 Ra q=>⟨n-(i+1),by lia,rfl,cN,q⟩,step i o H zs cN ho sm pv⟩
 ·have e:i=n:=by lia
  subst e;exact .inl ⟨Q9 H sm,by lia,done H zs sm pv⟩
theorem yJ{o:St}(h:o.length=1):∃x,o=[x]:=by
 match o,h with
 | [x],_=>exact⟨x,rfl⟩
theorem Rb{o:St}(h:o.length=2):∃x y,o=[x,y]:=by
 match o,h with
 | [x,y],_=>exact⟨x,y,rfl⟩
theorem p8(Pv:Nat→Hp→List V→Prop)(hq:cM K H1 a xs)(hz:xs.length≤sizeLine)(h0:Pv 0 H1 [])(cA:∀i H zs,Pv i H zs→zs.length≤i)
  (step:∀i x H zs,xs[i]?=some x→aM H1 H→Pv i H zs→tt (some x::cp) H λc H4=>if c=true then te (some x::cp) H4 λv H5=>kc 1 cp H1 (Pv (i+1)) (some x::cp) H5 (zs++[v])else kc 1 cp H1 (Pv (i+1)) (some x::cp) H4 zs)
  (done:∀H zs,aM H1 H→Pv xs.length H zs→∀p,H p=none→Q (.ref p) (upd H p (.lst zs))) :
  ∃W:Nat→Nat→St→Hp→List V→Prop,(∃m,W 0 m (List.replicate 1 none++cp) H1 [])∧jo (mE K a) (bq 0) tt te Q W:=by
 refine vP (n:=xs.length) Pv hz h0 cA (λi H sm hi=>⟨xs,xs[i],sm.seq hq,by simp[hi]⟩) (λH sm=>⟨xs,sm.seq hq,ck _⟩) (λi o H zs hi ho sm pv x H2 y=>?_) done;obtain⟨w,rfl⟩:=yJ ho;obtain⟨rfl,y⟩:=y;exact step i x _ zs (y xs (sm.seq hq)) sm pv
theorem vQ(Pv:Nat→Hp→List V→Prop)(hq:aZ K H1 a xs)(hz:xs.length≤sizeLine)(h0:Pv 0 H1 [])(cA:∀i H zs,Pv i H zs→zs.length≤i)
  (step:∀i x H zs,xs[i]?=some x→aM H1 H→Pv i H zs→tt (some x::cp) H λc H4=>if c=true then te (some x::cp) H4 λv H5=>kc 1 cp H1 (Pv (i+1)) (some x::cp) H5 (zs++[v])else kc 1 cp H1 (Pv (i+1)) (some x::cp) H4 zs)
  (done:∀H zs,aM H1 H→Pv xs.length H zs→∀p,H p=none→Q (.ref p) (upd H p (.lst zs))) :
  ∃W:Nat→Nat→St→Hp→List V→Prop,(∃m,W 0 m (List.replicate 1 none++cp) H1 [])∧jo (nV K a) (bq 0) tt te Q W:=by
 refine vP (n:=xs.length) Pv hz h0 cA (λi H sm hi=>⟨xs,xs[i],sm.bE hq,by simp[hi]⟩) (λH sm=>⟨xs,sm.bE hq,ck _⟩) (λi o H zs hi ho sm pv x H2 y=>?_) done;obtain⟨w,rfl⟩:=yJ ho;obtain⟨rfl,y⟩:=y;exact step i x _ zs (y xs (sm.bE hq)) sm pv
theorem yM{lo:Int}(Pv:Nat→Hp→List V→Prop)(hz:n≤sizeLine)(h0:Pv 0 H1 [])(cA:∀i H zs,Pv i H zs→zs.length≤i)
  (step:∀i H zs,i<n→aM H1 H→Pv i H zs→tt (some (.int (lo+(i:Nat)))::cp) H λc H4=>if c=true then te (some (.int (lo+(i:Nat)))::cp) H4 λv H5=>kc 1 cp H1 (Pv (i+1)) (some (.int (lo+(i:Nat)))::cp) H5 (zs++[v])else kc 1 cp H1 (Pv (i+1)) (some (.int (lo+(i:Nat)))::cp) H4 zs)
  (done:∀H zs,aM H1 H→Pv n H zs→∀p,H p=none→Q (.ref p) (upd H p (.lst zs))) :
  ∃W:Nat→Nat→St→Hp→List V→Prop,(∃m,W 0 m (List.replicate 1 none++cp) H1 [])∧jo (o7 lo n) (bq 0) tt te Q W:=by
 refine vP (n:=n) Pv hz h0 cA (λi H sm hi=>hi) (λH sm=>ck _) (λi o H zs hi ho sm pv x H2 y=>?_) done;obtain⟨w,rfl⟩:=yJ ho;obtain⟨rfl,rfl⟩:=y;exact step i _ zs hi sm pv
abbrev CT(K:Frag)(i j:Nat):TG:=qS K 2 (iY (bq i) (iY (bq j) sW))
theorem Iz{p:Addr}{x y:V}{i j:Nat}{σ:St}{H:Hp}{R:St→Hp→Prop}(h:aZ K H p [x,y])(q:R ((σ.set i (some x)).set j (some y)) H):CT K i j (.ref p) σ H R:=
 ⟨p,[x,y],rfl,h,rfl,x,[y],rfl,y,[],rfl,rfl,q⟩
theorem Rc(Pv:Nat→Hp→List V→Prop)(kK:Sq b1 K H1 l1 xs)(gH:Sq b2 K H1 l2 ys)(hl:xs.length=ys.length)(hz:xs.length≤sizeLine)(h0:Pv 0 H1 [])(cA:∀i H zs,Pv i H zs→zs.length≤i)(mono:∀i H H' zs,aM H H'→Pv i H zs→Pv i H' zs)
  (step:∀i x y H zs,xs[i]?=some x→ys[i]?=some y→aM H1 H→Pv i H zs→tt (some x::some y::cp) H λc H4=>if c=true then te (some x::some y::cp) H4 λv H5=>kc 2 cp H1 (Pv (i+1)) (some x::some y::cp) H5 (zs++[v])else kc 2 cp H1 (Pv (i+1)) (some x::some y::cp) H4 zs)
  (done:∀H zs,aM H1 H→Pv xs.length H zs→∀p,H p=none→Q (.ref p) (upd H p (.lst zs))) :
  ∃W:Nat→Nat→St→Hp→List V→Prop,(∃m,W 0 m (List.replicate 2 none++cp) H1 [])∧jo (tL K b1 b2 l1 l2) (CT K 0 1) tt te Q W:=by
 refine vP (n:=xs.length) Pv hz h0 cA (λi H sm hi=>⟨xs,ys,xs[i],ys[i],sm.sq kK,sm.sq gH,by simp[hi],by simp[hl▸hi]⟩) (λH sm=>⟨xs,ys,sm.sq kK,sm.sq gH,.inl rfl⟩) (λi o H zs hi ho sm pv v H2 yl=>?_) done;obtain⟨w1,w2,rfl⟩:=Rb ho;obtain⟨p,x,y,rfl,hp,rfl,hx,hy⟩:=yl;refine Iz (.of aX) ?_;have s2:aM H (upd H p (.tup [x,y])):=.upd hp;exact step i x y _ zs (hx xs (sm.sq kK)) (hy ys (sm.sq gH)) (sm.trans s2) (mono _ _ _ _ s2 pv)
end
section
variable{K:Frag}{a l1 l2:Addr}{xs ys:List V}{b b1 b2:Bool}{tb:TS}{D:Ends}{σ:St}{H:Hp}{i j:Nat}
theorem Rf(Pv:Nat→St→Hp→Prop)(hl:xs.length=ys.length)(h0:Pv 0 σ H)(hq:∀k σ H,Pv k σ H→Sq b1 K H l1 xs∧Sq b2 K H l2 ys)(mono:∀k σ H H',aM H H'→Pv k σ H→Pv k σ H')
  (hs:∀k x y σ H,xs[k]?=some x→ys[k]?=some y→Pv k σ H→tb { D with nx:=Pv (k+1),ct:=Pv (k+1),bk:=D.nx } ((σ.set i (some x)).set j (some y)) H) (hd:∀σ H,Pv xs.length σ H→D.nx σ H) :
  ∃W:Nat→Nat→St→Hp→Prop,(∃m,W 0 m σ H)∧∀k m σ H,W k m σ H→
   ((tL K b1 b2 l1 l2).stop k H∧D.nx σ H)∨((tL K b1 b2 l1 l2).go k H∧∃N:St→Hp→Prop,(∀σ' H',N σ' H'→∃m',m'<m∧W (k+1) m' σ' H')∧∀x H',(tL K b1 b2 l1 l2).oZ k H x H'→CT K i j x σ H' λσ2 H2=>tb { D with nx:=N,ct:=N,bk:=D.nx } σ2 H2):=by
 refine⟨λk m σ H=>m=xs.length-k∧k≤xs.length∧Pv k σ H,⟨xs.length,by simp,mi _,h0⟩,?_⟩;rintro k m σ H ⟨rfl,hk,p⟩;obtain⟨q1,q2⟩:=hq k σ H p;by_cases cN:k<xs.length
 ·refine .inr ⟨⟨xs,ys,xs[k],ys[k],q1,q2,by simp[cN],by simp[hl▸cN]⟩,Pv (k+1),λσ' H' p'=>⟨xs.length-(k+1),by lia,rfl,cN,p'⟩,λv H' yl=>?_⟩;obtain⟨pp,x,y,rfl,hp,rfl,hx,hy⟩:=yl;exact Iz (.of aX) (hs k x y σ _ (hx xs q1) (hy ys q2) (mono _ _ _ _ (.upd hp) p))
 ·have e:k=xs.length:=by lia
  subst e;exact .inl ⟨⟨xs,ys,q1,q2,.inl rfl⟩,hd σ H p⟩
end
theorem IA(K:Frag):kitOne K (.type "int") (.type "int")=some true:=by kernel_rfl
theorem Rg(K:Frag):kitOne K (.type "int") (.type "bool")=some false:=by kernel_rfl
theorem IC(K:Frag):kitOne K (.type "tuple") (.type "tuple")=some true:=by kernel_rfl
theorem Rh(K:Frag):kitOne K (.type "str") (.type "int")=some false:=by kernel_rfl
section
variable{X:Cx}
theorem Ri{T:String}:g6 X (.builtin "isinstance") (λxs H Q=>∃a ys b,xs=[.ref a,.ty T]∧aZ X.K H a ys∧kitOne X.K (.type "tuple") (.type T)=some b∧Q (.bl b) H):=by
 intro aI s σ H vs us Q I r h;obtain⟨a,ys,b,rfl,hq,e,q⟩:=h;obtain⟨u,v,rfl,ru,rv⟩:=vals2 r;cases ru;cases rv;obtain⟨its,rr,⟨o,h1,h2,_⟩,_⟩:=I.tuple hq;exact nL PySem.W.kitx_tuple I.ff ⟨o,h1,h2⟩ e (λz=>nomatch z) λtk=>⟨.bl b,H,I.tok tk,rfl,q⟩
theorem Rj{T:String}:g6 X (.builtin "isinstance") (λxs H Q=>∃i b,xs=[.int i,.ty T]∧kitOne X.K (.type "int") (.type T)=some b∧Q (.bl b) H):=by
 intro aI s σ H vs us Q I r h;obtain⟨i,b,rfl,e,q⟩:=h;exact Iu aI s σ H _ us Q I r ⟨.int i,_,b,rfl,.int i,e,q⟩
end
theorem Rk(n:String):RelV (.ty n) (.type n):=rfl
theorem vR{X:Cx}{x:Str}{T:String}{pos:Pos}(hg:Gl X x)(hm:X.mg x=none)(hv:bootBuiltins x=some (.type T))(hn:x ≠ "__name__":=by decide)(hd:(x==("__debug__":Str))=false:=by decide):PE X (.Name x pos) (tC (.ty T)):=Oi hg hm hv (Rk T) hn hd
theorem ID{K:Frag}{H:Hp}{x:V}{r:List Int}(h:fj K H x (cG r)):∃a,x=.ref a∧aZ K H a (r.map V.int):=by
 unfold cG at h;cases h with
 |tuple hq ha=>exact⟨_,rfl,by rw[← ha.CQ];exact hq⟩
theorem jE{K:Frag}{H:Hp}{a:Addr}{r:List Int}(h:aZ K H a (r.map V.int)):fj K H (.ref a) (cG r):=.tuple h (bG.ints r)
theorem aM.write{H H':Hp}{l:Addr}{o:HO}(sm:aM H H')(h:H l=none):aM H (L2.upd H' l o):=λb u e=>by rw[cn (eT e h)];exact sm b u e
theorem Rl(n:Nat)(rs:LL):(rs.map cG).all (kqdOk (n+1))=true:=by
 rw[List.all_map];exact qE.mpr λr _=>QZ n r
section
variable{X:Cx}(K:Frag)(hK:X.K=K)
include hK
theorem e7:vE X (n5 K):=hK▸O9
theorem cJ:vE X (kH K):=hK▸Pa
theorem CU:q5 X (yp K):=hK▸Pg
theorem jF:g6 X (.builtin "len") (λxs H Q=>∃p ys,xs=[.ref p]∧(cM K H p ys∨aZ K H p ys)∧Q (.int ys.length) H):=hK▸Pk
theorem CV:g6 X (.type "list") (λxs H Q=>∃p ys,xs=[.ref p]∧(cM K H p ys∨aZ K H p ys)∧∀l,H l=none→Q (.ref l) (upd H l (.lst ys))):=hK▸Pl
theorem ph:g6 X (.type "tuple") (λxs H Q=>∃p ys,xs=[.ref p]∧((cM K H p ys∧∀l,H l=none→Q (.ref l) (upd H l (.tup ys)))∨(aZ K H p ys∧Q (.ref p) H))):=hK▸Pm
theorem IE{T:String}:g6 X (.builtin "isinstance") (λxs H Q=>∃a ys b,xs=[.ref a,.ty T]∧aZ K H a ys∧kitOne K (.type "tuple") (.type T)=some b∧Q (.bl b) H):=hK▸Ri
theorem IF{T:String}:g6 X (.builtin "isinstance") (λxs H Q=>∃i b,xs=[.int i,.ty T]∧kitOne K (.type "int") (.type T)=some b∧Q (.bl b) H):=hK▸Rj
theorem Rm(hc:X.calm=true):g6 X (.builtin "sum") (λxs H Q=>∃p ns,xs=[.ref p]∧cM K H p (List.map V.int ns)∧Q (.int ns.sum) H):=hK▸QX hc
theorem yN(hu:X.A.units+64<cLine):eM X (compareOp .Eq) (vN K false):=hK▸QY hu
theorem lP:eM X (binaryOp .Mult) (yI K):=hK▸Q6
theorem IG:eM X (compareOp .In) (Cd K false):=hK▸Pj
theorem ja{tg l:Expr}{tl:TE}(hl:PE X l tl):PI X tg l (mH K tl):=hK▸OE hl
theorem lQ{tg l:Expr}{tl:TE}(hl:PE X l tl):PI X tg l (nW K tl):=hK▸OF hl
theorem IH(b1 b2:Bool){a b:Expr}{ta:TA}{p pos pt:Pos}{es:List Expr}{kt:Nat}(hg:Gl X "zip")(hm:X.mg "zip"=none)(ha:PA X [a,b] ta)(hs:starEach [a,b] X.env=[(false,eval a X.env),(false,eval b X.env)]:=by rfl)(nY:starEach [b] X.env=[(false,eval b X.env)]:=by rfl) :
  PI X (.Tuple es kt pt) (.Call (.Name "zip" p) [a,b] [] pos) (Iq K b1 b2 ta):=hK▸QS b1 b2 hg hm ha hs nY
theorem pj{es:List Expr}{k:Nat}{t:pW}{n:Nat}{pos:Pos}(hc:X.calm=true)(h:vy X es t)
  (hn:(assignEach es X.env).length=n:=by rfl) (BV:(assignEach es X.env).findIdx? (·.1)=none:=by rfl):PG X (.Tuple es k pos) (qS K n t):=hK▸Oy hc h hn BV
end
theorem mZ:bootBuiltins "tuple"=some (.type "tuple"):=by decide +kernel
theorem CW:bootBuiltins "list"=some (.type "list"):=by decide +kernel
theorem yO:bootBuiltins "int"=some (.type "int"):=by decide +kernel
theorem Rn:bootBuiltins "bool"=some (.type "bool"):=by decide +kernel
theorem vS:bootBuiltins "isinstance"=some (.builtin "isinstance"):=by decide +kernel
theorem Ro:bootBuiltins "sum"=some (.builtin "sum"):=by decide +kernel
theorem jG:bootBuiltins "len"=some (.builtin "len"):=by decide +kernel
theorem kN{σ:St}{H:Hp}{Y N:Hp→Prop}(h:Y H):i8 σ H (λc H4=>if c=true then Y H4 else N H4):=by
 show if true=true then Y H else N H
 exact i7 h
end L2
namespace L2
open PySem
end L2
namespace L2
open PySem PySem.Spec PyProof.Rows
variable{X:Cx}
section
variable{X:Cx}{pos:Pos}
end
theorem II(l b:Addr)(its rf:Array Value)(n n2:Nat)(dd ya:Option Addr)(sl yd:Array (Option Value))(he:its.isEmpty=true) :
  Meets (Builtin.«tuple.__add__» ⟨[.ref l,.ref b],[]⟩) (λ_ R s=>s.heap.get? l=some { cls:=.type "tuple",dict:=dd,data:=.seq its n,slots:=sl }∧s.heap.get? b=some { cls:=.type "tuple",dict:=ya,data:=.seq rf n2,slots:=yd }∧R (.ok (.ret (.ref b))) s):=
 .of_wp λ_ _ _ _ s h=>by
  obtain⟨hpA,gA,dA,tkA,osA⟩:=s;have lO:=h.1;have Rp:=h.2.1;have f2:=AutoSeq1.sub_tuple_tuple;wp_walk using qF lO,qF Rp
  exact⟨_,rfl,h.2.2⟩
def yQ(K:Frag):R2:=λx y H Q=>∃a b xs ys,x=.ref a∧y=.ref b∧aZ K H a xs∧aZ K H b ys∧xs.length+ys.length≤sizeLine∧jD K H (xs++ys) Q
theorem Rq:eM X (binaryOp .Add) (yQ X.K):=by
 rintro aI s σ H x y v u Q I rx ry ⟨a,b,xs,ys,rfl,rfl,ha,hb,hz,q⟩;by_cases hx:xs=[]
 ·subst hx;cases rx;cases ry;obtain⟨its,r1,⟨⟨c1,d1,t1,s1⟩,o1,e1,n1,f1⟩,_⟩:=I.tuple ha;obtain⟨rf,r2,⟨⟨c2,d2,t2,s2⟩,o2,e2,n2,f2⟩,_⟩:=I.tuple hb;simp only at e1 f1 e2 f2;subst e1 f1 e2 f2;cases r1;refine concat_meets ⟨_,o1,rfl⟩ ⟨_,o2,rfl⟩ noFill_tuple_add seq_tuple_add PySem.F.slot_tuple_add PySem.F.entry_tuple_add (PySem.F.args_tuple_add_2 _ _) (II a b _ _ _ _ d1 d2 s1 s2 rfl) ⟨o1,o2,?_⟩;exact⟨.ref b,H,I,rfl,q.old hb⟩
 ·refine Ha aI s σ H _ _ v u Q I rx ry ⟨a,b,xs,ys,rfl,rfl,ha,hb,hx,hz,λhy=>?_,λ_ p hp=>q.new hp⟩;subst hy;exact q.old (by rw[gY];exact ha)
theorem dY(K:Frag)(hK:X.K=K):eM X (binaryOp .Add) (yQ K):=hK▸Rq
theorem Rr(K:Frag)(hK:X.K=K):q5 X (yk K):=hK▸G9
theorem Rt(d:Bool)(bs:List Bool):(List.range bs.length).map (λi=>(bs[i]?).getD d)=bs:=by
 apply List.ext_getElem
 ·simp
 ·intro i h1 h2;simp[cE h2]
theorem Ru(bs:List Bool):((List.range bs.length).any λi=>(bs[i]?).getD false)=bs.any id:=by
 have e:=ao (λl=>List.any l id) (Rt false bs);rw[← e];simp only[List.any_map];rfl
section
variable{X:Cx}
theorem Rv:bootBuiltins "any"=some (.builtin "any"):=by decide +kernel
end
end L2
namespace Bw
variable{D L:LL}{f:Nat→Int}{h o:List Int}{j place:Nat}{ls:List Nat}{p:Int}{u v:Fn}
noncomputable def c7:List Int:=[2,3,5,7,11,13,17,19,23,29,31,37,41,43,47,53,59,61,67,71,73,79,83,89,97]
noncomputable def rk(p n:Int):Nat→Int
 |0=>1
 |k+1=>rk p n k*n%p
noncomputable def dM(p n:Int):Int:=rk p n (p-2).toNat
noncomputable def IJ(p n:Int):Bool:=decide (1≤dM p n)&&decide (dM p n<p)&&decide (dM p n*n%p=1)
theorem Rx:(c7.all λp=>(List.range p.toNat).all λn=>n==0||IJ p n)=true:=by decide +kernel
theorem gI:∀p∈c7,2≤p∧p≤97:=by decide +kernel
theorem vT{n:Int}(hp:p∈c7)(h1:1≤n)(h2:n<p):1≤dM p n∧dM p n<p∧dM p n*n%p=1:=by
 have h:=qE.mp Rx p hp;have h':=qE.mp h n.toNat (nK.mpr (by lia));have en:((n.toNat:Nat):Int)=n:=by lia
 have n0:(n.toNat==0)=false:=by simp;lia
 rw[n0,Bool.false_or,en]at h';unfold IJ at h';simp only[aG,gP]at h';exact⟨h'.1.1,h'.1.2,h'.2⟩
theorem Ry{n:Int}(hp:2≤p):∀k,0≤rk p n k∧rk p n k<p
 |0=>by unfold rk;lia
 |k+1=>by
  unfold rk;exact⟨jR _ (by lia),jS _ (by lia)⟩
noncomputable def fk(p:Int)(row:List Int)(f:Int)(other:List Int):List Int:=List.zipWith (λa b=>(a+f*b)%p) row other
noncomputable def jr(p:Int):List (List Int×Int)→List Int→List Int
 | [],t=>t
 |(r,f)::L,t=>jr p L (fk p t f r)
noncomputable def rl(L:List (List Int×Int))(j:Nat):Int:=(L.map λq=>q.1.getD j 0*q.2).sum
theorem Rz(r:List Int)(f:Int)(L:List (List Int×Int))(j:Nat):rl ((r,f)::L) j=r.getD j 0*f+rl L j:=by simp[rl]
theorem RA{f:Int}{n:Nat}{r:List Int}(c:Nat→Int)(hr:r.length=n):fk p ((List.range n).map λj=>c j%p) f r=(List.range n).map λj=>(c j+r.getD j 0*f)%p:=by
 apply List.ext_getElem
 ·simp[fk,hr]
 ·intro i h1 h2;have hi:i<r.length:=by simp[fk,hr]at h1;lia
  simp only[fk,List.getElem_zipWith,List.getElem_map,List.getElem_range];rw[cF,cE hi,Option.getD_some,mj f,Int.emod_add_emod]
theorem IK{p:Int}{n:Nat}:∀(L:List (List Int×Int))(c:Nat→Int),(∀q∈L,q.1.length=n)→jr p L ((List.range n).map λj=>c j%p)=(List.range n).map λj=>(c j+rl L j)%p
 | [],c,_=>by simp[jr,rl]
 |(r,f)::L,c,h=>by
  rw[jr,RA c (h (r,f) cZ),IK L (λj=>c j+r.getD j 0*f) λq hq=>h q (fu _ hq)];apply List.map_congr_left;intro j _;rw[Rz,Int.add_assoc]
theorem IM{n:Nat}(L:List (List Int×Int))(h:∀q∈L,q.1.length=n):jr p L (List.replicate n 0)=(List.range n).map λj=>rl L j%p:=by
 have e:List.replicate n (0:Int)=(List.range n).map λj=>(λ_=>(0:Int)) j%p:=by
  apply List.ext_getElem
  ·simp
  ·intro i _ _;simp
 rw[e,IK L (λ_=>0) h];apply List.map_congr_left;intro j _;rw[oQ]
abbrev Fn:=Nat→Int
def dR(p:Int)(u v:Fn):Prop:=∀j,p∣u j-v j
theorem n9(p a:Int):p∣a%p-a:=⟨-(a/p),by
 have:=Int.emod_add_mul_ediv a p
 rw[Int.mul_neg];lia⟩
theorem dR.refl(p:Int)(u:Fn):dR p u u:=λj=>⟨0,by lia⟩
theorem dR.symm(h:dR p u v):dR p v u:=λj=>by
 have:=Int.dvd_neg.mpr (h j)
 rwa[show -(u j-v j)=v j-u j by lia]at this
theorem dR.trans{w:Fn}(h:dR p u v)(k:dR p v w):dR p u w:=λj=>by
 have:=oR (h j) (k j)
 rwa[show u j-v j+(v j-w j)=u j-w j by lia]at this
inductive Sp(p:Int)(R:Fn→Prop):Fn→Prop
 |zero:Sp p R (λ_=>0)
 |add {v r:Fn} (c:Int):Sp p R v→R r→Sp p R (λj=>v j+c*r j)
 |cD {u v:Fn}:Sp p R v→dR p v u→Sp p R u
section
variable{p:Int}{R R':Fn→Prop}
theorem Sp.of_eq(h:Sp p R v)(e:∀j,v j=u j):Sp p R u:=.cD h λj=>⟨0,by rw[e j];lia⟩
theorem Sp.mem{r:Fn}(h:R r):Sp p R r:=(Sp.add 1 .zero h).of_eq λj=>by lia
theorem Sp.plus(c:Int)(hu:Sp p R u)(hv:Sp p R v):Sp p R (λj=>u j+c*v j):=by
 induction hv with
 |zero=>exact hu.of_eq λj=>by simp
 | @add v r d _ hr ih=>exact(Sp.add (c*d) ih hr).of_eq λj=>by rw[Int.mul_add,← Int.add_assoc,Int.mul_assoc]
 | @cD w v _ e ih=>
  refine .cD ih λj=>?_
  have:p∣c*(v j-w j):=vd (e j)
  rw[Int.mul_sub]at this;rwa[show u j+c*v j-(u j+c*w j)=c*v j-c*w j by lia]
theorem Sp.trans(h:∀r,R r→Sp p R' r)(hv:Sp p R v):Sp p R' v:=by
 induction hv with
 |zero=>exact .zero
 |add c _ hr ih=>exact ih.plus c (h _ hr)
 |cD _ e ih=>exact .cD ih e
end
noncomputable def fn(r:List Int):Fn:=λj=>r.getD j 0
def RS(L:LL):Fn→Prop:=λf=>∃r∈L,f=fn r
def Rw(p:Int)(n:Nat)(r:List Int):Prop:=r.length=n∧∀x∈r,0≤x∧x<p
def cj(p:Int)(n:Nat)(L:LL):Prop:=∀r∈L,Rw p n r
theorem Rw.at{n:Nat}{r:List Int}(hp:0<p)(h:Rw p n r)(j:Nat):0≤r.getD j 0∧r.getD j 0<p:=by
 rw[cF (i:=j)];by_cases hj:j<r.length
 ·rw[cE hj];exact h.2 _ (jh hj)
 ·rw[iV (by lia)];exact⟨Int.le_refl 0,hp⟩
theorem Rw.out{n:Nat}{r:List Int}(h:Rw p n r)(hj:n≤j):r.getD j 0=0:=by
 rw[cF,iV (by rw[h.1];exact hj)];rfl
theorem IP{a b:Int}(h:p∣a-b)(a0:0≤a)(a1:a<p)(b0:0≤b)(b1:b<p):a=b:=by
 obtain⟨c,hc⟩:=h
 have:c=0:=by
  rcases Int.lt_trichotomy c 0 with h|h|h
  ·have:=FP (show c≤-1 by lia) (show 0≤p by lia)
   lia
  ·exact h
  ·have:=FP (show 1≤c by lia) (show 0≤p by lia)
   lia
 rw[this]at hc;lia
theorem Rw.ext{n:Nat}{r s:List Int}(hp:0<p)(hr:Rw p n r)(hs:Rw p n s)(h:∀j,p∣r.getD j 0-s.getD j 0):r=s:=by
 apply List.ext_getElem (by rw[hr.1,hs.1]);intro i h1 h2
 have:=IP (h i) (hr.at hp i).1 (hr.at hp i).2 (hs.at hp i).1 (hs.at hp i).2
 simpa[cF,h1,h2]using this
theorem vU{n:Nat}{r:List Int}(f:Int)(hr:r.length=n)(ho:o.length=n)(j:Nat):(fk p r f o).getD j 0=if j<n then(r.getD j 0+f*o.getD j 0)%p else 0:=by
 by_cases hj:j<n
 ·rw[ae hj];have h1:j<r.length:=by lia
  have h2:j<o.length:=by lia
  have h3:j<(fk p r f o).length:=by simp[fk];lia
  rw[cF,cE h3,cF,cE h1,cF,cE h2];simp[fk]
 ·rw[ah hj,cF,iV (by simp[fk];lia)];rfl
theorem IQ{n:Nat}{r:List Int}(f:Int)(hp:0<p)(hr:r.length=n)(ho:o.length=n):Rw p n (fk p r f o):=by
 refine⟨by simp[fk];lia,λx hx=>?_⟩;obtain⟨i,hi,rfl⟩:=sM.mp hx;simp only[fk,List.getElem_zipWith];exact⟨jR _ (show p≠0 by lia),jS _ hp⟩
theorem RB{n:Nat}{r:List Int}(f:Int)(hr:r.length=n)(ho:o.length=n):dR p (λj=>fn r j+f*fn o j) (fn (fk p r f o)):=λj=>by
 show p∣r.getD j 0+f*o.getD j 0-(fk p r f o).getD j 0;rw[vU f hr ho];by_cases hj:j<n
 ·rw[ae hj]
  have:=Int.dvd_neg.mpr (n9 p (r.getD j 0+f*o.getD j 0))
  rwa[show -((r.getD j 0+f*o.getD j 0)%p-(r.getD j 0+f*o.getD j 0))=r.getD j 0+f*o.getD j 0-(r.getD j 0+f*o.getD j 0)%p by lia]at this
 ·rw[ah hj];have e1:r.getD j 0=0:=by rw[cF,iV (by lia)];rfl
  have e2:o.getD j 0=0:=by rw[cF,iV (by lia)];rfl
  rw[e1,e2];exact⟨0,by simp⟩
noncomputable def dv(p:Int)(lead:List Int)(place:Nat)(row:List Int):List Int:=if row.getD place 0≠0 then fk p row (-(row.getD place 0)) lead else row
section
variable{p:Int}{n place:Nat}{lead row:List Int}
theorem IS(hp:0<p)(hl:Rw p n lead)(hr:Rw p n row):Rw p n (dv p lead place row):=by
 unfold dv;split
 ·exact IQ _ hp hr.1 hl.1
 ·exact hr
theorem IT(hl:Rw p n lead)(hr:Rw p n row):dR p (λj=>fn row j + -(row.getD place 0)*fn lead j) (fn (dv p lead place row)):=by
 unfold dv;split
 ·exact RB _ hr.1 hl.1
 ·rename_i h
  have h0:row.getD place 0=0:=by simpa using h
  rw[h0];intro j;exact⟨0,by simp⟩
theorem yR(hl:Rw p n lead)(hr:Rw p n row)(hj:lead.getD j 0=0)(hp:0<p):(dv p lead place row).getD j 0=row.getD j 0:=by
 unfold dv;split
 ·rw[vU _ hr.1 hl.1,hj,Int.mul_zero,Int.add_zero];by_cases h:j<n
  ·rw[ae h];exact Int.emod_eq_of_lt (hr.at hp j).1 (hr.at hp j).2
  ·rw[ah h,hr.out (by lia)]
 ·rfl
theorem IU(hl:Rw p n lead)(hr:Rw p n row)(h1:lead.getD place 0=1):(dv p lead place row).getD place 0=0:=by
 unfold dv;split
 ·rw[vU _ hr.1 hl.1,h1];split
  ·rw[Int.mul_one,show row.getD place 0 + -(row.getD place 0)=0 by lia];exact Int.zero_emod p
  ·rfl
 ·rename_i h
  simpa using h
end
noncomputable def dh(p:Int)(n:Nat)(h:List Int)(place:Nat):List Int:=jr p [(h,dM p (h.getD place 0))] (List.replicate n 0)
noncomputable def rm(p:Int)(n:Nat)(st:LL×LL)(place:Nat):LL×LL:=
 match st.2.filter λr=>r.getD place 0≠0 with
 | []=>st
 |h::_=>(st.1.map (dv p (dh p n h place) place)++[dh p n h place],st.2.map (dv p (dh p n h place) place))
noncomputable def gS(p:Int)(n:Nat)(L:LL):Nat→LL×LL
 |0=>([],L)
 |k+1=>rm p n (gS p n L k) k
noncomputable def pk(L:LL):Nat:=(L.head?.map List.length).getD 0
noncomputable def dw(p:Int)(L:LL):LL:=(gS p (pk L) L (pk L)).1
structure js(n k:Nat)(D:LL)(ls:List Nat):Prop where
 len:ls.length=D.length
 up:ls.Pairwise (· < ·)
 lt:∀l∈ls,l<k
 one:∀(i:Nat)(r:List Int)(l:Nat),D[i]?=some r→ls[i]?=some l→r.getD l 0=1∧∀j,j<l→r.getD j 0=0
 alone:∀(i i':Nat)(r:List Int)(l:Nat),i≠i'→D[i']?=some r→ls[i]?=some l→r.getD l 0=0
theorem vV{n:Nat}(hh:Rw p n h)(j:Nat):(dh p n h place).getD j 0=if j<n then h.getD j 0*dM p (h.getD place 0)%p else 0:=by
 unfold dh;rw[IM _ (λq hq=>by rw[dI.mp hq];exact hh.1)];by_cases hj:j<n
 ·rw[ae hj];simp[cF,hj,rl]
 ·rw[ah hj];simp[cF,hj]
theorem vW{n:Nat}(hp:0<p)(hh:Rw p n h):Rw p n (dh p n h place):=by
 unfold dh;rw[IM _ (λq hq=>by rw[dI.mp hq];exact hh.1)];refine⟨by simp,λx hx=>?_⟩;obtain⟨j,_,rfl⟩:=dU.mp hx;exact⟨jR _ (show p≠0 by lia),jS _ hp⟩
theorem IV{n:Nat}(hh:Rw p n h):dR p (λj=>dM p (h.getD place 0)*fn h j) (fn (dh p n h place)):=λj=>by
 show p∣dM p (h.getD place 0)*h.getD j 0-(dh p n h place).getD j 0;rw[vV hh,mj];by_cases hj:j<n
 ·rw[ae hj]
  have:=Int.dvd_neg.mpr (n9 p (h.getD j 0*dM p (h.getD place 0)))
  rwa[show -(h.getD j 0*dM p (h.getD place 0)%p-h.getD j 0*dM p (h.getD place 0))=h.getD j 0*dM p (h.getD place 0)-h.getD j 0*dM p (h.getD place 0)%p by lia]at this
 ·rw[ah hj,hh.out (by lia)];exact⟨0,by simp⟩
structure iL(p:Int)(n:Nat)(L:LL)(k:Nat)(st:LL×LL):Prop where
 d:cj p n st.1
 r:cj p n st.2
 z:∀r∈st.2,∀j,j<k→r.getD j 0=0
 lR:∃ls,js n k st.1 ls
 sub:∀r∈st.1++st.2,Sp p (RS L) (fn r)
 sup:∀r∈L,Sp p (RS (st.1++st.2)) (fn r)
theorem IW{n k:Nat}{st:LL×LL}(hp:p∈c7)(hk:k+1≤n)(I:iL p n L k st):iL p n L (k+1) (rm p n st k):=by
  have p0:0<p:=by have:=gI p hp;lia
  obtain⟨D,T⟩:=st;unfold rm;dsimp only;cases hf:T.filter λr=>r.getD k 0≠0 with
  |nil=>
   dsimp only;obtain⟨ls,E⟩:=I.lR;refine⟨I.d,I.r,λr hr j hj=>?_,⟨ls,E.len,E.up,λl hl=>Nat.lt_succ_of_lt (E.lt l hl),E.one,E.alone⟩,I.sub,I.sup⟩;by_cases yS:j<k
   ·exact I.z r hr j yS
   ·have ej:j=k:=by lia
    subst ej;by_cases h0:r.getD j 0=0
    ·exact h0
    ·have:r∈T.filter λr=>r.getD j 0≠0:=lD.mpr ⟨hr,by simpa using h0⟩
     rw[hf]at this;cases this
  |cons h ef=>
   dsimp only;have hm:h∈T.filter λr=>r.getD k 0≠0:=by rw[hf];exact cZ
   obtain⟨hT,CS⟩:=lD.mp hm;have aad:h.getD k 0≠0:=by simpa using CS
   have hh:=I.r h hT;have iw:Rw p n (dh p n h k):=vW p0 hh;have hb:=hh.at p0 k;obtain⟨t1,t2,t3⟩:=vT hp (show 1≤h.getD k 0 by lia) hb.2;have l1:(dh p n h k).getD k 0=1:=by rw[vV hh,ae (by lia),mj];exact t3
   have l0:∀j,j<k→(dh p n h k).getD j 0=0:=λj hj=>by
    rw[vV hh,I.z h hT j hj,Int.zero_mul];split
    ·exact Int.zero_emod p
    ·rfl
   have IX:∀{Q:Fn→Prop},Sp p Q (fn h)→Sp p Q (fn (dh p n h k)):=λq=>.cD (((Sp.zero).plus (dM p (h.getD k 0)) q).of_eq λj=>by rw[oQ]) (IV hh);have RC:∀{Q:Fn→Prop},Sp p Q (fn (dh p n h k))→Sp p Q (fn h):=λ{Q} q=>by
    refine .cD (((Sp.zero).plus (h.getD k 0) q)) λj=>?_;rw[oQ];show p∣h.getD k 0*(dh p n h k).getD j 0-h.getD j 0;have a:=IV (place:=k) hh j;have a':p∣h.getD k 0*(dM p (h.getD k 0)*fn h j-fn (dh p n h k) j):=vd a;rw[Int.mul_sub]at a';have t4:p∣dM p (h.getD k 0)*h.getD k 0-1:=by
     have z:=Int.dvd_neg.mpr (n9 p (dM p (h.getD k 0)*h.getD k 0));rw[t3]at z;rwa[show -(1-dM p (h.getD k 0)*h.getD k 0)=dM p (h.getD k 0)*h.getD k 0-1 by lia]at z
    have b:p∣h.getD j 0*(dM p (h.getD k 0)*h.getD k 0-1):=vd t4;have c:=jT b a';have e:h.getD j 0*(dM p (h.getD k 0)*h.getD k 0-1)-(h.getD k 0*(dM p (h.getD k 0)*fn h j)-h.getD k 0*fn (dh p n h k) j)=h.getD k 0*(dh p n h k).getD j 0-h.getD j 0:=by
     show h.getD j 0*(dM p (h.getD k 0)*h.getD k 0-1)-(h.getD k 0*(dM p (h.getD k 0)*h.getD j 0)-h.getD k 0*(dh p n h k).getD j 0)=_;rw[Int.mul_sub,Int.mul_one,Int.mul_left_comm (h.getD k 0),mj (h.getD j 0) (dM p (h.getD k 0)*h.getD k 0),Int.mul_assoc];lia
    rwa[e]at c
   generalize dh p n h k=lead at iw l1 l0 IX RC ⊢;obtain⟨ls,E⟩:=I.lR;have yU:ls.length=D.length:=E.len;have hD:∀r∈D,Rw p n r:=I.d;have vX:∀r∈T,Rw p n r:=I.r;have spT:Sp p (RS L) (fn h):=I.sub h (iU _ hT);have CY:=IX spT;have IY:∀{Q:Fn→Prop}{r:List Int},Rw p n r→Sp p Q (fn r)→Sp p Q (fn lead)→Sp p Q (fn (dv p lead k r)):=λhr a b=>.cD (a.plus _ b) (IT iw hr);have IZ:∀{Q:Fn→Prop}{r:List Int},Rw p n r→Sp p Q (fn (dv p lead k r))→Sp p Q (fn lead)→Sp p Q (fn r):=λ{Q r} hr a b=>by
    refine .cD (a.plus (r.getD k 0) b) λj=>?_;have q:=(IT (place:=k) iw hr j);have q':=Int.dvd_neg.mpr q;rwa[show -(fn r j + -(r.getD k 0)*fn lead j-fn (dv p lead k r) j)=fn (dv p lead k r) j+r.getD k 0*fn lead j-fn r j by rw[Int.neg_mul];lia]at q'
   refine⟨λr hr=>?_,λr hr=>?_,λr hr j hj=>?_,⟨ls++[k],?_,?_,?_,?_,?_⟩,λr hr=>?_,λr hr=>?_⟩
   ·rcases(dZ.mp hr)with(hr|hr)
    ·obtain⟨r0,h0,rfl⟩:=dU.mp hr;exact IS p0 iw (hD r0 h0)
    ·rw[dI.mp hr];exact iw
   ·obtain⟨r0,h0,rfl⟩:=dU.mp hr;exact IS p0 iw (vX r0 h0)
   ·obtain⟨r0,h0,rfl⟩:=dU.mp hr;by_cases yS:j<k
    ·rw[yR iw (vX r0 h0) (l0 j yS) p0];exact I.z r0 h0 j yS
    ·have ej:j=k:=by lia
     subst ej;exact IU iw (vX r0 h0) l1
   ·simp[E.len]
   ·refine List.pairwise_append.mpr ⟨E.up,by simp,λa ha b hb=>?_⟩;rw[dI.mp hb];exact E.lt a ha
   ·intro l hl;rcases(dZ.mp hl)with(hl|hl)
    ·exact Nat.lt_succ_of_lt (E.lt l hl)
    ·rw[dI.mp hl];exact Nat.lt_succ_self k
   ·intro i r l hr hl;by_cases hi:i<D.length
    ·rw[gz (by simpa using hi),eI,cE hi]at hr;rw[gz (by rw[yU];exact hi)]at hl;cases hr;have yV:l<k:=E.lt l (gj hl);obtain⟨o1,o2⟩:=E.one i _ l (cE hi) hl;have rD:=hD _ (jh hi);refine⟨by rw[yR iw rD (l0 l yV) p0];exact o1,λj hj=>?_⟩;rw[yR iw rD (l0 j (by lia)) p0];exact o2 j hj
    ·rw[gZ (by simpa using hi),bz]at hr;rw[gZ (by lia),yU]at hl;have e0:i-D.length=0:=by
      have:=(gi.mp hr).1
      simp at this;lia
     rw[e0]at hr hl;simp at hr hl;subst hr hl;exact⟨l1,l0⟩
   ·intro i i' r l dQ hr hl;by_cases hi:i<ls.length
    ·rw[gz hi]at hl;have yV:l<k:=E.lt l (gj hl);by_cases nc:i'<D.length
     ·rw[gz (by simpa using nc),eI,cE nc]at hr;cases hr;rw[yR iw (hD _ (jh nc)) (l0 l yV) p0];exact E.alone i i' _ l dQ (cE nc) hl
     ·rw[gZ (by simpa using nc),bz]at hr;have e0:i' - D.length=0:=by
       have:=(gi.mp hr).1
       simp at this;lia
      rw[e0]at hr;simp at hr;subst hr;exact l0 l yV
    ·rw[gZ (by lia)]at hl;have e0:i-ls.length=0:=by
      have:=(gi.mp hl).1
      simp at this;lia
     rw[e0]at hl;simp at hl;subst hl;by_cases nc:i'<D.length
     ·rw[gz (by simpa using nc),eI,cE nc]at hr;cases hr;exact IU iw (hD _ (jh nc)) l1
     ·rw[gZ (by simpa using nc),bz]at hr;have e1:i' - D.length=0:=by
       have:=(gi.mp hr).1
       simp at this;lia
      lia
   ·rcases(dZ.mp hr)with(hr|hr)
    ·rcases(dZ.mp hr)with(hr|hr)
     ·obtain⟨r0,h0,rfl⟩:=dU.mp hr;exact IY (hD r0 h0) (I.sub r0 (mh _ h0)) CY
     ·rw[dI.mp hr];exact CY
    ·obtain⟨r0,h0,rfl⟩:=dU.mp hr;exact IY (vX r0 h0) (I.sub r0 (iU _ h0)) CY
   ·refine Sp.trans (λf hf=>?_) (I.sup r hr);obtain⟨r0,h0,rfl⟩:=hf;have tQ:Sp p (RS (D.map (dv p lead k)++[lead]++T.map (dv p lead k))) (fn lead):=.mem ⟨lead,by simp,rfl⟩;rcases(dZ.mp h0)with(h0|h0)
    ·exact IZ (hD r0 h0) (.mem ⟨_,by simp;exact .inl ⟨r0,h0,rfl⟩,rfl⟩) tQ
    ·exact IZ (vX r0 h0) (.mem ⟨_,by simp;exact .inr (.inr ⟨r0,h0,rfl⟩),rfl⟩) tQ
theorem CZ{p:Int}{n:Nat}{L:LL}(hp:p∈c7)(hL:cj p n L):∀k,k≤n→iL p n L k (gS p n L k)
 |0,_=>⟨λr hr=>absurd hr (by simp[gS]),by simpa[gS]using hL,λr _ j hj=>absurd hj (by lia),⟨[],by simp[gS],.nil,by simp,by simp[gS],by simp⟩,
   λr hr=>.mem ⟨r,by simpa[gS]using hr,rfl⟩,λr hr=>.mem ⟨r,by simpa[gS]using hr,rfl⟩⟩
 |k+1,hk=>IW hp hk (CZ hp hL k (by lia))
noncomputable def Sg(f:Nat→Int):Nat→Int
 |0=>0
 |n+1=>Sg f n+f n
theorem I0{n:Nat}(h:∀i,i<n→f i=0):Sg f n=0:=by
 induction n with
 |zero=>rfl
 |succ n ih=>rw[Sg,ih λi hi=>h i (by lia),h n (by lia)];rfl
theorem RD(f g:Nat→Int)(n:Nat):Sg (λi=>f i+g i) n=Sg f n+Sg g n:=by
 induction n with
 |zero=>rfl
 |succ n ih=>rw[Sg,ih,Sg,Sg];lia
theorem yX{n:Nat}(h:∀i,i<n→p∣f i):p∣Sg f n:=by
 induction n with
 |zero=>exact⟨0,by simp[Sg]⟩
 |succ n ih=>rw[Sg];exact oR (ih λi hi=>h i (by lia)) (h n (by lia))
theorem C0{n l:Nat}(hl:l<n):Sg f n=f l+Sg (λi=>if i=l then 0 else f i) n:=by
 induction n with
 |zero=>lia
 |succ n ih=>
  by_cases h:l=n
  ·subst h;rw[Sg,Sg,ae rfl];have e:Sg (λi=>if i=l then 0 else f i) l=Sg f l:=by
    have:∀m,m≤l→Sg (λi=>if i=l then 0 else f i) m=Sg f m:=by
     intro m;induction m with
     |zero=>intro _;rfl
     |succ m ih=>intro hm;rw[Sg,Sg,ih (by lia),ah (by lia)]
    exact this l (ck l)
   rw[e];lia
  ·rw[Sg,Sg,ih (by lia),ah (λz=>h z.symm)];lia
def ES(n:Nat)(e:Nat→Option (List Int)):Fn→Prop:=λf=>∃l r,l<n∧e l=some r∧f=fn r
noncomputable def dN(e:Nat→Option (List Int))(l j:Nat):Int:=match e l with|some r=>r.getD j 0|none=>0
theorem ES.coeff{n:Nat}{e:Nat→Option (List Int)}(h:Sp p (ES n e) v):∃c:Nat→Int,dR p (λj=>Sg (λl=>c l*dN e l j) n) v:=by
 induction h with
 |zero=>exact⟨λ_=>0,λj=>⟨0,by simp[I0]⟩⟩
 | @add v r d _ hr ih=>
  obtain⟨c,hc⟩:=ih;obtain⟨l,row,hl,he,rfl⟩:=hr;refine⟨λi=>c i+if i=l then d else 0,λj=>?_⟩
  have e1:Sg (λi=>(c i+if i=l then d else 0)*dN e i j) n=Sg (λi=>c i*dN e i j) n+d*fn row j:=by
   have e2:(λi=>(c i+if i=l then d else 0)*dN e i j)=λi=>c i*dN e i j+(if i=l then d*fn row j else 0):=by
    funext i
    by_cases hi:i=l
    ·subst hi;rw[ae rfl,ae rfl,Int.add_mul]
     congr 1
     simp[dN,he,fn]
    ·rw[ah hi,ah hi,Int.add_zero,Int.add_zero]
   rw[e2,RD]
   congr 1
   rw[C0 hl,ae rfl,I0 λi _=>by by_cases hi:i=l<;>simp[hi]]
   lia
  show p∣Sg (λi=>(c i+if i=l then d else 0)*dN e i j) n-(v j+d*fn row j)
  rw[e1,show Sg (λi=>c i*dN e i j) n+d*fn row j-(v j+d*fn row j)=Sg (λi=>c i*dN e i j) n-v j by lia];exact hc j
 |cD _ q ih=>
  obtain⟨c,hc⟩:=ih;exact⟨c,hc.trans q⟩
structure C1(n:Nat)(e:Nat→Option (List Int)):Prop where
 one:∀l r,e l=some r→l<n→r.getD l 0=1∧∀j,j<l→r.getD j 0=0
theorem C1.zero{p:Int}{n:Nat}{e:Nat→Option (List Int)}{v:Fn}(E:C1 n e)(h:Sp p (ES n e) v)(hz:∀l r,l<n→e l=some r→p∣v l):∀j,p∣v j:=by
 obtain⟨c,hc⟩:=ES.coeff h;have all:∀m,m≤n→∀l,l<m→∀j,p∣c l*dN e l j:=by
  intro m;induction m with
  |zero=>intro _ l hl;lia
  |succ m ih=>
   intro hm l hl j;by_cases p9:l<m
   ·exact ih (by lia) l p9 j
   ·have el:l=m:=by lia
    subst el;cases hr:e l with
    |none=>exact⟨0,by simp[dN,hr]⟩
    |some r=>
     obtain⟨o1,o2⟩:=E.one l r hr (by lia);have s:=hc l;dsimp only at s;rw[C0 (show l<n by lia)]at s;have ef:p∣Sg (λi=>if i=l then 0 else c i*dN e i l) n:=yX λi hi=>by
      by_cases h1:i=l
      ·rw[ae h1];exact⟨0,by simp⟩
      ·rw[ah h1];by_cases h2:i<l
       ·exact ih (by lia) i h2 l
       ·cases C2:e i with
        |none=>exact⟨0,by simp[dN,C2]⟩
        |some r2=>
         have:=(E.one i r2 C2 hi).2 l (by lia)
         refine⟨0,?_⟩;simp only[dN,C2,this,Int.mul_zero]
     have e1:dN e l l=1:=by simp only[dN,hr];exact o1
     rw[e1,Int.mul_one]at s;have k:=oR (jT s ef) (hz l r (by lia) hr);rw[show c l+Sg (λi=>if i=l then 0 else c i*dN e i l) n-v l-Sg (λi=>if i=l then 0 else c i*dN e i l) n+v l=c l by lia]at k
     exact Int.dvd_mul_of_dvd_left k
 intro j;have s:=hc j;dsimp only at s;have t:p∣Sg (λl=>c l*dN e l j) n:=yX λi hi=>all n (ck n) i hi j;have k:=jT t s;rwa[show Sg (λl=>c l*dN e l j) n-(Sg (λl=>c l*dN e l j) n-v j)=v j by lia]at k
theorem Ja{n:Nat}{r:List Int}(h:Rw p n r)(hz:∀j,j<n→r.getD j 0=0)(j:Nat):fn r j=0:=by
 by_cases hj:j<n
 ·exact hz j hj
 ·exact h.out (by lia)
noncomputable def gT:LL→List Nat→Nat→Option (List Int)
 |r::D,l::ls,i=>if i=l then some r else gT D ls i
 |_,_,_=>none
theorem tR:∀{D:LL}{ls:List Nat}{l:Nat}{r:List Int},gT D ls l=some r→∃(i:Nat),D[i]?=some r∧ls[i]?=some l
 | [],_,_,_,h=>by simp[gT]at h
 |_::_,[],_,_,h=>by simp[gT]at h
 |q::D,m::ls,l,r,h=>by
  rw[gT]at h;by_cases e:l=m
  ·rw[ae e]at h;cases h;exact⟨0,rfl,by rw[e];rfl⟩
  ·rw[ah e]at h;obtain⟨i,h1,h2⟩:=tR h;exact⟨i+1,by simpa using h1,by simpa using h2⟩
theorem Jb:∀{D:LL}{ls:List Nat}{i l:Nat}{r:List Int},ls.Pairwise (· < ·)→D[i]?=some r→ls[i]?=some l→gT D ls l=some r
 | [],_,_,_,_,_,h,_=>by simp at h
 |_::_,[],_,_,_,_,_,h=>by simp at h
 |q::D,m::ls,0,l,r,_,h1,h2=>by simp at h1 h2;subst h1 h2;simp[gT]
 |q::D,m::ls,i+1,l,r,hp,h1,h2=>by
  have hl:ls[i]?=some l:=by simpa using h2
  have:m<l:=(List.pairwise_cons.mp hp).1 l (gj hl)
  rw[gT,ah (by lia)];exact Jb (List.pairwise_cons.mp hp).2 (by simpa using h1) hl
theorem js.lead{n k:Nat}(E:js n k D ls):C1 k (gT D ls):=⟨λl r h _=>by
 obtain⟨i,h1,h2⟩:=tR h;exact E.one i r l h1 h2⟩
theorem js.sp{n k:Nat}(E:js n k D ls)(h:Sp p (RS D) v):Sp p (ES k (gT D ls)) v:=h.trans λf hf=>by
 obtain⟨r,hr,rfl⟩:=hf;obtain⟨i,hi,rfl⟩:=sM.mp hr;have hl:i<ls.length:=by rw[E.len];exact hi
 exact .mem ⟨ls[i],D[i],E.lt _ (jh hl),Jb E.up (cE hi) (cE hl),rfl⟩
structure RE(p:Int)(n:Nat)(L D:LL):Prop where
 rws:cj p n D
 lR:∃ls,js n n D ls
 sub:∀r∈D,Sp p (RS L) (fn r)
 sup:∀r∈L,Sp p (RS D) (fn r)
theorem yY{n:Nat}(h:cj p n L)(dQ:L≠[]):pk L=n:=by
 cases L with
 |nil=>exact absurd rfl dQ
 |cons r L=>exact(h r cZ).1
theorem ng{n:Nat}(hp:p∈c7)(hL:cj p n L):RE p n L (dw p L):=by
 by_cases dQ:L=[]
 ·subst dQ;exact⟨λr hr=>absurd hr (by simp[dw,pk,gS]),⟨[],by simp[dw,pk,gS],.nil,by simp,by simp,by simp⟩,λr hr=>absurd hr (by simp[dw,pk,gS]),λr hr=>absurd hr (by simp)⟩
 ·unfold dw;rw[yY hL dQ];have I:=CZ hp hL n (ck n);generalize gS p n L n=st at I;refine⟨I.d,I.lR,λr hr=>I.sub r (mh _ hr),λr hr=>(I.sup r hr).trans λf hf=>?_⟩;obtain⟨r0,h0,rfl⟩:=hf;rcases(dZ.mp h0)with(h0|h0)
  ·exact .mem ⟨r0,h0,rfl⟩
  ·exact(Sp.zero).of_eq λj=>(Ja (I.r r0 h0) (I.z r0 h0) j).symm
theorem js.same{n:Nat}(E:js n n D ls)(hu:Sp p (RS D) u)(hv:Sp p (RS D) v)(h:∀l∈ls,p∣u l-v l):dR p u v:=λj=>by
 have hd:Sp p (RS D) (λj=>u j+(-1)*v j):=hu.plus (-1) hv
 have:=E.lead.zero (E.sp hd) (λl r _ he=>by
  obtain⟨i,_,h2⟩:=tR he;have q:=h l (gj h2);show p∣u l + -1*v l;rwa[show u l + -1*v l=u l-v l by lia]) j
 rwa[show u j + -1*v j=u j-v j by lia]at this
theorem RF(hp:p∈c7):¬p∣1:=λ⟨c,hc⟩=>by
 have:=gI p hp
 rcases Int.lt_trichotomy c 0 with h|h|h
 ·have:=FP (show c≤-1 by lia) (show 0≤p by lia)
  lia
 ·rw[h]at hc;lia
 ·have:=FP (show 1≤c by lia) (show 0≤p by lia)
  lia
theorem js.starts{n:Nat}(hp:p∈c7)(E:js n n D ls){l:Nat}(hv:Sp p (RS D) v)(h1:v l=1)(h0:∀j,j<l→v j=0):l∈ls:=by
 by_cases hm:l∈ls
 ·exact hm
 ·exfalso;obtain⟨c,hc⟩:=ES.coeff (E.sp hv);have all:∀m,m≤l→∀i,i<m→∀j,p∣c i*dN (gT D ls) i j:=by
   intro m;induction m with
   |zero=>intro _ i hi;lia
   |succ m ih=>
    intro yZ i hi j;by_cases RG:i<m
    ·exact ih (by lia) i RG j
    ·have ei:i=m:=by lia
     subst ei;cases hr:gT D ls i with
     |none=>exact⟨0,by simp[dN,hr]⟩
     |some r=>
      obtain⟨z,z1,z2⟩:=tR hr;have lS:i<n:=E.lt i (gj z2);have s:=hc i;dsimp only at s;rw[C0 lS,h0 i (by lia)]at s;have ef:p∣Sg (λq=>if q=i then 0 else c q*dN (gT D ls) q i) n:=yX λq hq=>by
       by_cases q1:q=i
       ·rw[ae q1];exact⟨0,by simp⟩
       ·rw[ah q1];by_cases q2:q<i
        ·exact ih (by lia) q q2 i
        ·cases gH:gT D ls q with
         |none=>exact⟨0,by simp[dN,gH]⟩
         |some r2=>
          have:=(E.lead.one q r2 gH hq).2 i (by lia)
          exact⟨0,by simp only[dN,gH,this,Int.mul_zero]⟩
      have e1:dN (gT D ls) i i=1:=by simp only[dN,hr];exact(E.lead.one i r hr lS).1
      rw[e1,Int.mul_one]at s;have k:=jT s ef;rw[show c i+Sg (λq=>if q=i then 0 else c q*dN (gT D ls) q i) n-0-Sg (λq=>if q=i then 0 else c q*dN (gT D ls) q i) n=c i by lia]at k
      exact Int.dvd_mul_of_dvd_left k
  have s:=hc l;dsimp only at s;have t:p∣Sg (λq=>c q*dN (gT D ls) q l) n:=yX λq hq=>by
   by_cases q2:q<l
   ·exact all l (ck l) q q2 l
   ·cases gH:gT D ls q with
    |none=>exact⟨0,by simp[dN,gH]⟩
    |some r2=>
     obtain⟨z,z1,z2⟩:=tR gH
     have:q≠l:=λe=>hm (e▸gj z2)
     have:=(E.lead.one q r2 gH hq).2 l (by lia)
     exact⟨0,by simp only[dN,gH,this,Int.mul_zero]⟩
  have k:=jT t s;rw[show Sg (λq=>c q*dN (gT D ls) q l) n-(Sg (λq=>c q*dN (gT D ls) q l) n-v l)=v l by lia,h1]at k;exact RF hp k
theorem C3:∀{a b:List Nat},a.Pairwise (· < ·)→b.Pairwise (· < ·)→(∀x,x∈a↔x∈b)→a=b
 | [],[],_,_,_=>rfl
 | [],y::b,_,_,h=>absurd ((h y).mpr cZ) (by simp)
 |x::a,[],_,_,h=>absurd ((h x).mp cZ) (by simp)
 |x::a,y::b,ha,hb,h=>by
  obtain⟨a1,a2⟩:=List.pairwise_cons.mp ha;obtain⟨b1,b2⟩:=List.pairwise_cons.mp hb;have RH:x=y:=by
   rcases dS.mp ((h x).mp cZ)with e|e
   ·exact e
   ·rcases dS.mp ((h y).mpr cZ)with e2|e2
    ·exact e2.symm
    ·have:=b1 x e
     have:=a1 y e2
     lia
  subst RH
  congr 1
  refine C3 a2 b2 λz=>⟨λhz=>?_,λhz=>?_⟩
  ·rcases dS.mp ((h z).mp (fu _ hz))with e|e
   ·have:=a1 z hz;lia
   ·exact e
  ·rcases dS.mp ((h z).mpr (fu _ hz))with e|e
   ·have:=b1 z hz;lia
   ·exact e
theorem js.unique{n:Nat}{D':LL}{dC:List Nat}(hp:p∈c7)(E:js n n D ls)(E':js n n D' dC)(hD:cj p n D)(RI:cj p n D')(s1:∀r∈D,Sp p (RS D') (fn r))(s2:∀r∈D',Sp p (RS D) (fn r)):D=D':=by
 have p0:0<p:=by have:=gI p hp;lia
 have Jc:∀{D D':LL}{ls dC:List Nat},js n n D ls→js n n D' dC→(∀r∈D,Sp p (RS D') (fn r))→∀x,x∈ls→x∈dC:=λ{D D' ls dC} E E' s x hx=>by
  obtain⟨i,hi,rfl⟩:=sM.mp hx;have Jd:i<D.length:=by rw[← E.len];exact hi
  obtain⟨o1,o2⟩:=E.one i D[i] ls[i] (cE Jd) (cE hi);exact E'.starts hp (s _ (jh Jd)) o1 o2
 have el:ls=dC:=C3 E.up E'.up λx=>⟨Jc E E' s1 x,Jc E' E s2 x⟩;subst el;have yU:D.length=D'.length:=by rw[← E.len,← E'.len]
 apply List.ext_getElem yU;intro i h1 h2;have hi:i<ls.length:=by rw[E.len];exact h1
 refine(hD _ (jh h1)).ext p0 (RI _ (jh h2)) ?_;refine E'.same (s1 _ (jh h1)) (.mem ⟨_,jh h2,rfl⟩) λl hl=>?_;obtain⟨k,hk,rfl⟩:=sM.mp hl;by_cases C4:k=i
 ·subst C4;have a:=(E.one k D[k] ls[k] (cE h1) (cE hk)).1;have b:=(E'.one k D'[k] ls[k] (cE h2) (cE hk)).1;show p∣(D[k]).getD ls[k] 0-(D'[k]).getD ls[k] 0;rw[a,b];exact⟨0,by lia⟩
 ·have a:=E.alone k i D[i] ls[k] C4 (cE h1) (cE hk);have b:=E'.alone k i D'[i] ls[k] C4 (cE h2) (cE hk);show p∣(D[i]).getD ls[k] 0-(D'[i]).getD ls[k] 0;rw[a,b];exact⟨0,by lia⟩
theorem Je{n:Nat}{L':LL}(hp:p∈c7)(hL:cj p n L)(tS:cj p n L')(s1:∀r∈L,Sp p (RS L') (fn r))(s2:∀r∈L',Sp p (RS L) (fn r)):dw p L=dw p L':=by
 have A:=ng hp hL;have B:=ng hp tS;obtain⟨ls,E⟩:=A.lR;obtain⟨dC,E'⟩:=B.lR;have t:∀{P Q:LL},(∀r∈P,Sp p (RS Q) (fn r))→∀{v:Fn},Sp p (RS P) v→Sp p (RS Q) v:=λh v hv=>hv.trans λf hf=>by
  obtain⟨r,hr,rfl⟩:=hf;exact h r hr
 exact E.unique hp E' A.rws B.rws (λr hr=>t B.sup (t s1 (A.sub r hr))) (λr hr=>t A.sup (t s2 (B.sub r hr)))
theorem RJ{f:Int→Int}{r:List Int}{n:Nat}(hr:r.length=n)(h0:j<n):(r.map f).getD j 0=f (r.getD j 0):=by
 have:j<r.length:=by lia
 rw[cF,eI,cE this,cF,cE this];rfl
noncomputable def oa(r:List Int):List Nat:=(List.range r.length).filter λj=>r.getD j 0≠0
theorem RK{r:List Int}(h:oa r=[])(j:Nat)(hj:j<r.length):r.getD j 0=0:=by
 have:=List.filter_eq_nil_iff.mp h j (nK.mpr hj)
 simpa using this
theorem RL{r:List Int}{l:Nat}{t:List Nat}(h:oa r=l::t):l<r.length∧r.getD l 0≠0∧∀j,j<l→r.getD j 0=0:=by
 have hm:l∈oa r:=by rw[h];exact cZ
 have h1:=lD.mp hm;have hl:=nK.mp h1.1;refine⟨hl,by simpa using h1.2,λj hj=>?_⟩;apply Classical.byContradiction;intro dQ;have tT:j∈oa r:=lD.mpr ⟨nK.mpr (by lia),by simpa using dQ⟩;rw[h]at tT;have hs:(oa r).Pairwise (· < ·):=List.Pairwise.filter _ List.pairwise_lt_range;rw[h]at hs;cases tT with
 |head=>lia
 |tail _ tT=>have:=(List.pairwise_cons.mp hs).1 j tT;lia
noncomputable def fK(rs:LL)(fs:List Int)(j:Nat):Int:=(List.zipWith (λr f=>r.getD j 0*f) rs fs).sum
theorem kd{U:List Fn}(h:Sp p (·∈u::U) v):∃(c:Int)(w:Fn),Sp p (·∈U) w∧dR p (λj=>w j+c*u j) v:=by
 induction h with
 |zero=>exact⟨0,λ_=>0,.zero,λj=>⟨0,by simp⟩⟩
 | @add v r d _ hr ih=>
  obtain⟨c,w,hw,e⟩:=ih;rcases(dS.mp hr)with(rfl|hr)
  ·refine⟨c+d,w,hw,λj=>?_⟩;obtain⟨k,hk⟩:=e j;exact⟨k,by grind⟩
  ·refine⟨c,_,Sp.add d hw hr,λj=>?_⟩;obtain⟨k,hk⟩:=e j;exact⟨k,by grind⟩
 |cD _ e ih=>
  obtain⟨c,w,hw,e2⟩:=ih;exact⟨c,w,hw,e2.trans e⟩
theorem jt{R:Fn→Prop}(h0:∀f,¬R f)(h:Sp p R v)(j:Nat):p∣v j:=by
 induction h with
 |zero=>exact⟨0,by simp⟩
 |add c _ hr ih=>exact absurd hr (h0 _)
 |cD _ e ih=>
  obtain⟨k,hk⟩:=ih;obtain⟨k2,hk2⟩:=e j;exact⟨k-k2,by grind⟩
noncomputable def RM(n:Nat)(ls:List Nat):List Nat:=(List.range n).filter λj=>j ∉ ls
theorem RN{n:Nat}(up:ls.Pairwise (· < ·))(lt:∀l∈ls,l<n):(RM n ls).length+ls.length=n:=by
 have hnd:ls.Nodup:=up.imp λh=>by lia
 have h1:((List.range n).filter λj=>j∈ls).length=ls.length:=by
  have e:((List.range n).filter λj=>j∈ls)=ls:=by
   refine C3 (List.Pairwise.filter _ List.pairwise_lt_range) up λx=>?_;simp only[lD,nK,aG];exact⟨λh=>h.2,λh=>⟨lt x h,h⟩⟩
  rw[e]
 have h2:∀L:List Nat,(L.filter λj=>j ∉ ls).length+(L.filter λj=>j∈ls).length=L.length:=by
  intro L;induction L with
  |nil=>rfl
  |cons a L ih=>
   by_cases h:a∈ls
   ·rw[BG (by simpa using h),xN (by simpa using h),eF,eF];lia
   ·rw[xN (by simpa using h),BG (by simpa using h),eF,eF];lia
 have:=h2 (List.range n)
 rw[h1,ml]at this;exact this
section
variable{p:Int}{n:Nat}{D:LL}{ls:List Nat}
end
end Bw
namespace L2
open PySem Bw
def LR(N:Addr→Prop)(H:Hp)(LS:List V)(L:LL):Prop:=LS.length=L.length∧∀(i:Nat)(v:V)(r:List Int),LS[i]?=some v→L[i]?=some r→∃a,v=.ref a∧N a∧H a=some (.lst (r.map V.int))
section
variable{N:Addr→Prop}{H H':Hp}{LS:List V}{L:LL}{l a:Addr}{o:HO}{r:List Int}
theorem LR.nil:LR N H [] []:=⟨rfl,λi v r h=>by simp at h⟩
theorem LR.mono(h:LR N H LS L)(e:aM H H'):LR N H' LS L:=⟨h.1,λi v r a b=>by
 obtain⟨x,rfl,hN,g⟩:=h.2 i v r a b;exact⟨x,rfl,hN,e _ _ g⟩⟩
theorem LR.fresh(h:LR N H LS L)(hl:H l=none):LR (·≠l) (upd H l o) LS L:=⟨h.1,λi v r a b=>by
 obtain⟨x,rfl,hN,g⟩:=h.2 i v r a b;have ne:=eT g hl;exact⟨x,rfl,ne,by rw[cn ne];exact g⟩⟩
theorem LR.wr(h:LR (·≠l) H LS L):LR (·≠l) (upd H l o) LS L:=⟨h.1,λi v r a b=>by
 obtain⟨x,rfl,ne,g⟩:=h.2 i v r a b;exact⟨x,rfl,ne,by rw[cn ne];exact g⟩⟩
theorem LR.snoc(h:LR N H LS L)(hN:N a)(g:H a=some (.lst (r.map V.int))):LR N H (LS++[.ref a]) (L++[r]):=⟨by simp[h.1],λj v q e1 e2=>by
 by_cases hj:j<LS.length
 ·rw[gz hj]at e1;rw[gz (by rw[← h.1];exact hj)]at e2;exact h.2 j v q e1 e2
 ·rw[gZ (by lia)]at e1;rw[gZ (by rw[← h.1];lia),← h.1]at e2;cases hk:j-LS.length with
  |zero=>rw[hk]at e1 e2;cases e1;cases e2;exact⟨a,rfl,hN,g⟩
  |succ k=>rw[hk]at e1;cases e1⟩
end
end L2
namespace L2
open PySem PySem.Spec PyProof.Rows
end L2
namespace L2
open PySem Bw
variable{H:Hp}{L:LL}{LS:List V}{N:Addr→Prop}
theorem LR.erase(h:LR N H LS L)(i:Nat):LR N H (LS.eraseIdx i) (L.eraseIdx i):=by
 refine⟨by rw[List.length_eraseIdx,List.length_eraseIdx,h.1],λj v r e1 e2=>?_⟩;rw[List.getElem?_eraseIdx]at e1 e2;split at e1
 ·rw[ae (by assumption)]at e2;exact h.2 _ v r e1 e2
 ·rw[ah (by assumption)]at e2;exact h.2 _ v r e1 e2
theorem LR.at{i:Nat}{r:List Int}(h:LR N H LS L)(hi:L[i]?=some r):∃a,LS[i]?=some (.ref a)∧N a∧H a=some (.lst (r.map V.int)):=by
 have il:=(gi.mp hi).1
 have:i<LS.length:=by rw[h.1];exact il
 obtain⟨a,e,hN,g⟩:=h.2 i _ r (cE this) hi;exact⟨a,by rw[cE this,e],hN,g⟩
theorem LR.get{i:Nat}{v:V}(h:LR N H LS L)(hi:LS[i]?=some v):∃a r,v=.ref a∧L[i]?=some r∧N a∧H a=some (.lst (r.map V.int)):=by
 have il:=(gi.mp hi).1
 have:i<L.length:=by rw[← h.1];exact il
 obtain⟨a,e,hN,g⟩:=h.2 i v _ hi (cE this);exact⟨a,_,e,cE this,hN,g⟩
end L2
namespace L2
open PySem PySem.Spec PyProof.Rows
variable{H H':Hp}{aV:List (List Key×V)}{u:Value}{xs:List (List Key×Addr×Value)}{y:V}
section
variable{κ:Type} [DecidableEq κ]
noncomputable def gp(aV:List (κ×V))(k:κ):Option V:=(aV.find? λkv=>decide (kv.1=k)).map (·.2)
noncomputable def jb(aV:List (κ×V))(k:κ)(v:V):List (κ×V):=
 if(aV.any λkv=>decide (kv.1=k))=true then aV.map (λkv=>if kv.1=k then(kv.1,v)else kv)else aV++[(k,v)]
theorem nh{p:κ×V}{r:List (κ×V)}{k:κ}(e:p.1=k):gp (p::r) k=some p.2:=by simp[gp,List.find?_cons,e]
theorem ni{p:κ×V}{r:List (κ×V)}{k:κ}(e:¬p.1=k):gp (p::r) k=gp r k:=by simp[gp,List.find?_cons,e]
theorem y6(k:κ):∀aV:List (κ×V),(aV.any λkv=>decide (kv.1=k))=(gp aV k).isSome
 | []=>rfl
 |p::r=>by
  rw[List.any_cons];by_cases e:p.1=k
  ·simp only[nh e,aE e,Bool.true_or,Option.isSome_some]
  ·rw[ni e,aa e,Bool.false_or];exact y6 k r
theorem Jf(k j:κ)(y:V):∀aV:List (κ×V),gp (aV.map λkv=>if kv.1=k then(kv.1,y)else kv) j=(gp aV j).map λx=>if j=k then y else x
 | []=>rfl
 |p::r=>by
  have ih:=Jf k j y r;rw[nO];by_cases h:p.1=k
  ·rw[ae h];by_cases e:p.1=j
   ·rw[nh (p:=(p.1,y)) e,nh e,Option.map_some,ae (e.symm.trans h)]
   ·rw[ni (p:=(p.1,y)) e,ni e,ih]
  ·rw[ah h];by_cases e:p.1=j
   ·rw[nh (p:=p) e,nh e,Option.map_some,ah (λz=>h (e.trans z))]
   ·rw[ni (p:=p) e,ni e,ih]
theorem Jg(k j:κ)(y:V):∀aV:List (κ×V),gp aV k=none→gp (aV++[(k,y)]) j=if j=k then some y else gp aV j
 | [],_=>by
  by_cases e:k=j
  ·rw[ae e.symm];exact nh (p:=(k,y)) e
  ·rw[ah (λz=>e z.symm)];exact ni (p:=(k,y)) e
 |p::r,hn=>by
  rw[List.cons_append];have hk:¬p.1=k:=λz=>by rw[nh z]at hn;cases hn
  rw[ni hk]at hn;have ih:=Jg k j y r hn;by_cases e:p.1=j
  ·rw[nh e,nh e,ah (λz=>hk (e.trans z))]
  ·rw[ni e,ni e,ih]
theorem RP(aV:List (κ×V))(k j:κ)(y:V):gp (jb aV k y) j=if j=k then some y else gp aV j:=by
 unfold jb;by_cases a:(aV.any λkv=>decide (kv.1=k))=true
 ·rw[ae a,Jf];rw[y6]at a;by_cases e:j=k
  ·obtain⟨x,hx⟩:=Option.isSome_iff_exists.mp a;rw[ae e,e,hx,Option.map_some,ae rfl]
  ·rw[ah e];cases gp aV j with
   |none=>rfl
   |some x=>rw[Option.map_some,ah e]
 ·rw[ah a];refine Jg k j y aV ?_;rw[y6]at a;cases q:gp aV k with
  |none=>rfl
  |some x=>rw[q]at a;exact(a rfl).elim
theorem C5(aV:List (κ×V))(k:κ)(v:V):(jb aV k v).length≤aV.length+1:=by
 unfold jb;split
 ·rw[bz];lia
 ·rw[bQ,eF,pU];lia
theorem mr.RQ{o:Option V}{u:Option Value}(r:mr o u):o.isSome=u.isSome:=by
 cases o with
 |none=>cases u with
  |none=>rfl
  |some _=>exact(show False from r).elim
 |some _=>cases u with
  |none=>exact(show False from r).elim
  |some _=>rfl
theorem KV.val{aV:List (κ×V)}{vs:List (κ×Value)}(r:KV aV vs)(k:κ):mr (gp aV k) (valueAt vs k):=by
 unfold KV at r;induction r with
 |nil=>exact True.intro
 | @cons p q ps qs h t ih=>
  obtain⟨h1,h2⟩:=h;by_cases e:p.1=k
  ·have e':q.1=k:=h1.symm.trans e;have b:valueAt (q::qs) k=some q.2:=by simp[valueAt,List.find?_cons,e']
   rw[nh e,b];exact h2
  ·have e':¬q.1=k:=λz=>e (h1.trans z);have b:valueAt (q::qs) k=valueAt qs k:=by simp[valueAt,List.find?_cons,e']
   rw[ni e,b];exact ih
theorem KV.any{aV:List (κ×V)}{vs:List (κ×Value)}(r:KV aV vs)(k:κ):(aV.any λkv=>decide (kv.1=k))=vs.any λkv=>decide (kv.1=k):=by
 unfold KV at r;induction r with
 |nil=>rfl
 |cons h t ih=>rw[List.any_cons,List.any_cons,ih,h.1]
theorem KV.C6{aV:List (κ×V)}{vs:List (κ×Value)}(r:KV aV vs)(k:κ)(ry:RelV y u) :
  KV (aV.map λkv=>if kv.1=k then(kv.1,y)else kv) (vs.map λkv=>if kv.1=k then(kv.1,u)else kv):=by
 unfold KV at r ⊢;induction r with
 |nil=>exact .nil
 | @cons p q ps qs h t ih=>
  rw[nO,nO];refine .cons ?_ ih;obtain⟨h1,h2⟩:=h;by_cases e:p.1=k
  ·rw[ae e,ae (h1.symm.trans e)];exact⟨h1,ry⟩
  ·rw[ah e,ah (λz=>e (h1.trans z))];exact⟨h1,h2⟩
theorem KV.put{aV:List (κ×V)}{vs:List (κ×Value)}(r:KV aV vs)(k:κ)(ry:RelV y u):KV (jb aV k y) (stored vs k u):=by
 unfold jb stored;rw[r.any k];by_cases e:(vs.any λkv=>decide (kv.1=k))=true
 ·rw[ae e,ae e];exact r.C6 k ry
 ·rw[ah e,ah e];exact Paired.snoc r ⟨rfl,ry⟩
theorem KV.length{aV:List (κ×V)}{vs:List (κ×Value)}(r:KV aV vs):aV.length=vs.length:=Paired.length r
end
theorem C7{P:Program}{w:World}{k:Key}(r:RelV (kV k) u):(jW P w).is k u=true:=by
 cases k with
 |inl i=>obtain⟨t,e⟩:=(show ∃t,u=Value.int i t from r);subst e;exact N0 P w i t
 |inr x=>obtain⟨t,e⟩:=(show ∃t,u=Value.str x t from r);subst e;exact N1 P w x t
theorem Jh{P:Program}{w:World}:∀{ks:List Key}{us:List Value},Vals (ks.map kV) us→ItemsAre (jW P w) ks us
 | [],_,r=>by rw[List.map_nil]at r;cases r;exact .nil
 |k::ks,_,r=>by
  rw[nO]at r;cases r with
  |cons h t=>exact .cons (C7 h) (Jh t)
abbrev KT(H:Hp):List (List Key×V)→List (List Key×Addr×Value)→Prop:=Paired λp q=>p.1=q.1∧H q.2.1=some (.tup (p.1.map kV))∧RelV p.2 q.2.2
theorem KT.val(r:KT H aV xs)(k:List Key):mr (gp aV k) ((atKey xs k).map (·.2)):=by
 induction r with
 |nil=>exact True.intro
 | @cons p q ps qs h t ih=>
  obtain⟨h1,_,h2⟩:=h;by_cases e:p.1=k
  ·have e':q.1=k:=h1.symm.trans e;have b:atKey (q::qs) k=some q.2:=by simp[atKey,List.find?_cons,e']
   rw[nh e,b];exact h2
  ·have e':¬q.1=k:=λz=>e (h1.trans z);have b:atKey (q::qs) k=atKey qs k:=by simp[atKey,List.find?_cons,e']
   rw[ni e,b];exact ih
theorem KT.C6(r:KT H aV xs)(k:List Key)(ry:RelV y u) :
  KT H (aV.map λkv=>if kv.1=k then(kv.1,y)else kv) (xs.map (putAt k u)):=by
 induction r with
 |nil=>exact .nil
 | @cons p q ps qs h t ih=>
  rw[nO,nO];refine .cons ?_ ih;obtain⟨h1,h2,h3⟩:=h;unfold putAt;by_cases e:p.1=k
  ·rw[ae e,ae (h1.symm.trans e)];exact⟨h1,h2,ry⟩
  ·rw[ah e,ah (λz=>e (h1.trans z))];exact⟨h1,h2,h3⟩
theorem KT.put(r:KT H aV xs)(k:List Key){b:Addr}(hb:H b=some (.tup (k.map kV)))(ry:RelV y u) :
  KT H (jb aV k y) (storedH xs k b u):=by
 have e:(aV.any λkv=>decide (kv.1=k))=(atKey xs k).isSome:=by
  rw[y6,(r.val k).RQ,Option.isSome_map]
 unfold jb storedH;rw[e];by_cases q:(atKey xs k).isSome=true
 ·rw[ae q,ae q];exact r.C6 k ry
 ·rw[ah q,ah q];exact Paired.snoc r ⟨rfl,hb,ry⟩
theorem KT.keeps(r:KT H aV xs)(ht:∀b ys,H b=some (.tup ys)→H' b=some (.tup ys)):KT H' aV xs:=
 Paired.BL r λ_ _ z=>⟨z.1,ht _ _ z.2.1,z.2.2⟩
section
variable{P:Program}{w:World}{H:Hp}{h:Heap}{a:Addr}
theorem Ji{u:HO}(ok:eh P w H h)(e:Rd H a u):dW P w H h a u:=e.ok ok
theorem C8{aV:List (Key×V)}(ok:eh P w H h)(e:Rd H a (.dK aV)):aV.length≤sizeLine∧(a==sysModules)=false∧∃vs,KV aV vs∧h.DictOf (jW P w) a vs:=
 show dW P w H h a (.dK aV) from Ji ok e
theorem RR{aV:List (Key×V)}(ok:eh P w H h)(e:H a=some (.dK aV)):aV.length≤sizeLine∧(a==sysModules)=false∧∃vs,KV aV vs∧h.DictOf (jW P w) a vs:=C8 ok (.inl e)
theorem C9{ks:List Key}(ok:eh P w H h)(e:H a=some (.tup (ks.map kV))):(tupleKind (jW P w)).is h ks a:=by
 obtain⟨_,its,r,o,h1,h2,_,n,h3⟩:=(show dW P w H h a (.tup (ks.map kV)) from ok a _ e)
 exact⟨o,its.toArray,n,h1,h2,h3,by simpa using Jh r⟩
theorem Dc(ok:eh P w H h)(e:Rd H a (.dT aV)):aV.length≤sizeLine∧(a==sysModules)=false∧
  ∃xs,KT H aV xs∧h.DictOfH (tupleKind (jW P w)) a xs:=by
 obtain⟨z,y,xs,r,o,es,ep,h1,h2,h3,h4,h5⟩:=(show dW P w H h a (.dT aV) from Ji ok e)
 refine⟨z,y,xs,r,o,es,ep,h1,h2,h3,h4,λx hx=>?_,h5⟩;have all:∀{l:List (List Key×V)}{m:List (List Key×Addr×Value)},KT H l m→∀x∈m,(tupleKind (jW P w)).is h x.1 x.2.1:=by
  intro l m q;induction q with
  |nil=>intro x hx;exact nomatch hx
  | @cons p q ps qs hq t ih=>
   intro x hx;rcases dS.mp hx with e|hx
   ·subst e;exact C9 ok (by rw[← hq.1];exact hq.2.1)
   ·exact ih x hx
 exact all r x hx
theorem RT(ok:eh P w H h)(e:H a=some (.dT aV)):aV.length≤sizeLine∧(a==sysModules)=false∧
  ∃xs,KT H aV xs∧h.DictOfH (tupleKind (jW P w)) a xs:=Dc ok (.inl e)
end
def rp(H:Hp)(a:Addr)(y:V)(r:Option V):Prop:=
 (∃aV k,Rd H a (.dK aV)∧y=kV k∧r=gp aV k)∨∃aV k b,Rd H a (.dT aV)∧y=.ref b∧H b=some (.tup (k.map kV))∧r=gp aV k
def vY(H:Hp)(a:Addr)(y v:V)(H':Hp):Prop:=
 (∃aV k,H a=some (.dK aV)∧y=kV k∧aV.length<sizeLine∧H'=upd H a (.dK (jb aV k v))) ∨
 ∃aV k b,H a=some (.dT aV)∧y=.ref b∧H b=some (.tup (k.map kV))∧aV.length<sizeLine∧H'=upd H a (.dT (jb aV k v))
theorem rp.k{H:Hp}{a:Addr}{aV:List (Key×V)}{k:Key}(e:H a=some (.dK aV)):rp H a (kV k) (gp aV k):=.inl ⟨aV,k,.inl e,rfl,rfl⟩
theorem vY.k{H:Hp}{a:Addr}{aV:List (Key×V)}{k:Key}{v:V}(e:H a=some (.dK aV))(hl:aV.length<sizeLine):vY H a (kV k) v (upd H a (.dK (jb aV k v))):=.inl ⟨aV,k,e,rfl,hl,rfl⟩
section
variable{X:Cx}{aI:List (Addr×Obj)}{σ:St}{H:Hp}{s:Shared}{a:Addr}{y v:V}{u r:Value}{o:Option V}{A:Around}{E:QV}
theorem Inv.big(I:Inv X aI σ H s):sysModules<s.heap.objs.size:=by
 have h:mainGlobals<s.heap.objs.size:=(I.mod.glob.keeps I.bk).lt;exact Nat.lt_trans (by decide) h
theorem RU{Q:QV}(hu:A.units+1<cLine)(I:Inv X aI σ H s)(g:rp H a y (some v))(ry:RelV y u)(h:∀w' s',Inv X aI σ H s'→RelV v w'→Q w' s') :
  wpAny (model X.prog X.w) A (getItem (.ref a) u) Q E s:=by
 rcases g with⟨aV,k,e,ey,l⟩|⟨aV,k,b,e,ey,eb,l⟩
 ·subst ey;obtain⟨z,hd,vs,rel,dd⟩:=C8 I.bH e;obtain⟨w',hw,mQ⟩:=mr.some_of (v:=v) (o:=valueAt vs k) (by rw[l];exact rel.val k);exact wpAny_getItem_of (C7 ry) dd.mapOf hw (h w' _ (I.tok _) mQ)
 ·subst ey;cases(show u=Value.ref b from ry)
  obtain⟨z,hd,xs,rel,dd⟩:=Dc I.bH e;obtain⟨w',hw,mQ⟩:=mr.some_of (v:=v) (o:=(atKey xs k).map (·.2)) (by rw[l];exact rel.val k);obtain⟨p,hp,CJ⟩:=Option.map_eq_some_iff.mp hw;refine wpAny_getItem_heap (tupleKind_room_in1 hu) (C9 I.bH eb) dd hp ?_;rw[CJ];exact h w' _ (I.tok _) mQ
theorem Jj{h':Heap}{t':Nat}{ob:HO}(I:Inv X aI σ H s)(mu:vi (H a))(hs:Heap.SameBut a s.heap h')(he:∃q,h'.get? a=some q)(new:dW X.prog X.w (upd H a ob) h' a ob) :
  Inv X aI σ (upd H a ob) { s with heap:=h',toks:=t' }:=
 I.write (x:=a) (e:=a) mu (.inl rfl) (λb q hb z=>(hs.2 b hb).trans z) he new
theorem RV{P:Program}{w:World}{h':Heap}{aV:List (Key×V)}{vs:List (Key×Value)}(z:aV.length≤sizeLine)(hd:(a==sysModules)=false)(rel:KV aV vs)(dd:h'.DictOf (jW P w) a vs) :
  dW P w H' h' a (.dK aV):=⟨z,hd,vs,rel,dd⟩
theorem RW{Q:Unit→Shared→Prop}(hu:A.units+1<cLine)(I:Inv X aI σ H s)(g:vY H a y v H')(ry:RelV y u)(rv:RelV v r)(h:∀s',Inv X aI σ H' s'→Q () s') :
  wpAny (model X.prog X.w) A (setItem (.ref a) u r) Q E s:=by
 rcases g with⟨aV,k,e,ey,l,eH⟩|⟨aV,k,b,e,ey,eb,l,eH⟩
 ·subst ey eH;obtain⟨z,hd,vs,rel,dd⟩:=RR I.bH e;have hz:vs.length≤sizeLine:=by rw[← rel.length];exact z
  have hl:(jb aV k v).length≤sizeLine:=by have:=C5 aV k v;lia
  refine wpAny_setItem_pairs (hsz:=hz) (C7 ry) dd λh' y8 hs=>h _ ?_;have he:∃q,h'.get? a=some q:=let ⟨q,_,_,hq,_⟩:=y8;⟨q,hq⟩;exact Jj I (by rw[e];exact True.intro) hs he (RV hl hd (rel.put k rv) y8)
 ·subst ey eH;cases(show u=Value.ref b from ry)
  obtain⟨z,hd,xs,rel,dd⟩:=RT I.bH e;have hz:xs.length≤sizeLine:=by rw[← Paired.length rel];exact z
  have hl:(jb aV k v).length≤sizeLine:=by have:=C5 aV k v;lia
  refine wpAny_setItem_heap (hsz:=hz) (tupleKind_room_in1 hu) (C9 I.bH eb) dd λh' y8 hs=>h _ ?_;obtain⟨q,es,ep,hq,h2,h3,h4,_,h5⟩:=y8;refine Jj I (by rw[e];exact True.intro) hs ⟨q,hq⟩ ⟨hl,hd,_,(rel.put k eb rv).keeps λc ys ec=>?_,q,es,ep,hq,h2,h3,h4,h5⟩;rw[cn (N2 ec e (λz=>nomatch z))];exact ec
end
section
variable{X:Cx}{aI:List (Addr×Obj)}{σ:St}{H:Hp}{s:Shared}{a:Addr}{aV:List (Key×V)}{k:Key}{u:Value}{A:Around}{E:QV}
end
def Dd(i:Expr):Prop:=∀ov iv,subscripted i false ov iv=operate [ov,iv] (getItem ov iv)
theorem Jk{prog:Program}{w:World}{A:Around}{E:QV}{s:Shared}{env:Env}{value slice:Expr}{pos:Pos}{T id:String}{Q:QV}
  (hl:typeLookup (.type T) "__getitem__"=pure (some (.builtin id))) (hs:Dd slice)
  (h:wpAny (model prog w) A (eval value env) (λo s₁=>wpAny (model prog w) A (eval slice env) (λi s₂=>s₂.TypeIs o T∧wpAny (model prog w) A (getItem o i) Q E s₂) E s₁) E s) :
  wpAny (model prog w) A (eval (.Subscript value slice pos) env) Q E s:=by
 refine Subscript_ (ai h (λo s₁ h₁=>ai h₁ (λi s₂ h₂=>?_) λ_ _ x=>x) λ_ _ x=>x);obtain⟨hT,h₂⟩:=h₂;unfold subscriptTail;refine aq ?_;rw[getitemInPython_of_ne hT.not_modules];refine aq (wpAny_specialOf hT hl ?_);have fin:wpAny (model prog w) A (subscripted slice false o i) (λr s₃=>wpAny (model prog w) A (letTemporaryGo value o r >>= λ_=>pure r) Q E s₃) E s₂:=by
  rw[hs o i];exact wpAny_operating (ai h₂ (λr s₃ h₃=>aq (wpAny_letTemporaryGo (av h₃))) λ_ _ x=>x)
 first
  |exact av (aq fin)
  |exact aq (av (aq fin))
  |exact aq fin
theorem RX{X:Cx}{aI:List (Addr×Obj)}{σ:St}{s:Shared}{a:Addr}{o:Option V}(I:Inv X aI σ H s)(g:rp H a y o):s.TypeIs (.ref a) "dict":=by
 rcases g with⟨aV,k,e,_,_⟩|⟨aV,k,b,e,_,_,_⟩
 ·obtain⟨_,_,vs,_,dd⟩:=C8 I.bH e;exact dd.typeIs
 ·obtain⟨_,_,xs,_,dd⟩:=Dc I.bH e;exact dd.typeIs
def RY(td ty:TE):TE:=λσ H Q=>td σ H λx H1=>ty σ H1 λy H2=>∃a v,x=.ref a∧rp H2 a y (some v)∧Q v H2
def RZ(td ty tv:TE):TS:=λD σ H=>tv σ H λv H1=>td σ H1 λx H2=>ty σ H2 λy H3=>∃a H4,x=.ref a∧vY H3 a y v H4∧D.nx σ H4
section
variable{X:Cx}{o i e value:Expr}{pos my OV:Pos}{td ty tv:TE}
theorem Jl(hu:X.A.units+1<cLine)(ho:PE X o td)(hi:PE X i ty)(hs:Dd i):PE X (.Subscript o i pos) (RY td ty):=by
 intro aI s σ H Q I h;refine Jk PySem.F.slot_dict_getitem.lookup hs (bj (ho aI s σ H _ I h) λu s1 ⟨x,H1,I1,rx,q1⟩=>bj (hi aI s1 σ H1 _ I1 q1) λiv s2 ⟨y,H2,I2,ry,a,v,ex,g,q2⟩=>?_);subst ex;obtain rfl:u=Value.ref a:=rx;exact⟨RX I2 g,RU hu I2 g ry λw' s3 I3 mQ=>⟨v,H2,I3,mQ,q2⟩⟩
theorem R0(hu:X.A.units+1<cLine)(ho:PE X o td)(hi:PE X i ty)(hv:PE X value tv)(hs:swapsWith value (some (.Subscript o i my)) pos.line X.env=pure false) :
  PS X (.Assign [.Subscript o i my] value pos) (RZ td ty tv):=by
 intro aI s σ H D I h;refine wpAny_Assign_Subscript (bj (hv aI s σ H _ I h) λr s1 ⟨v,H1,I1,rv,q1⟩=>bj (ho aI s1 σ H1 _ I1 q1) λu s2 ⟨x,H2,I2,rx,q2⟩=>bj (hi aI s2 σ H2 _ I2 q2) λiv s3 ⟨y,H3,I3,ry,a,H4,ex,g,q3⟩=>?_) hs;subst ex;obtain rfl:u=Value.ref a:=rx;exact RW hu I3 g ry rv λs4 I4=>⟨σ,H4,I4,q3⟩
end
theorem R1{P:Program}{w:World}(h:Heap)(hb:sysModules<h.objs.size):dW P w H (h.push { cls:=.type "dict",data:=.dict #[] }) h.objs.size (.dK []):=
 ⟨mi _,beq_eq_false_iff_ne.mpr (Ne.symm (gX hb)),[],.nil,Heap.DictOf.new h⟩
def R3:TE:=λ_ H Q=>∀p,H p=none→Q (.ref p) (upd H p (.dK []))
section
variable{X:Cx}{pos:Pos}
theorem R4:PE X (.Dict [] [] pos) R3:=λaI s σ H Q I h=>
 wpAny_Dict_empty ⟨.ref s.heap.objs.size,_,I.laid (a:=s.heap.objs.size) (o:=.dK []) (t':=s.toks) (λ_ _ q=>dH _ q) (ck _) (R1 s.heap I.big),rfl,h _ (I.bH.fresh (ck _))⟩
end
structure M2(X:Cx)(o:Expr)(m:Str)(iH:Pos)(e f:Expr)(eO:Pos):Prop where
 base:attributeBase o m X.env (eval o X.env)=eval o X.env
 og:((backTo eO (starEach [e,f] X.env)).all (λx=>!x.1)&&(backToKw eO (keywordEach [] X.env)).all (λx=>x.1.isSome)
  && decide (([e,f]:List Expr).length+([]:List Keyword).length+(if([]:List Keyword).isEmpty then 0 else 1)<30))=true
 line:(iH.endLine==eO.line)=true
 trees:backTo eO (starEach [e,f] X.env)=[(false,eval e X.env),(false,eval f X.env)]
section
variable{X:Cx}{aI:List (Addr×Obj)}{σ:St}{H:Hp}{s:Shared}{a:Addr}{y d:V}{u r:Value}{o:Option V}{A:Around}{E:QV}
end
section
variable{X:Cx}{o e f:Expr}{iH eO:Pos}{td ty tx:TE}
end
section
variable{X:Cx}{aI:List (Addr×Obj)}{σ:St}{H:Hp}{s:Shared}{a:Addr}{aV:List (Key×V)}{A:Around}{E:QV}
end
section
variable{X:Cx}{aI:List (Addr×Obj)}{σ:St}{H:Hp}{s:Shared}{a:Addr}{y:V}{u:Value}{A:Around}{E:QV}
end
end L2
namespace HT
open PySem PySem.Spec PyProof.Rows
variable{prog:Program}{w:World}{A:Around}{E:QV}{s:Shared}
theorem R5{t sl:Addr}{items:Array Value}{vl vu:Value}{lo hi:Option Int}{Q:QV}(ht:IsTup s.heap t items)(hs:s.heap.IsSliceOf sl vl vu .none)(pl:IsPart vl lo)(pu:IsPart vu hi)
  (h0:cz items.size 0 lo=0) (h1:cz items.size items.size hi=items.size) (h:Q (.ref t) s):wpAny (model prog w) A (getItem (.ref t) (.ref sl)) Q E s:=by
 obtain⟨os,q0,yi,vD⟩:=id hs;have tj:s.TypeIs (.ref sl) "slice":=⟨os,q0,yi⟩;unfold getItem
 try with_reducible refine ar ?_
 first|refine aq (av ?_)|skip
 refine aq (wpAny_sequenceKey ht.typeIs (by decide) ?_);refine aq (az (name:=Str.ofString "__getitem__") ht.typeIs xM (aA xM ht.typeIs entry_tuple_getitem ?_ (args_tuple_getitem _ _)));show wpAny _ _ (Builtin.Tuple.tupleItemsOf (.ref t) >>= _) _ _ s;refine aq (tupleItemsOf_ ht ?_);refine aq (wpAny_typeOf tj ?_);rw[ae (by decide)];refine aq (G7 hs pl pu ?_);have R6:(((cz items.size 0 lo:Nat):Int)==0&&(1:Int)==1&&(cz items.size items.size hi-cz items.size 0 lo)==items.size)=true:=by
  rw[h0,h1];simp
 show wpAny _ _ (if(((cz items.size 0 lo:Nat):Int)==0&&(1:Int)==1&&(cz items.size items.size hi-cz items.size 0 lo)==items.size)=true then _ else _) _ _ s
 rw[ae R6];unfold Builtin.Tuple.tupleIsExact;refine aq (aq (wpAny_typeOf ht.typeIs (av ?_)));rw[ae (by decide)];first
  |exact aq (av (av ⟨_,rfl,av h⟩))
  |exact aq (m:=rule _) (av ⟨_,rfl,av h⟩)
  |exact av ⟨_,rfl,av h⟩
  |exact aq (wpAny_rule (av ⟨_,rfl,av h⟩))
  |exact aq (wpAny_rule (aq (av (av ⟨_,rfl,av h⟩))))
end HT
namespace L2
open PySem PySem.Spec PyProof.Rows
variable{H H':Hp}{Q:QV}{X:Cx}{a c f:Addr}{fd:FuncData}{h:Heap}{i:Int}{ps:List Str}{qual x:Str}{s:Shared}{st:Stmt}
def ia(K:Frag):V→Option Int→Option Int→Hp→VK→Prop:=λx lo hi H Q=>∃a xs,x=.ref a∧aZ K H a xs∧jD K H (ir xs lo hi) Q
theorem R7:q5 X (ia X.K):=by
 intro aI s σ H x v vl vu lo hi sl Q I rx hs pl pu h;obtain⟨a,xs,rfl,hx,q⟩:=h;by_cases hw:HT.cz xs.length 0 lo=0∧HT.cz xs.length xs.length hi=xs.length
 ·cases rx;obtain⟨its,r,ht,hz⟩:=I.tuple hx;have cA:its.toArray.size=xs.length:=by rw[dm];exact r.length.symm
  refine⟨"tuple",_,xM.lookup,ht.typeIs,?_⟩;refine HT.R5 ht hs pl pu (by rw[cA];exact hw.1) (by rw[cA];exact hw.2) ?_;refine⟨.ref a,H,I,rfl,q.old ?_⟩;unfold ir;rw[hw.1,hw.2,List.drop_zero,Nat.sub_zero,kq];exact hx
 ·exact G9 aI s σ H _ v vl vu lo hi sl Q I rx hs pl pu ⟨a,xs,rfl,hx,hw,λp hp=>q.new hp⟩
theorem fN(K:Frag)(hK:X.K=K):q5 X (ia K):=hK▸R7
section
variable{X:Cx}
theorem R8(hc:X.calm=true):g6 X (.builtin "any") (λxs H Q=>∃p ns,xs=[.ref p]∧aZ X.K H p (List.map V.int ns)∧Q (.bl (ns.any λn=>n != 0)) H):=by
 intro aI s σ H vs us Q I r h;obtain⟨p,ns,rfl,hq,q⟩:=h;obtain⟨u,rfl,ru⟩:=vals1 r;cases ru;obtain⟨its,rv,ht,hz⟩:=I.tuple hq;have cN:p<s.heap.objs.size:=ht.lt;have cA:its.length=ns.length:=by have:=rv.length;rw[bz]at this;exact this.symm
 apply call_any_walk;apply wpAny_pyIter_tuple ht;refine⟨s.heap.objs.size,[s.heap.objs.size,p],[s.heap.objs.size],its.toArray.size,_,_,λi=>((ns.map λn=>n != 0)[i]?).getD false,rfl,Walks.tuple (A:=X.A.in1) (I.ok.hd hc) _ p (gX cN) its.toArray,⟨⟨_,ij _ rfl,rfl,rfl⟩,ht.push _⟩,λi v s1 Q1 E1 hP hQ=>?_,λh1 tk1 hk=>?_⟩
 ·have hP:its[i]?=some v:=by simpa using hP
  have hi:i<ns.length:=by rw[← cA];exact(gi.mp hP).1
  have hx:(ns.map V.int)[i]?=some (.int ns[i]):=by simp[hi]
  obtain⟨u,hu,ru⟩:=rv.get hx;rw[hP]at hu;cases hu;obtain⟨t,rfl⟩:=ru;dsimp only at hQ;rw[show(ns.map λn=>n != 0)[i]?=some (ns[i] != 0) by simp[hi],Option.getD_some]at hQ;exact truthy_int hQ
 ·have e:((List.range its.toArray.size).any λi=>((ns.map λn=>n != 0)[i]?).getD false)=ns.any λn=>n != 0:=by
   have e2:=Ru (ns.map λn=>n != 0);rw[bz]at e2;rw[dm,cA,e2,List.any_map];rfl
  rw[e];refine⟨.bl _,H,I.kept (λb x e=>hk b x (λhm=>by rw[dI.mp hm]at e;exact sG _ (dG e)) (dH _ e)),rfl,q⟩
theorem R9(K:Frag)(hK:X.K=K)(hc:X.calm=true):g6 X (.builtin "any") (λxs H Q=>∃p ns,xs=[.ref p]∧aZ K H p (List.map V.int ns)∧Q (.bl (ns.any λn=>n != 0)) H):=hK▸R8 hc
end
section
variable{K:Frag}{H1:Hp}{cp:St}{tt:TT}{te:TE}{Q:VK}{xs ys:List V}{l1 l2:Addr}{b1 b2:Bool}
end
def lT(H:Hp)(Pt:Addr)(pos:Pos)(qual:Str):Prop:=
 H Pt=some (.eK #[])∨∃c',H Pt=some (.eK #[rawInt pos.line,rawInt pos.col,.ref c'])∧H c'=some (.ext λh=>h.CodeRec (.ref c') qual)
def y9(Pt:Addr)(H H':Hp):Prop:=∀b o,H b=some o→b≠Pt→H' b=some o
def Jm(H:Hp)(f:Addr)(qual:Str)(params:Arguments)(body:Expr)(scope:Scope)(cl:List (Str×Addr)):Prop:=
 ∃c',H f=some (.ext λh=>∃pm fG,h.get? f=some (PySem.W.kla_obj "<lambda>" qual params body scope cl pm c' fG))∧H c'=some (.ext λh=>h.CodeRec (.ref c') qual)
theorem Sa{P:Program}{w:World}(x:h.CodeRec (.ref c) qual):dW P w H h c (.ext λh=>h.CodeRec (.ref c) qual):=by
 refine⟨x,?_,λh1 h2 z k=>?_⟩
 ·obtain⟨c2,oc,vs,t,e,ho,_⟩:=x;cases e;exact⟨oc,ho⟩
 ·obtain⟨c2,oc,vs,t,e,ho,r⟩:=z;cases e;exact⟨c,oc,vs,t,rfl,k _ ho,r⟩
theorem Jn{P:Program}{w:World}{params:Arguments}{body:Expr}{scope:Scope}{cl:List (Str×Addr)}{pm fG:Value}(x:h.get? f=some (PySem.W.kla_obj "<lambda>" qual params body scope cl pm c fG)) :
  dW P w H h f (.ext λh=>∃pm fG,h.get? f=some (PySem.W.kla_obj "<lambda>" qual params body scope cl pm c fG)):=
 ⟨⟨pm,fG,x⟩,⟨_,x⟩,λh1 h2 ⟨pm,fG,z⟩ k=>⟨pm,fG,k _ z⟩⟩
def qa(mg:Str→Option Value)(h:Heap):Prop:=∃bm ob,mg "__builtins__"=some (.ref bm)∧bm≠builtinsNs∧h.get? bm=some ob∧ob.cls=.type "module"∧ob.dict=some builtinsNs∧ob.data=.plain
section
variable{X:Cx}
def Sb(Pt:Addr)(pos:Pos)(qual:Str)(params:Arguments)(body:Expr)(scope:Scope)(cl:List (Str×Addr)):TE:=λ_ H Q=>lT H Pt pos qual∧
 ∀f H',H f=none→y9 Pt H H'→lT H' Pt pos qual→Jm H' f qual params body scope cl→Q (.ref f) H'
theorem Sd{params:Arguments}{body:Expr}{scope:Scope}{pos:Pos}{Pt:Addr}{cl:List (Str×Addr)}(Jo:X.env.code=.ref c)(C:CodeHd X.base c Pt)(B:qa X.mg X.base)(Jp:closureFor scope X.env=pure cl)(Se:defaultsOf params X.env=([],[]):=by rfl) :
  PE X (.Lambda params body scope pos) (Sb Pt pos (X.env.qual ++ "<lambda>") params body scope cl):=by
 intro aI s σ H Q I h;obtain⟨hT,h⟩:=h;generalize hq:X.env.qual ++ "<lambda>"=qual at hT h;refine PySem.W.kla_eval Se ?_;rw[hq];have hg:s.heap.Ns mainGlobals X.mg:=I.mod.glob.keeps I.bk;have Cs:=C.keeps I.bk;obtain⟨bm,ob,b1,b2,b3,b4,b5,b6⟩:=B;have Jq:bm≠mainGlobals:=λq=>by
  obtain⟨o,es,ep,e,hd,_⟩:=I.mod.glob;rw[q,e]at b3;cases b3;rw[hd]at b6;cases b6
 have Sf:∃ps,H Pt=some (.eK ps):=hT.elim (λz=>⟨_,z⟩) λ⟨_,z,_⟩=>⟨_,z⟩;obtain⟨Sh,vZ⟩:=Sf;have v5:s.heap.get? Pt=some (PySem.W.tabObj Sh):=I.bH Pt _ vZ;have Si:mainGlobals≠Pt:=λq=>by
  obtain⟨o,es,ep,e,hd,_⟩:=hg;rw[q,v5]at e;cases e;cases hd
 have Jr:bm≠Pt:=λq=>by
  have e:=I.bk _ _ b3;rw[q,v5]at e;cases e;cases b4
 have Js:Pt<s.heap.objs.size:=dG v5;rcases hT with hT|⟨c',hT,hc⟩
 ·rw[hT]at vZ;cases vZ;refine PySem.W.kla_makeFunction (mg:=X.mg) Jp I.ok.glob hg Jo Cs v5 trivial rfl Si ⟨bm,ob,b1,b2,Jq,Jr,I.bk _ _ b3,b4,b5,b6⟩ λc' fG h' tk hx za cN Sj Sk=>?_;have hsz:s.heap.objs.size≤h'.objs.size:=ft za (oO cN);have hn:∀a,s.heap.objs.size≤a→H a=none:=λa ha=>I.bH.fresh ha;have Sl:Pt≠c':=gX (ip Js za);have Jt:Pt≠h'.objs.size:=gX (ip Js hsz);have Ju:c'≠h'.objs.size:=gX cN;have hk:∀b o,b≠Pt→s.heap.get? b=some o→(h'.push (PySem.W.kla_obj "<lambda>" qual params body scope cl ((X.mg "__name__").getD .none) c' fG)).get? b=some o:=λb o hb e=>dH _ (hx b o hb e);have hf:(h'.push (PySem.W.kla_obj "<lambda>" qual params body scope cl ((X.mg "__name__").getD .none) c' fG)).get? h'.objs.size=some (PySem.W.kla_obj "<lambda>" qual params body scope cl ((X.mg "__name__").getD .none) c' fG):=ij _ rfl;have Jv:(h'.push (PySem.W.kla_obj "<lambda>" qual params body scope cl ((X.mg "__name__").getD .none) c' fG)).CodeRec (.ref c') qual:=by
   obtain⟨c2,oc,vs,t,e,ho,r⟩:=Sj;exact⟨c2,oc,vs,t,e,dH _ ho,r⟩
  have De:(h'.push (PySem.W.kla_obj "<lambda>" qual params body scope cl ((X.mg "__name__").getD .none) c' fG)).get? Pt=some (PySem.W.tabObj (#[]++#[rawInt pos.line,rawInt pos.col,.ref c'])):=dH _ Sk;generalize h'.push (PySem.W.kla_obj "<lambda>" qual params body scope cl ((X.mg "__name__").getD .none) c' fG)=hh at hk hf Jv De ⊢;generalize h'.objs.size=f at hsz Jt Ju hf ⊢;have Df:=hn f hsz;have Sm:=hn c' za
  let H':Hp:=upd (upd (upd H Pt (.eK (#[]++#[rawInt pos.line,rawInt pos.col,.ref c']))) c' (.ext λh=>h.CodeRec (.ref c') qual)) f (.ext λh=>∃pm fG,h.get? f=some (PySem.W.kla_obj "<lambda>" qual params body scope cl pm c' fG))
  have e1:∀b,b≠f→b≠c'→b≠Pt→H' b=H b:=λb x1 x2 x3=>by
   show upd (upd (upd H Pt _) c' _) f _ b=_;rw[cn x1,cn x2,cn x3]
  have e2:H' Pt=some (.eK (#[]++#[rawInt pos.line,rawInt pos.col,.ref c'])):=by
   show upd (upd (upd H Pt _) c' _) f _ Pt=_;rw[cn Jt,cn Sl,aX]
  have e3:H' c'=some (.ext λh=>h.CodeRec (.ref c') qual):=by
   show upd (upd (upd H Pt _) c' _) f _ c'=_;rw[cn Ju,aX]
  have e4:H' f=some (.ext λh=>∃pm fG,h.get? f=some (PySem.W.kla_obj "<lambda>" qual params body scope cl pm c' fG)):=aX;have e5:∀b o,H b=some o→b≠Pt→H' b=some o:=λb o q hb=>by
   rw[e1 b (eT q Df) (eT q Sm) hb];exact q
  have zb:∀b o,H b=some o→(∀ps,o≠.eK ps)→b≠Pt:=λb o q ht z=>by
   rw[z,hT]at q;exact ht _ (dj q).symm
  refine⟨.ref f,H',I.un (t':=tk) ⟨λb o e n _ _=>hk b o (λz=>by rw[z,hT]at n;cases n) e,λb o e n _ _=>⟨o.slots,hk b o (λz=>by rw[z,hT]at n;cases n) e⟩,λb o e n _=>?_,λb o e _=>?_,λb xs q=>e5 b _ q (zb b _ q λ_ z=>nomatch z),λb o u q=>e5 b _ q (zb b _ q λ_ z=>nomatch z),λb ps q=>?_⟩ λa o e=>?_,rfl,h f H' Df e5 (.inr ⟨c',by rw[e2];rfl,e3⟩) ⟨c',e4,e3⟩⟩
  ·have hb:=dG e;rw[e1 b (gX (ip hb hsz)) (gX (ip hb za)) (λz=>by rw[z,hT]at n;cases n)];exact n
  ·by_cases hb:b=Pt
   ·rw[hb];exact⟨_,De⟩
   ·exact⟨o,hk b o hb e⟩
  ·by_cases hb:b=Pt
   ·subst hb;rw[hT]at q;cases q;exact⟨_,e2⟩
   ·exact⟨#[],by rw[e5 b _ q hb];simp⟩
  ·by_cases eX:a=f
   ·subst eX;rw[e4]at e;cases e;exact Jn hf
   by_cases jj:a=c'
   ·subst jj;rw[e3]at e;cases e;exact Sa Jv
   by_cases tI:a=Pt
   ·subst tI;rw[e2]at e;cases e;exact De
   ·rw[e1 a eX jj tI]at e;refine(I.bH a o e).oT (λb u hb q=>hk b u (λz=>?_) q) (λb q=>e5 b _ q (zb b _ q λ_ z=>nomatch z)) λb xs q=>e5 b _ q (zb b _ q λ_ z=>nomatch z);rcases hb with hb|hb
    ·exact tI (hb▸z)
    ·rw[z,hT]at hb;cases hb
 ·rw[hT]at vZ;cases vZ;refine PySem.W.kla_makeFunctionHit (cv:=.ref c') (mg:=X.mg) Jp I.ok.glob hg Jo Cs v5 (by simp[TriplesOk,rawInt]) (by simp[codeAmong,rawInt]) ⟨bm,ob,b1,b2,Jq,Jr,I.bk _ _ b3,b4,b5,b6⟩ λfG h' tk hk hsz=>?_;have hn:H h'.objs.size=none:=I.bH.fresh hsz;refine⟨.ref h'.objs.size,_,I.laid (t':=tk) (o:=.ext λh=>∃pm fG,h.get? h'.objs.size=some (PySem.W.kla_obj "<lambda>" qual params body scope cl pm c' fG)) (λb u e=>dH _ (hk b u e)) hsz (Jn (ij _ rfl)),rfl,?_⟩;have e5:∀b o,H b=some o→(upd H h'.objs.size (.ext λh=>∃pm fG,h.get? h'.objs.size=some (PySem.W.kla_obj "<lambda>" qual params body scope cl pm c' fG))) b=some o:=λb o q=>by rw[cn (eT q hn)];exact q
  exact h _ _ hn (λb o q _=>e5 b o q) (.inr ⟨c',e5 _ _ hT,e5 _ _ hc⟩) ⟨c',aX,e5 _ _ hc⟩
end
structure rq(P:Program)(w:World)(K:Frag)(mg:Str→Option Value)(base:Heap)(k:Nat)(f:Addr)(fd:FuncData)(ps:List Str)(sp:Shared→Sp):Prop where
 len:∀s vs H Q E,sp s vs H Q E→vs.length=ps.length
 run:∀(A:Around)(outer:List Env)(s:Shared)(H:Hp)(args:Args)(us:List Value)(vs:List V)(Q:VK)(E:XK),dt k A→sY P w K mg base A outer s H→BindsTo s fd args (ps.zip us)→Vals vs us→sp s vs H Q E→
  codeAny (model P w) A (.call (.ref f) args) (CR br outer P w H s Q E) s
section
variable{P:Program}{w:World}{K:Frag}{mg:Str→Option Value}{base:Heap}
theorem cC.Jw{N:List Str}{k:Nat}{sp:Shared→Sp}(F:cC K x qual st f fd)(S:c8 N ps (bx st))(len:∀s vs H Q E,sp s vs H Q E→vs.length=ps.length)
  (mK:∀(bV:Value)(A:Around)(outer:List Env)(s:Shared)(H:Hp)(vs:List V)(Q:VK)(E:XK),dt k (A.deeper (envOfC qual (bx st) s.heap.objs.size f bV))→sp s vs H Q E→
   ∃t,iX (kE br P w K mg base N qual (bx st) f bV A outer s H E).jY (j7 st) t∧t { nx:=λ_ H'=>Q .cI H',rt:=Q } (start N vs) H):rq P w K mg base (k+1) f fd ps sp:=by
 obtain⟨oc,od,kV,doc,pm,an,bV,ct,lK,rfl,lk,gQ⟩:=F.ex;refine⟨len,λA outer s H args us vs Q E hr e0 hb r jm=>?_⟩;have hl:=len _ _ _ _ _ jm;have KX:K.In s.heap:=e0.mod.qI.keeps λb o e=>(e0.bs b o e).1;have qY:s.heap.NoLimit:=e0.mod.nolimit.keeps λb o e=>(e0.bs b o e).1;have vC:∀y∈ps.zip us,(bx st).names.lookup y.1=some .local∨((bx st).names.lookup y.1=some .cell∧((cellsFrom (s.heap.objs.size+1) (bx st).names []).lookup y.1).isSome=true):=λ⟨n,v⟩ hy=>by
  rcases S.par n (vb hy).1 with q|q
  ·exact .inl q
  ·exact .inr ⟨q,BF _ _ _ (.inl q)⟩
 refine codeAny_call_function hr.depth (KX _ _ lk) rfl S.co S.gen rfl (PySem.W.codeRec_of KX gQ) (hb _ _ _ _ ?_);refine ay S.kind vC λenv he s1 x=>?_;subst he;refine⟨qY.keeps x.toInCall.keep,codeAny_func ?_⟩;obtain⟨t,ht,hq⟩:=mK bV A outer s H vs Q E (hr.deeper _) jm;have I:Inv (kE br P w K mg base N qual (bx st) f bV A outer s H E) [] (start N vs) H s1:=Ca S hr.hd e0 hl r x;refine ai (ht.jY [] s1 (start N vs) H _ I hq) (λfl s' hs=>?_) λe s' hs=>hs;have fin:∀{σ':St}{H':Hp}{v:V}{u:Value},Inv (kE br P w K mg base N qual (bx st) f bV A outer s H E) [] σ' H' s'→RelV v u→Q v H'→CE outer P w H s Q u s':=
  λ{σ' H' v u} J rv q=>⟨v,H',J.os,J.bare,J.base,J.bH,rv,q⟩
 cases fl with
 |ret u=>
  obtain⟨v,σ',H',J,rv,q⟩:=hs;exact fin J rv q
 |next=>
  obtain⟨σ',H',J,q⟩:=hs;exact fin (v:=V.cI) (u:=Value.none) J rfl q
 |brk=>
  obtain⟨_,_,_,q⟩:=hs;exact False.elim q
 |cont=>
  obtain⟨_,_,_,q⟩:=hs;exact False.elim q
end
section
variable{X:Cx}{k:Nat}{f:Addr}{fd:FuncData}{ps:List Str}{x:Str}{p pos:Pos}{e:Expr}{es:List Expr}{t:TA}{te:TE}
theorem Dg{sp:Shared→Sp}(F:rq X.prog X.w X.K X.mg X.base k f fd ps sp)(hr:dt k X.A)(hg:Gl X x)(hm:X.mg x=some (.ref f))(hk:Kp X.K f)(hb:Binds X.K fd ps [])
  (ha:PA X (e::es) t) (qW:(x==("__debug__":Str))=false:=by decide) (he:starEach (e::es) X.env=(false,eval e X.env)::starEach es X.env:=by rfl) (jl:(backTo pos (starEach es X.env)).any (·.1)=false:=by rfl) :
  PE X (.Call (.Name x p) (e::es) [] pos) (λσ H Q=>t σ H λvs H1=>∀aI s,Inv X aI σ H1 s→sp s vs H1 Q E0):=by
 intro aI s σ H Q I h;refine ax (BQ I hg hm ?_ qW);refine PySem.W.callWith_K (h₀:=X.base) I.ok.mod.qI hk (bj (ha pos aI s σ H _ I h) λus s1 ⟨vs,H1,I1,r,q⟩=>⟨I1.ff,?_⟩) he jl;have hs:=q aI s1 I1;have hl:us.length=ps.length:=by rw[← r.length];exact F.len _ _ _ _ _ hs
 have rA:=hb s1 us I1.ff (by rw[gY];exact hl);rw[gY]at rA;refine wpAny_call (codeAny_mono (F.run X.A X.stack s1 H1 ⟨us,[]⟩ us vs Q E0 hr I1.B8 rA r hs) λr s' hq=>?_);cases r with
 |error e=>exact False.elim hq
 |ok fl=>
  cases fl with
  |ret u=>exact I1.after hq
  |next=>exact False.elim hq
  |brk=>exact False.elim hq
  |cont=>exact False.elim hq
end
noncomputable def Dh(P:Program)(w:World)(K:Frag)(mg:Str→Option Value)(base:Heap)(N:List Str)(qual:Str)(scope:Scope)(f c:Addr)(cl:List (Str×Addr))(A:Around)(outer:List Env)(s:Shared)(H:Hp):Cx where
 prog:=P
 w:=w
 K:=K
 mg:=mg
 base:=base
 A:=A.deeper (PySem.W.envX qual scope s.heap.objs.size f (.ref c) cl)
 N:=N
 s₀:=s
 H₀:=H
 env:=PySem.W.envX qual scope s.heap.objs.size f (.ref c) cl
 outer:=outer
 stack:=PySem.W.envX qual scope s.heap.objs.size f (.ref c) cl::outer
 ex:=[]
 calm:=true
 fn:=λ_=>false
 pn:=[]
 xe:=λe s'=>wpAny (model P w) (A.deeper (PySem.W.envX qual scope s.heap.objs.size f (.ref c) cl)) (leaving (PySem.W.envX qual scope s.heap.objs.size f (.ref c) cl) e) (λ_ _=>False) (λ_ _=>False) s'
section
variable{P:Program}{w:World}{K:Frag}{mg:Str→Option Value}{base:Heap}
end
section
variable{P:Program}{w:World}{K:Frag}{mg:Str→Option Value}{base:Heap}
theorem cC.Sn{N:List Str}{k:Nat}{sp:Sp}(F:cC K x qual st f fd)(S:c8 N ps (bx st))(len:∀vs H Q E,sp vs H Q E→vs.length=ps.length)
  (mK:∀(bV:Value)(A:Around)(outer:List Env)(s:Shared)(H:Hp)(vs:List V)(Q:VK)(E:XK),fd.code=bV→dt k (A.deeper (envOfC qual (bx st) s.heap.objs.size f bV))→sp vs H Q E→
   ∃t,iX (kE br P w K mg base N qual (bx st) f bV A outer s H E).jY (j7 st) t∧t { nx:=λ_ H'=>Q .cI H',rt:=Q } (start N vs) H):bu P w K mg base br (k+1) f fd ps sp:=by
 obtain⟨oc,od,kV,doc,pm,an,bV,ct,lK,rfl,lk,gQ⟩:=F.ex;refine G3 lk gQ S len λA outer s H vs Q E hr jm=>?_;obtain⟨t,h,q⟩:=mK bV A outer s H vs Q E rfl hr jm;exact⟨t,h.jY,q⟩
theorem So{Pt:Addr}{oc:Value}{od:Option Addr}{sl:Array (Option Value)}(a:nsIn K mainGlobals x=some (some (.ref f)))(l:K.lookup f=some ⟨oc,od,.func fd,sl⟩)(t:tabIn K x=some (c,Pt)):fd.code=.ref c:=by
 unfold tabIn at t;rw[a]at t;simp only[l]at t;split at t
 ·rename_i c2 hc
  split at t
  ·split at t
   ·cases t;exact hc
   ·cases t
  ·cases t
 ·cases t
theorem Sr{tabs:List (Addr×Addr)}{mb:Str→Option Value}{k:Nat}{fa:Addr}{sp:Sp}{s₁:Shared}{vs:List Value}{ns:List Int}
  (KX:K.In s₁.heap) (noT:PySem.W.noTabs K=true) (hT:PySem.W.TabsAt tabs s₁.heap) (zd:s₁.heap.Ns mainGlobals mg) (hb:s₁.heap.Ns builtinsNs mb) (rA:∀x:Str,x ≠ "__name__"→mb x=bootBuiltins x) (Ss:qa mg s₁.heap) (Su:s₁.heap.NoLimit) (hg:s₁.gens=#[])
  (ha:s₁.heap.get? a=some { cls:=.type "list",data:=.seq vs.toArray }) (hi:IntsAre vs ns) (hl:ns.length≤sizeLine) (hr:dt k callerA)
  (F:∀base:Heap,K.In base→base.Ns mainGlobals mg→qa mg base→(∀q∈tabs,CodeHd base q.1 q.2)→bu P w K mg base br k fa fd [x] sp) (Di:∀(s:Shared)(u:Value),BindsTo s fd ⟨[u],[]⟩ [(x,u)])
  (jm:∀H:Hp,cM K H a (ns.map V.int)→(∀q∈tabs,H q.2=some (.eK #[]))→sp [.ref a] H (λv _=>v=.bl true) λ_ _ _=>False) :
  codeAny (model P w) callerA (.call (.ref fa) ⟨[.ref a],[]⟩) (λr s'=>r=.ok (.ret (.bool true))∧OldK s₁.heap s'.heap∧s'.os=s₁.os∧AllBare s'.gens) s₁:=by
 have rv:=Hn hi;have Sv:=hi.length;have Sw:∀q∈tabs,K.lookup q.2=none:=λq hq=>by
  cases e:K.lookup q.2 with
  |none=>rfl
  |some o=>
   have e1:=KX _ _ e;rw[(hT q hq).2]at e1;cases e1;have h2:=qE.mp noT (q.2,PySem.W.tabObj #[]) (PySem.W.mem_of_lookupK e);exact(gy (show false=true from h2)).elim
 have aT:∀q∈tabs,q.2≠a:=λq hq z=>by
  have e:=(hT q hq).2;rw[z,ha]at e;cases e
 have core:∀H:Hp,cM K H a (ns.map V.int)→eh P w H s₁.heap→(∀q∈tabs,H q.2=some (.eK #[]))→(∀b u,H b=some u→(b=a∧K.lookup a=none∧∃o xs,u=.iW o (.lst xs))∨(∃q∈tabs,b=q.2))→
   codeAny (model P w) callerA (.call (.ref fa) ⟨[.ref a],[]⟩) (λr s'=>r=.ok (.ret (.bool true))∧OldK s₁.heap s'.heap∧s'.os=s₁.os∧AllBare s'.gens) s₁:=by
  intro H hS bH tU hA;have ze:∀{b:Addr}{o:Obj},s₁.heap.get? b=some o→H b=none→(mv s₁.heap H).get? b=some o:=λe n=>N6 e n;have Dj:∀{b:Addr}{o:Obj},s₁.heap.get? b=some o→o≠{ cls:=.type "list",data:=.seq vs.toArray }→o≠PySem.W.tabObj #[]→H b=none:=λ{b o} e n1 n2=>by
   cases q:H b with
   |none=>rfl
   |some u=>
    rcases hA b u q with⟨rfl,_⟩|⟨r,hr,rfl⟩
    ·rw[ha]at e;cases e;exact absurd rfl n1
    ·rw[(hT r hr).2]at e;cases e;exact absurd rfl n2
  have zf:∀{b:Addr}{m:Str→Option Value},s₁.heap.Ns b m→(mv s₁.heap H).Ns b m:=λ{b m} ⟨o,es,ep,e,d,r⟩=>⟨o,es,ep,ze e (Dj e (λz=>by rw[z]at d;cases d) (λz=>by rw[z]at d;cases d)),d,r⟩;have Jx:K.In (mv s₁.heap H):=λb o e=>ze (KX b o e) (by
   cases q:H b with
   |none=>rfl
   |some u=>
    rcases hA b u q with⟨rfl,hn,_⟩|⟨r,hr,rfl⟩
    ·rw[hn]at e;cases e
    ·rw[Sw r hr]at e;cases e)
  have hM:Mod K mg (mv s₁.heap H):=⟨Jx,zf zd,⟨mb,zf hb,rA⟩,let ⟨mc,h1,h2⟩:=Su;⟨mc,zf h1,h2⟩⟩;have Sx:qa mg (mv s₁.heap H):=by
   obtain⟨bm,ob,b1,b2,b3,b4,b5,b6⟩:=Ss;exact⟨bm,ob,b1,b2,ze b3 (Dj b3 (λz=>by rw[z]at b4;exact absurd (Value.type.inj b4) (by decide)) (λz=>by rw[z]at b4;cases b4)),b4,b5,b6⟩
  have Sy:∀q∈tabs,CodeHd (mv s₁.heap H) q.1 q.2:=λq hq=>by
   obtain⟨o,Sz,file,tf,SA,tg,SD,text,tt,e1,e2,r⟩:=(hT q hq).1;exact⟨o,Sz,file,tf,SA,tg,SD,text,tt,ze e1 (Dj e1 (λz=>by rw[z]at e2;exact absurd (Value.type.inj e2) (by decide)) (λz=>by rw[z]at e2;cases e2)),e2,r⟩
  have e0:sY P w K mg (mv s₁.heap H) callerA [] s₁ H:=⟨rfl,hM,λb o e=>N7 e,Nat.le_of_eq (N5 _ _),trivial,λb hb=>absurd (show b∈([]:List Addr) from hb) (by simp),bH,.of_eq hg⟩
  refine codeAny_mono ((F _ Jx (zf zd) Sx Sy).run callerA [] s₁ H ⟨[.ref a],[]⟩ [.ref a] [.ref a] _ _ hr e0 (Di s₁ (.ref a)) (.cons rfl .nil) (jm H hS tU)) λr s' h=>?_;cases r with
  |error e=>exact False.elim h
  |ok fl=>
   cases fl with
   |next=>exact False.elim h
   |brk=>exact False.elim h
   |cont=>exact False.elim h
   |ret u=>
    obtain⟨v,H',os,bare,un,Jy,r',q⟩:=h;have q':v=.bl true:=q;subst q';obtain rfl:u=Value.bool true:=r';have keep:∀b o,s₁.heap.get? b=some o→s'.heap.get? b=some o∨∃q∈tabs,b=q.2∧o=PySem.W.tabObj #[]∧∃ps,s'.heap.get? b=some (PySem.W.tabObj ps):=λb o e=>by
     cases q:H b with
     |none=>exact .inl (un.keep b o e q (by intro z;exact absurd (show b∈([]:List Addr) from z) (by simp)) (by simp))
     |some u=>
      rcases hA b u q with⟨rfl,_,ob,xs,rfl⟩|⟨r,hr,rfl⟩
      ·have z2:=un.nS _ ob _ q;obtain⟨e1,_⟩:=bH _ _ q;obtain⟨e2,_⟩:=Jy _ _ z2;rw[e]at e1;cases e1;exact .inl e2
      ·obtain⟨oV,hm⟩:=un.nT _ _ (tU r hr);have e2:=(hT r hr).2;rw[e]at e2;exact .inr ⟨r,hr,rfl,dj e2,_,Jy _ _ hm⟩
    refine⟨rfl,⟨λb o e=>?_,λb o e=>?_⟩,os,bare⟩
    ·rcases keep b o e with h|⟨q,hq,rfl,rfl,ps,hP⟩
     ·exact .inl h
     ·exact .inr (.inl ⟨((hT q hq).1.tab (hT q hq).2).isCodeTable,rfl,#[],ps,rfl,by rw[Array.empty_append];exact hP⟩)
    ·rcases keep b o e with h|⟨q,hq,rfl,rfl,ps,hP⟩
     ·exact⟨_,h⟩
     ·exact⟨_,hP⟩
 cases hk:K.lookup a with
 |some o=>
  have e:=KX a o hk;rw[ha]at e;cases e;refine core (λb=>if b∈tabs.map (·.2)then some (.eK #[])else none) (.inr ⟨_,vs.toArray,_,hk,rfl,rfl,rfl,by rw[dm,Sv];exact hl,by simpa using rv⟩) (λb u z=>?_) (λq hq=>ae (List.mem_map_of_mem hq)) λb u z=>?_
  ·by_cases kQ:b∈tabs.map (·.2)
   ·have z':=(ae kQ).symm.trans z;cases z';obtain⟨q,hq,rfl⟩:=dU.mp kQ;exact(hT q hq).2
   ·have z':=(ah kQ).symm.trans z;cases z'
  ·by_cases kQ:b∈tabs.map (·.2)
   ·obtain⟨q,hq,rfl⟩:=dU.mp kQ;exact .inr ⟨q,hq,rfl⟩
   ·have z':=(ah kQ).symm.trans z;cases z'
 |none=>
  have hif:∀b,b=a→(if b=a then some (HO.iW { cls:=.type "list",data:=.seq vs.toArray } (.lst (ns.map V.int)))else if b∈tabs.map (·.2)then some (.eK #[])else none)=some (HO.iW { cls:=.type "list",data:=.seq vs.toArray } (.lst (ns.map V.int))):=λb hb=>ae hb
  refine core (λb=>if b=a then some (.iW { cls:=.type "list",data:=.seq vs.toArray } (.lst (ns.map V.int)))else if b∈tabs.map (·.2)then some (.eK #[])else none) (.inl (.inr ⟨{ cls:=.type "list",data:=.seq vs.toArray },ae rfl⟩)) (λb u z=>?_) (λq hq=>(ah (aT q hq)).trans (ae (List.mem_map_of_mem hq))) λb u z=>?_
  ·by_cases hb:b=a
   ·have z':=(ae hb).symm.trans z;cases z';subst hb;exact⟨ha,by rw[bz];exact hl,vs,_,rv,ha⟩
   ·have z:=(ah hb).symm.trans z;by_cases kQ:b∈tabs.map (·.2)
    ·have z':=(ae kQ).symm.trans z;cases z';obtain⟨q,hq,rfl⟩:=dU.mp kQ;exact(hT q hq).2
    ·have z':=(ah kQ).symm.trans z;cases z'
  ·by_cases hb:b=a
   ·have z':=(ae hb).symm.trans z;cases z';exact .inl ⟨hb,hk,_,_,rfl⟩
   ·have z:=(ah hb).symm.trans z;by_cases kQ:b∈tabs.map (·.2)
    ·obtain⟨q,hq,rfl⟩:=dU.mp kQ;exact .inr ⟨q,hq,rfl⟩
    ·have z':=(ah kQ).symm.trans z;cases z'
end
theorem SE{l:PySem.W.OpenLaw}{n k:Nat}{q:Program}{tw:List Str}{XP:(Str→Option Value)→Heap→Prop}{YP:World→Heap→Prop}{d:DefRec}{K:Params→Frag}{sp:World→Sp}{tabs:World→List (Addr×Addr)}
  (hn:l.most=some n) (SF:n≤sizeLine) (vI:d.params.defaults=[]) (hr:dt k callerA)
  (hY:∀(w:World)(h:Heap),YP w h→(K w.params).In h) (noT:∀w:World,PySem.W.noTabs (K w.params)=true)
  (hT:∀(w:World){v7:ExcName→Option Value}{lo:List Str}{mg mb:Str→Option Value}{h:Heap},Top q lo v7 mg mb h→(K w.params).In h→PySem.W.TabsAt (tabs w) h)
  (F:∀(w:World)(mg:Str→Option Value)(fa:Addr)(h:Heap),(K w.params).In h→h.Ns mainGlobals mg→mg d.name=some (.ref fa)→
   ∃fd:FuncData,(∀(s:Shared)(u:Value),BindsTo s fd ⟨[u],[]⟩ [(x,u)])∧
    ∀base:Heap,(K w.params).In base→base.Ns mainGlobals mg→qa mg base→(∀q∈tabs w,CodeHd base q.1 q.2)→bu l.prog w (K w.params) mg base br k fa fd [x] (sp w))
  (jm:∀(w:World)(H:Hp)(a:Addr)(ns:List Int),ns.length≤n→cM (K w.params) H a (ns.map V.int)→(∀q∈tabs w,H q.2=some (.eK #[]))→sp w [.ref a] H (λv _=>v=.bl true) λ_ _ _=>False) :
  PySem.W.WalkO q tw XP YP l.row.toRowW d [] (λf vs=>PySem.call f vs):=by
 refine Att.PJ hn vI λw s₀ s₁ mg mb fa o pm cd doc a vs ns G Y ho hd gQ hmg Co hints cA hg=>?_;have KX:=hY w _ Y;obtain⟨fd,hb,hF⟩:=F w mg fa _ KX G.T.g hmg;exact Sr KX (noT w) (hT w G.T KX) G.T.g G.T.b G.T.builtins G.T.bmain G.T.nolimit hg Co hints (ft cA SF) hr hF hb λH hS tU=>jm w H a ns cA hS tU
noncomputable def lU(K:Frag)(x:Str):Addr×Addr:=(tabIn K x).getD (0,0)
theorem Jz{K:Frag}(h:(tabIn K x).isSome=true):tabIn K x=some (lU K x):=by
 unfold lU;cases e:tabIn K x with
 |none=>rw[e]at h;cases h
 |some q=>rfl
theorem tabs_nil:PySem.W.TabsAt [] h:=λ_ hq=>(nomatch hq)
theorem tabs_cons{q:Program}{lo:List Str}{v7:ExcName→Option Value}{mg mb:Str→Option Value}{K:Frag}{d:DefRec}{l:List (Addr×Addr)}(T:Top q lo v7 mg mb h)(X:K.In h)(hr:(recsOf q).find? (λe=>e.name==x)=some d)
  (hs:(tabIn K x).isSome=true) (hl:PySem.W.TabsAt l h):PySem.W.TabsAt (lU K x::l) h:=List.forall_mem_cons.mpr ⟨PySem.W.tab_of (c:=(lU K x).1) (P:=(lU K x).2) T X hr (Jz hs),hl⟩
def ju(h:Heap)(a:Addr)(D:List (Str×V)):Prop:=KTD.TabOf (λ(v:V)(u:Value)=>RelV v u) h a D
noncomputable def JA:V→Value→Bool
 | .cI,.none=>true
 | .bl b,.bool c=>b==c
 | .int i,.int j _=>i==j
 | .str x,.str y _=>x==y
 | .ref a,.ref b=>a==b
 |_,_=>false
theorem SG(v:V)(u:Value)(h:JA v u=true):RelV v u:=by
 cases v<;>cases u<;>first|exact Bool.noConfusion h|rfl|(have e:=beq_iff_eq.mp h;subst e;first|rfl|exact⟨_,rfl⟩)
noncomputable def SH:Value→V
 | .bool b=>.bl b
 | .int i _=>.int i
 | .str x _=>.str x
 | .ref a=>.ref a
 |_=>.cI
noncomputable def ib(K:Frag)(a:Addr):List (Str×V):=match K.lookup a with
 |some ⟨_,_,.dict es _,_⟩=>es.toList.map λe=>((match e.key with | .str x _=>x|_ => ""),SH e.val)
 |_=>[]
noncomputable def zg(K:Frag)(a:Addr):Bool:=KTD.tabLook JA (λb=>K.lookup b) a (ib K a)
theorem Dk{K:Frag}(X:K.In h)(e:zg K a=true):ju h a (ib K a):=KTD.tab_of_look SG (λb o q=>X b o q) e
theorem ju.typeIs{D:List (Str×V)}(T:ju s.heap a D):s.TypeIs (.ref a) "dict":=by
 obtain⟨_,o,_,_,ho,hc,_⟩:=T;exact⟨o,ho,hc.1⟩
theorem ju.noDict{D:List (Str×V)}(T:ju h a D):∀b,Value.ref a=.ref b→∃ob,h.get? b=some ob∧ob.dict=none:=λb e=>by
 cases e;obtain⟨_,o,_,_,ho,hc,_⟩:=T;exact⟨o,ho,hc.2.1⟩
section
variable{prog:Program}{w:World}{A:Around}{E:QV}{s:Shared}{a:Addr}{D:List (Str×V)}{x:Str}{tk:Tok}
theorem Dl{Q:Option Value→Shared→Prop}(T:ju s.heap a D)(h1:∀v u,KTD.datumAt x D=some v→RelV v u→Q (some u) { s with toks:=s.toks+1 })(h2:KTD.datumAt x D=none→Q none { s with toks:=s.toks+1 }) :
  wpAny (model prog w) A (dictGet a (.str x tk)) Q E s:=by
 obtain⟨_,o,es,ep,ho,hc,hd,hr⟩:=T;have SI:(es.all λe=>isExactStrKey e.key)=true:=by
  have z:=hr.exact;obtain⟨l⟩:=es;simpa using z
 have hf:findBy (λk v=>v.isStr k) es x=(es.toList.find? λe=>e.key.isStr x).map (·.val):=by obtain⟨l⟩:=es;simp[findBy]
 have hq:Q (findBy (λk v=>v.isStr k) es x) { s with toks:=s.toks+1 }:=by
  rw[hf];cases e:KTD.datumAt x D with
  |none=>rw[hr.find_none e];exact h2 e
  |some v=>obtain⟨u,z1,z2⟩:=hr.find_some e;rw[z1];exact h1 v u e z2
 rw[findBy_of_findIdx?]at hq;unfold dictGet;refine aq (wpAny_pyHash_str (aq (KTD.kt_dictFind_strs (s:={ s with toks:=s.toks+1 }) ho hd SI ?_)));cases e:es.findIdx? λe=>e.key.isStr x with
 |none=>rw[e]at hq;exact av hq
 |some i=>rw[e]at hq;exact aq (wpAny_dictEntries (s:={ s with toks:=s.toks+1 }) ho hd (av hq))
theorem kd_item{v:V}(T:ju s.heap a D)(hv:KTD.datumAt x D=some v)(h:∀u,RelV v u→Q u { s with toks:=s.toks+1 }):wpAny (model prog w) A (getItem (.ref a) (.str x tk)) Q E s:=by
 unfold getItem
 try (with_reducible refine ar ?_)
 refine aq (wpAny_sequenceKey (T.typeIs) (by decide) ?_);refine aq (az (name:=Str.ofString "__getitem__") T.typeIs PySem.F.slot_dict_getitem (aA PySem.F.slot_dict_getitem T.typeIs PySem.F.entry_dict_getitem ?_ (PySem.F.args_dict_getitem_2 _ _)));show wpAny _ _ (dictGet a (.str x tk) >>= _) _ _ s;exact aq (Dl T (λv' u e r=>by rw[hv]at e;cases e;exact av ⟨u,rfl,av (h u r)⟩) λe=>by rw[hv]at e;cases e)
theorem SJ(T:ju s.heap a D)(h:Q (.bool (KTD.datumAt x D).isSome) { s with toks:=s.toks+1 }):wpAny (model prog w) A (compareOp .In (.str x tk) (.ref a)) Q E s:=by
 show wpAny _ _ (do return .bool (← contains (.ref a) (.str x tk))) Q E s
 refine aq ?_;unfold contains
 try (with_reducible refine ar ?_)
 refine aq (wpAny_specialOf T.typeIs PySem.F.slot_dict_contains.lookup ?_);show wpAny _ _ (if(some (Value.builtin "dict.__contains__")==some Value.none)=true then _ else _) _ _ s
 rw[ah (by decide)];refine aq (wpAny_callSpecialUnlessNone?_slot (name:=Str.ofString "__contains__") T.typeIs PySem.F.slot_dict_contains (aA PySem.F.slot_dict_contains T.typeIs PySem.F.entry_dict_contains ?_ (PySem.F.args_dict_contains_2 _ _)));show wpAny _ _ (dictGet a (.str x tk) >>= _) _ _ s;refine aq (Dl T (λv u e _=>?_) λe=>?_)
 ·rw[e]at h;exact(av ⟨_,rfl,aj (av h)⟩)
 ·rw[e]at h;show wpAny _ _ (Builtin.Dict.pendingKey? a (.str x tk) >>= _) _ _ _;exact aq (wpAny_pendingKey_other T.1 (av ⟨_,rfl,aj (av h)⟩))
theorem SK{dflt:Value}:MeetsIn prog w (Builtin.«dict.get» ⟨[.ref a,.str x tk,dflt],[]⟩) (λ_ R s=>ju s.heap a D∧(∀v u,KTD.datumAt x D=some v→RelV v u→R (.ok (.ret u)) { s with toks:=s.toks+1 })∧(KTD.datumAt x D=none→R (.ok (.ret dflt)) { s with toks:=s.toks+1 })):=
 .of_wp λA₁ R s ⟨T,h1,h2⟩=>by
  show wpAny _ _ (dictGet a (.str x tk) >>= _) _ _ s;refine aq (Dl T (λv u e r=>av ⟨u,rfl,h1 v u e r⟩) λe=>?_);show wpAny _ _ (Builtin.Dict.missed a (.str x tk) >>= _) _ _ _;exact aq (wpAny_missed_other T.1 (av ⟨dflt,rfl,h2 e⟩))
theorem SM{dflt:Value}(T:ju s.heap a D)(h1:∀v u,KTD.datumAt x D=some v→RelV v u→Q u { s with toks:=s.toks+1 })(h2:KTD.datumAt x D=none→Q dflt { s with toks:=s.toks+1 }) :
  wpAny (model prog w) A (call (.builtin "dict.get") [.ref a,.str x tk,dflt]) Q E s:=
 call_meetsIn PySem.F.slot_dict_get T.typeIs PySem.F.entry_dict_get (PySem.F.args_dict_get_3 _ _ _) (SK (D:=D)) ⟨T,h1,h2⟩
end
section
variable{X:Cx}{o i e f:Expr}{pos iH eO:Pos}{td ty tx:TE}{a:Addr}{D:List (Str×V)}
def JB(a:Addr)(D:List (Str×V))(td ty:TE):TE:=λσ H Q=>td σ H λu H1=>ty σ H1 λy H2=>∃x v,u=.ref a∧y=.str x∧KTD.datumAt x D=some v∧Q v H2
theorem JC(hT:∀h,X.K.In h→ju h a D)(ho:PE X o td)(hi:PE X i ty)(hs:Dd i):PE X (.Subscript o i pos) (JB a D td ty):=by
 intro aI s σ H Q I h;refine Jk PySem.F.slot_dict_getitem.lookup hs (bj (ho aI s σ H _ I h) λu s1 ⟨x',H1,I1,rx,q1⟩=>bj (hi aI s1 σ H1 _ I1 q1) λiv s2 ⟨y,H2,I2,ry,x,v,ex,ey,g,q2⟩=>?_);subst ex ey;obtain rfl:u=Value.ref a:=rx;obtain⟨tk,rfl⟩:=ry;exact⟨(hT _ I2.ff).typeIs,kd_item (hT _ I2.ff) g λu r=>⟨v,H2,I2.tok _,r,q2⟩⟩
def JD(a:Addr)(D:List (Str×V))(ty td:TE):TE:=λσ H Q=>ty σ H λy H1=>td σ H1 λu H2=>∃x,u=.ref a∧y=.str x∧Q (.bl (KTD.datumAt x D).isSome) H2
theorem JE(hT:∀h,X.K.In h→ju h a D)(hi:PE X i ty)(ho:PE X o td):PC X .In i o (JD a D ty td):=by
 intro aI s σ H Q I h;refine bj (hi aI s σ H _ I h) λiv s1 ⟨y,H1,I1,ry,q1⟩=>bj (ho aI s1 σ H1 _ I1 q1) λu s2 ⟨x',H2,I2,rx,x,ex,ey,q2⟩=>?_;subst ex ey;obtain rfl:u=Value.ref a:=rx;obtain⟨tk,rfl⟩:=ry;exact SJ (hT _ I2.ff) ⟨.bl _,H2,I2.tok _,rfl,q2⟩
def SN(a:Addr)(D:List (Str×V))(td ty tx:TE):TE:=λσ H Q=>td σ H λu H1=>u=.ref a∧ty σ H1 λy H2=>tx σ H2 λz H3=>∃x,y=.str x∧Q ((KTD.datumAt x D).getD z) H3
theorem SO(hT:∀h,X.K.In h→ju h a D)(ho:PE X o td)(he:PE X e ty)(hf:PE X f tx)(m:M2 X o "get" iH e f eO):PE X (.Call (.Attribute o "get" iH) [e,f] [] eO) (SN a D td ty tx):=by
 intro aI s σ H Q I h;refine wpAny_Call_method m.base m.og m.line PySem.F.plainAttrs_dict PySem.F.slot_dict_get PySem.F.type_dict_get (bj (ho aI s σ H _ I h) λu s1 ⟨x',H1,I1,rx,ex,q1⟩=>?_);subst ex;obtain rfl:u=Value.ref a:=rx;refine⟨(hT _ I1.ff).typeIs,(hT _ I1.ff).noDict,?_⟩;rw[m.trees];refine Calls.callWith_builtin rfl (Calls.evalArgs_plain (Calls.spliced_cons (bj (he aI s1 σ H1 _ I1 q1) λiv s2 ⟨y,H2,I2,ry,q2⟩=>Calls.spliced_cons (bj (hf aI s2 σ H2 _ I2 q2) λfv s3 ⟨z,H3,I3,rz,x,ey,q3⟩=>Calls.spliced_nil ?_))));subst ey;obtain⟨tk,rfl⟩:=ry;refine SM (hT _ I3.ff) (λv u e r=>⟨v,H3,I3.tok _,r,?_⟩) λe=>⟨z,H3,I3.tok _,rz,?_⟩
 ·rw[e]at q3;exact q3
 ·rw[e]at q3;exact q3
end
noncomputable def tV(hi:Int)(n:Nat):It:=⟨λi _=>i<n,λi H x H'=>H'=H∧x=.int (hi-i),λi _=>n≤i⟩
theorem SQ{P:Program}{w:World}{K:Frag}{tg:Expr}(it:Addr)(hi:Int)(n:Nat):Turn P w K tg (tV hi n) [it] it (λi h=>IsRangeIter h it (hi+(i:Nat)*(-1)) ((n:Int)-(i:Nat)) (-1)) where
 mem:=by simp
 obj:=λi h st b hb=>by
  have e:b=it:=by simpa using hb
  subst e;refine⟨_,st,λv z=>?_⟩;cases(show Data.fields _=Data.cell v from z)
 keep:=λi h h' st k=>k it (by simp) _ st
 item:=by
  intro X hP hw hK hc i aI s σ H E I hf st hg;subst hP hw hK;obtain⟨f0,f1,f2,f3,f4,f5⟩:=hf it (by simp);refine(Walks.range (prog:=X.prog) (w:=X.w) (I.ok.hd hc) it hi (-1) n).item i s _ _ hg st λv h' tk hv mG kk=>?_;obtain⟨t,rfl⟩:=hv;have I1:Inv X aI σ H { s with heap:=h',toks:=tk }:=I.turned (λb o hb e=>kk b o (by simpa using hb) e) f0 f1 f3 f4 f5;refine⟨_,rfl,xY (s:={ s with heap:=h',toks:=tk }) (n := "range_iterator") mG rfl rfl (by decide) ⟨.int (hi-i),H,I1,⟨t,?_⟩,⟨rfl,rfl⟩,mG,λb hb=>(hf b hb).1⟩⟩;rw[Int.mul_neg,Int.mul_one,Int.sub_eq_add_neg]
 done:=by
  intro X hP hw hK hc i aI s σ H E I hf st hg;subst hP hw hK;obtain⟨f0,f1,f2,f3,f4,f5⟩:=hf it (by simp);exact wpAny_pyNext_range_end (I.ok.hd hc) st (by have:n≤i:=hg;lia) λh' eb=>⟨rfl,I.turned (t':=s.toks) (λb o hb e=>eb b o hb e) f0 f1 f3 f4 f5⟩
 self:=λ_ _ _ _ _ st h=>wpAny_pyIter_rangeiter st h
theorem JF(h:-1≤i):Builtin.Range.rangeSize i (-1) (-1)=i+1:=by
 (unfold Builtin.Range.rangeSize)
 rw[ah (by decide)];split
 ·rw[show(-(-1):Int)=1 from rfl,Int.ediv_one];lia
 ·lia
theorem small_down(h:-1≤i)(h2:i<2^61):Builtin.Range.small i (-1) (-1)=true:=by
 unfold Builtin.Range.small;rw[JF h];simp only[Builtin.Range.rangeFitsLong,gP,Bool.or_eq_true,aG,beq_iff_eq];exact⟨⟨⟨⟨⟨by lia,by lia⟩,by decide,by decide⟩,by decide,by decide⟩,by lia,by lia⟩,.inr (by decide)⟩
section
variable{X:Cx}{tg:Expr}
def SR(ta:TA):TI:=λσ H R=>ta σ H λvs H1=>∃i:Int,vs=[.int i,.int (-1),.int (-1)]∧(-1≤i∧i<2^61)∧R (tV i (i+1).toNat) H1
theorem SS{aI:List (Addr×Obj)}{σ:St}{R:It→Hp→Prop}{E:QV}{t u v:Tok}{tk:Nat}(I:Inv X aI σ H s)(h1:-1≤i)(h2:i<2^61)(q:R (tV i (i+1).toNat) H) :
  wpAny (model X.prog X.w) X.A (pyIter (.ref s.heap.objs.size)) (BW X aI σ tg R) E { s with heap:=s.heap.push { cls:=.type "range",data:=.fields #[.int i t,.int (-1) u,.int (-1) v] },toks:=tk }:=by
 refine wpAny_pyIter_range (IsRange.new ..) (small_down h1 h2) ?_;have I1:Inv X aI σ H { s with heap:=s.heap.push { cls:=.type "range",data:=.fields #[.int i t,.int (-1) u,.int (-1) v] },toks:=tk }:=I.kept λb o e=>dH _ e;generalize s.heap.push { cls:=.type "range",data:=.fields #[.int i t,.int (-1) u,.int (-1) v] }=h3 at I1 ⊢;refine⟨h3.objs.size,[h3.objs.size],_,_,H,rfl,I1.kept (t':=tk) λb o e=>dH _ e,SQ _ i (i+1).toNat,?_,λb hb=>?_,q⟩
 ·show IsRangeIter _ _ (i+((0:Nat):Int)*(-1)) ((((i+1).toNat:Nat):Int)-((0:Nat):Int)) (-1);rw[show i+((0:Nat):Int)*(-1)=i by simp,show(((i+1).toNat:Nat):Int)-((0:Nat):Int)=Builtin.Range.rangeSize i (-1) (-1) by rw[JF h1];lia];exact ij _ rfl
 ·have e:b=h3.objs.size:=by simpa using hb
  subst e;exact I1.pX (ck _) (I1.bH.fresh (ck _))
theorem SU{a b c:Expr}{ta:TA}{p pos:Pos}(hg:Gl X "range")(hm:X.mg "range"=none)(ha:PA X [a,b,c] ta)(hs:starEach [a,b,c] X.env=(false,eval a X.env)::starEach [b,c] X.env:=by rfl)(nY:(backTo pos (starEach [b,c] X.env)).any (·.1)=false:=by rfl) :
  PI X tg (.Call (.Name "range" p) [a,b,c] [] pos) (SR ta):=by
 intro aI s σ H R I h;refine Call_ (qO I hg hm boot_range (BE (bj (ha pos aI s σ H _ I h) λus s1 ⟨vs,H1,I1,r1,q1⟩=>?_) hs nY));obtain⟨i,e,⟨q1,q2⟩,q⟩:=q1;subst e;cases r1 with
 |cons r rr=>
  cases rr with
  |cons r' rr=>
   cases rr with
   |cons r2 rr=>
    cases rr;obtain⟨t,rfl⟩:=r;obtain⟨t',rfl⟩:=r';obtain⟨t2,rfl⟩:=r2;exact call_range_3 (by decide) (SS I1 q1 q2 q) (Or.inl (PyProof.noPylong_small (by lia)))
end
theorem SV{hi:Int}{n:Nat}{g:TG}{tb:TS}{D:Ends}{σ:St}(Pv:Nat→St→Hp→Prop)(h0:Pv 0 σ H)
  (hs:∀i σ H,i<n→Pv i σ H→g (.int (hi-(i:Nat))) σ H λσ2 H2=>tb { D with nx:=Pv (i+1),ct:=Pv (i+1),bk:=D.nx } σ2 H2) (hd:∀σ H,Pv n σ H→D.nx σ H) :
  ∃W:Nat→Nat→St→Hp→Prop,(∃m,W 0 m σ H)∧∀i m σ H,W i m σ H→
   ((tV hi n).stop i H∧D.nx σ H)∨((tV hi n).go i H∧∃N:St→Hp→Prop,(∀σ' H',N σ' H'→∃m',m'<m∧W (i+1) m' σ' H')∧∀x H',(tV hi n).oZ i H x H'→g x σ H' λσ2 H2=>tb { D with nx:=N,ct:=N,bk:=D.nx } σ2 H2):=by
 refine⟨λi m σ H=>m=n-i∧i≤n∧Pv i σ H,⟨n,by simp,mi _,h0⟩,?_⟩;rintro i m σ H ⟨rfl,nc,p⟩;by_cases cN:i<n
 ·exact .inr ⟨cN,Pv (i+1),λσ' H' p'=>⟨n-(i+1),by lia,rfl,cN,p'⟩,λx H' ⟨z1,z2⟩=>by subst z1 z2;exact hs i σ _ cN p⟩
 ·have e:i=n:=by lia
  subst e;exact .inl ⟨ck _,hd σ H p⟩
def tX(cp:St)(P:Hp→List V→Prop):St→Hp→List V→Prop:=λσ H zs=>(∃o:St,o.length=1∧σ=o++cp)∧P H zs
theorem tX.mk{cp:St}{P:Hp→List V→Prop}{x:Option V}{zs:List V}(h:P H zs):tX cp P (x::cp) H zs:=⟨⟨[x],rfl,rfl⟩,h⟩
theorem SW{cp:St}{te:TE}{Q:VK}{n:Nat}{H1:Hp}{lo:Int}(Pv:Nat→Hp→List V→Prop)(hz:n≤sizeLine)(h0:Pv 0 H1 [])(cA:∀i H zs,Pv i H zs→zs.length≤i)
  (step:∀i H zs,i<n→Pv i H zs→te (some (.int (lo+(i:Nat)))::cp) H λv H5=>tX cp (Pv (i+1)) (some (.int (lo+(i:Nat)))::cp) H5 (zs++[v])) (done:∀H zs,Pv n H zs→∀p,H p=none→Q (.ref p) (upd H p (.lst zs))) :
  ∃W:Nat→Nat→St→Hp→List V→Prop,(∃m,W 0 m (List.replicate 1 none++cp) H1 [])∧jo (o7 lo n) (bq 0) i8 te Q W:=by
 refine⟨λi m σ H zs=>m=n-i∧i≤n∧tX cp (Pv i) σ H zs,⟨n,by simp,mi _,⟨_,by simp,rfl⟩,h0⟩,?_⟩;rintro i m σ H zs ⟨rfl,hi,⟨o,ho,rfl⟩,pv⟩;have hl:=cA _ _ _ pv;by_cases cN:i<n
 ·refine .inr ⟨cN,by lia,tX cp (Pv (i+1)),λσ2 H2 Ra q=>⟨n-(i+1),by lia,rfl,cN,q⟩,λx H2 y=>?_⟩;obtain⟨z,rfl⟩:=yJ ho;obtain⟨rfl,rfl⟩:=y;exact step i _ zs cN pv
 ·have e:i=n:=by lia
  subst e;exact .inl ⟨ck _,by lia,done H zs pv⟩
def eC(H H':Hp):Prop:=∀b o,H b=some o→((∃xs,o=.tup xs)∨∃ob u,o=.iW ob u)→H' b=some o
theorem eC.trans{H1 H2:Hp}(a:eC H H1)(b:eC H1 H2):eC H H2:=λc o h k=>b c o (a c o h k) k
theorem aM.tup(s:aM H H'):eC H H':=λb o h _=>s b o h
theorem eC.upd{H:Hp}{a:Addr}{o:HO}(h:∀u,H a=some u→(∃xs,u=.lst xs)∨∃aV,u=.dK aV):eC H (upd H a o):=λb u e k=>by
 have ne:b≠a:=λz=>by
  subst z;rcases h u e with⟨xs,rfl⟩|⟨aV,rfl⟩<;>rcases k with⟨_,z⟩|⟨_,_,z⟩<;>cases z
 rw[cn ne];exact e
theorem eC.lst{H:Hp}{a:Addr}{xs:List V}{o:HO}(h:H a=some (.lst xs)):eC H (L2.upd H a o):=eC.upd λu e=>.inl ⟨xs,by rw[h]at e;exact(dj e).symm⟩
theorem eC.SX{aV:List (Key×V)}{o:HO}(h:H a=some (.dK aV)):eC H (L2.upd H a o):=eC.upd λu e=>.inr ⟨aV,by rw[h]at e;exact(dj e).symm⟩
theorem eC.bE{K:Frag}{xs:List V}(e:eC H H')(h:aZ K H a xs):aZ K H' a xs:=by
 rcases h with h|h
 ·refine .inl ?_;rcases h with h|⟨o,h⟩
  ·exact .inl (e _ _ h (.inl ⟨xs,rfl⟩))
  ·exact .inr ⟨o,e _ _ h (.inr ⟨o,_,rfl⟩)⟩
 ·exact .inr h
theorem aM.put{o:HO}(s:aM H H')(h:H a=none):aM H (L2.upd H' a o):=λb u e=>by
 rw[cn (eT e h)];exact s b u e
structure oh(P:Program)(w:World)(K:Frag)(mg:Str→Option Value)(base:Heap)(k:Nat)(s:Shared)(H:Hp)(f:Addr)(R:List V→Hp→VK→Prop):Prop where
 here:(∃φ:Heap→Prop,H f=some (.ext φ)∧∀h,φ h→PySem.W.FnAt f h)∨∀h,K.In h→PySem.W.FnAt f h
 run:∀(A:Around)(outer:List Env)(s':Shared)(H':Hp)(vs:List V)(us:List Value)(Q:VK),dt k A→sY P w K mg base A outer s' H'→aM H H'→
  (∀c o,s.heap.get? c=some o→H c=none→H' c=none∧∃sl,s'.heap.get? c=some { o with slots:=sl })→Vals vs us→R vs H' Q→codeAny (model P w) A (.call (.ref f) ⟨us,[]⟩) (CR br outer P w H' s' Q E0) s'
theorem oh.SY{P:Program}{w:World}{K:Frag}{mg:Str→Option Value}{base:Heap}{k:Nat}{sp:Sp}(F:bu P w K mg base br k f fd ps sp)(G:cC K x qual st f fd)(hb:Binds K fd ps []) :
  oh P w K mg base k s H f (λvs H' Q=>sp vs H' Q E0):=by
 refine⟨.inr λh X=>?_,λA outer s' H' vs us Q hr e0 _ _ r q=>?_⟩
 ·obtain⟨oc,od,kV,doc,pm,an,bV,ct,lK,rfl,lk,_⟩:=G.ex;exact⟨_,_,_,_,X _ _ lk⟩
 ·have KX:K.In s'.heap:=e0.mod.qI.keeps λb o e=>(e0.bs b o e).1;have hl:us.length=ps.length:=by rw[← r.length];exact F.len _ _ _ _ q
  have rA:=hb s' us KX (by rw[gY];exact hl);rw[gY]at rA;exact F.run A outer s' H' ⟨us,[]⟩ us vs Q E0 hr e0 rA r q
section
variable{X:Cx}{k:Nat}{f:Addr}{x:Str}{p pos:Pos}{e:Expr}{es:List Expr}{t:TA}{R:List V→Hp→VK→Prop}
theorem S4{i:Nat}(L:oh X.prog X.w X.K X.mg X.base k X.s₀ X.H₀ f R)(hr:dt k X.A)(hex:X.ex=[])(hN:X.N[i]?=some x)(hv:vj X.env.scope x)(ha:PA X (e::es) t)
  (hd:(x==("__debug__":Str))=false:=by decide) (gQ:(x==("__classdict__":Str))=false:=by decide) (he:starEach (e::es) X.env=(false,eval e X.env)::starEach es X.env:=by rfl) (jl:(backTo pos (starEach es X.env)).any (·.1)=false:=by rfl) :
  PE X (.Call (.Name x p) (e::es) [] pos) (λσ H Q=>σ[i]?=some (some (.ref f))∧aM X.H₀ H∧t σ H λvs H1=>aM X.H₀ H1∧R vs H1 Q):=by
 intro aI s σ H Q I ⟨hσ,sm,h⟩;have JG:∀{σ:St}{H1:Hp}{s1:Shared},Inv X aI σ H1 s1→aM X.H₀ H1→PySem.W.FnAt f s1.heap:=λI1 ke=>by
  rcases L.here with⟨φ,hφ,vq⟩|z
  ·exact vq _ (I1.bH f _ (ke _ _ hφ)).1
  ·exact z _ I1.ff
 refine ax (bj (Gd hN hv hd gQ aI s σ H (λv H1=>v=.ref f∧H1=H) I ⟨_,hσ,rfl,rfl⟩) λu s1 ⟨v,H1,I1,r,e1,e2⟩=>?_);subst e1 e2;cases r;refine PySem.W.callWith_F (JG I1 sm) (bj (ha pos aI s1 σ H1 _ I1 h) λus s2 ⟨vs,H2,I2,rv,tY,hq⟩=>⟨JG I2 tY,?_⟩) he jl;refine wpAny_call (codeAny_mono (L.run X.A X.stack s2 H2 vs us Q hr I2.B8 tY (λc o hc hn=>?_) rv hq) λr s' hq=>?_)
 ·have v8:c ∉ X.ex:=by rw[hex];simp
  exact⟨I2.base.free c o hc hn v8,I2.base.any hc hn v8⟩
 cases r with
 |error e=>exact False.elim hq
 |ok fl=>
  cases fl with
  |ret u=>exact I2.after hq
  |next=>exact False.elim hq
  |brk=>exact False.elim hq
  |cont=>exact False.elim hq
end
theorem S5(K:Frag)(hK:X.K=K){o:Expr}{to:TE}{iH eO:Pos}(ho:PE X o to)(rh:attributeBase o "pop" X.env (eval o X.env)=eval o X.env:=by rfl)(rj:(iH.endLine==eO.line)=true:=by rfl) :
  PE X (.Call (.Attribute o "pop" iH) [] [] eO) (Hh K "list" Hk to):=hK▸Pn ji BH BI Pq ho rh rj
end L2
namespace Bw
section
variable{p:Int}{n:Nat}{L L' L'':LL}
theorem oi(h:∀r∈L,Sp p (RS L') (fn r)){v:Fn}(hv:Sp p (RS L) v):Sp p (RS L') v:=hv.trans λf hf=>by
 obtain⟨r,hr,rfl⟩:=hf;exact h r hr
theorem pq{r:List Int}(h:r∈L):Sp p (RS L) (fn r):=.mem ⟨r,h,rfl⟩
end
end Bw
namespace S21
open PySem L2 Bw
variable{H:Hp}
noncomputable def top(i:Nat):Stmt:=PySem.Challenge.pw_bentwires_k61_ticks.main.body.getD i (.Pass ⟨0,0,0,0⟩)
noncomputable abbrev v9:Stmt:=top 1
noncomputable abbrev pw:Stmt:=top 2
noncomputable abbrev wa:Stmt:=top 3
noncomputable abbrev zh:Stmt:=top 4
noncomputable abbrev tZ:Stmt:=top 5
noncomputable abbrev zi:Stmt:=top 6
noncomputable abbrev zj:Stmt:=top 7
noncomputable abbrev Dm:Stmt:=top 11
noncomputable abbrev Dn:Stmt:=top 12
noncomputable abbrev zm:Stmt:=top 13
noncomputable abbrev Dp:Stmt:=top 14
noncomputable abbrev zo:Stmt:=top 15
noncomputable abbrev Dq:Stmt:=top 20
noncomputable abbrev zp:Stmt:=top 21
noncomputable abbrev wb:Stmt:=top 22
noncomputable abbrev zq:Stmt:=top 23
noncomputable abbrev wc:Stmt:=top 24
noncomputable abbrev iM:Stmt:=top 26
noncomputable abbrev zt:Stmt:=top 27
noncomputable abbrev Dr:Stmt:=top 29
noncomputable abbrev Ds:Stmt:=top 30
noncomputable abbrev Dt:Stmt:=top 31
noncomputable abbrev zu:Stmt:=top 32
noncomputable abbrev zv:Stmt:=top 33
noncomputable abbrev Du:Stmt:=top 34
noncomputable abbrev zw:Stmt:=top 35
noncomputable abbrev zy:Stmt:=top 36
noncomputable abbrev Dv:Stmt:=top 37
noncomputable abbrev wd:Stmt:=top 38
noncomputable abbrev Dw:Stmt:=top 39
noncomputable abbrev zA:Stmt:=top 40
noncomputable abbrev oj:Stmt:=top 41
noncomputable abbrev Dx:Stmt:=top 42
noncomputable abbrev Dy:Stmt:=top 43
noncomputable abbrev lV:Stmt:=top 44
structure Txt(mg:Str→Option Value):Prop where
 range:mg "range"=none
 zip:mg "zip"=none
 tuple:mg "tuple"=none
 list:mg "list"=none
 int:mg "int"=none
 bool:mg "bool"=none
 isinstance:mg "isinstance"=none
 len:mg "len"=none
 sum:mg "sum"=none
 max:mg "max"=none
 min:mg "min"=none
 aae:mg "enumerate"=none
 any:mg "any"=none
 all:mg "all"=none
theorem S6:bootBuiltins "max"=some (.builtin "max"):=by decide +kernel
theorem S7:bootBuiltins "min"=some (.builtin "min"):=by decide +kernel
theorem we{r:List Int}{j:Nat}(h:j<r.length):r[j]?=some (r.getD j 0):=by
 rw[cE h,cF,cE h];rfl
theorem px{r:List Int}{j:Nat}(h:j<r.length):(r.map V.int)[j]?=some (.int (r.getD j 0)):=by
 rw[eI,we h];rfl
theorem Dz{c A B:Prop} [Decidable c] (h1:¬c→A) (h2:c→B):if(!decide c)=true then A else B:=by
 by_cases h:c
 ·exact PK h (h2 h)
 ·rw[aa h];exact i7 (h1 h)
section
variable{K:Frag}
theorem om{RS:List V}{rs:LL}{i:Nat}{x:V}(hA:bG K H RS (rs.map cG))(hx:RS[i]?=some x):∃r a,rs[i]?=some r∧x=.ref a∧aZ K H a (r.map V.int):=by
 obtain⟨d,hd,hU⟩:=hA.get hx;rw[eI]at hd;cases e:rs[i]? with
 |none=>rw[e]at hd;cases hd
 |some r=>
  rw[e]at hd;cases hd;obtain⟨a,rfl,ha⟩:=ID hU;exact⟨r,a,rfl,rfl,ha⟩
theorem fQ{RS:List V}{rs:LL}(hA:bG K H RS (rs.map cG)):RS.length=rs.length:=by rw[hA.length,bz]
end
theorem JH:∀n:Nat,(List.replicate n [V.int 0]).flatten=List.replicate n (V.int 0)
 |0=>rfl
 |n+1=>by rw[nN,sJ,JH n];rfl
theorem DA{s1 s2:TS}{D:Ends}{σ:St}(J:St→Hp→Prop)(h:∀N:St→Hp→Prop,(∀σ H,J σ H→N σ H)→s1 { D with nx:=N } σ H)(hr:∀σ H,J σ H→s2 D σ H):bZ s1 s2 D σ H:=h _ hr
theorem t8{H':Hp}{l:Addr}(e:aM H H')(h:H' l=none):H l=none:=by
 cases q:H l with
 |none=>rfl
 |some o=>rw[e _ _ q]at h;cases h
theorem JI(rs:LL):kqdOk 8 (.tuple (rs.map cG))=true:=by
 show(rs.map cG).all (kqdOk 7)=true;exact Rl 6 rs
theorem DB{p:Int}{n:Nat}{L:LL}:∀k,(gS p n L k).1.length≤k∧(gS p n L k).2.length=L.length
 |0=>⟨ck _,rfl⟩
 |k+1=>by
  obtain⟨h1,h2⟩:=DB (p:=p) (n:=n) (L:=L) k;rw[gS];unfold rm;split
  ·exact⟨by lia,h2⟩
  ·constructor
   ·show(_++[_]).length≤_;rw[bQ,bz,List.length_singleton];lia
   ·show(List.map _ _).length=_;rw[bz];exact h2
theorem zB{p:Int}{n:Nat}{L:LL}(h:cj p n L):(dw p L).length≤n:=by
 by_cases dQ:L=[]
 ·subst dQ;exact mi _
 ·have:=(DB (p:=p) (n:=pk L) (L:=L) (pk L)).1
  rw[yY h dQ]at this;unfold dw;rw[yY h dQ];exact this
theorem bG.at{K:Frag}{H:Hp}{XS:List V}{rs:LL}{i:Nat}(hA:bG K H XS (rs.map cG))(h:i<rs.length):∃ra,XS[i]?=some (.ref ra)∧aZ K H ra ((rs[i]).map V.int):=by
 have hl:i<XS.length:=by rw[fQ hA];exact h
 obtain⟨r,ra,h1,h2,h3⟩:=om hA (cE hl);rw[cE h]at h1;cases h1;exact⟨ra,by rw[cE hl,h2],h3⟩
end S21
namespace L2
open PySem PySem.Spec PyProof.Rows
section
variable{P:Program}{w:World}{K:Frag}{mg:Str→Option Value}{base:Heap}
theorem S8{x qual:Str}{st:Stmt}{f:Addr}{fd:FuncData}{N ps:List Str}{sp:Sp}(F:cC K x qual st f fd)(S:c8 N ps (bx st))(len:∀vs H Q E,sp vs H Q E→vs.length=ps.length)
  (mK:∀(bV:Value)(A:Around)(outer:List Env)(s:Shared)(H:Hp)(vs:List V)(Q:VK)(E:XK),sp vs H Q E→
   ∃t,iX (kE br P w K mg base N qual (bx st) f bV A outer s H E).jY (j7 st) t∧t { nx:=λ_ H'=>Q .cI H',rt:=Q } (start N vs) H):bu P w K mg base br 0 f fd ps sp:=by
 obtain⟨oc,od,kV,doc,pm,an,bV,ct,lK,rfl,lk,gQ⟩:=F.ex;refine⟨len,λA outer s H args us vs Q E hr e0 hb r jm=>?_⟩;have hl:=len _ _ _ _ jm;have KX:K.In s.heap:=e0.mod.qI.keeps λb o e=>(e0.bs b o e).1;have qY:s.heap.NoLimit:=e0.mod.nolimit.keeps λb o e=>(e0.bs b o e).1;have vC:∀y∈ps.zip us,(bx st).names.lookup y.1=some .local∨((bx st).names.lookup y.1=some .cell∧((cellsFrom (s.heap.objs.size+1) (bx st).names []).lookup y.1).isSome=true):=λ⟨n,v⟩ hy=>by
  rcases S.par n (vb hy).1 with q|q
  ·exact .inl q
  ·exact .inr ⟨q,BF _ _ _ (.inl q)⟩
 refine codeAny_call_function hr.depth (KX _ _ lk) rfl S.co S.gen rfl (PySem.W.codeRec_of KX gQ) (hb _ _ _ _ ?_);refine ay S.kind vC λenv he s1 x=>?_;subst he;refine⟨qY.keeps x.toInCall.keep,codeAny_func ?_⟩;obtain⟨t,ht,hq⟩:=mK bV A outer s H vs Q E jm;have I:Inv (kE br P w K mg base N qual (bx st) f bV A outer s H E) [] (start N vs) H s1:=Ca S hr.hd e0 hl r x;refine ai (ht.jY [] s1 (start N vs) H _ I hq) (λfl s' hs=>?_) λe s' hs=>hs;have fin:∀{σ':St}{H':Hp}{v:V}{u:Value},Inv (kE br P w K mg base N qual (bx st) f bV A outer s H E) [] σ' H' s'→RelV v u→Q v H'→CE outer P w H s Q u s':=
  λ{σ' H' v u} J rv q=>⟨v,H',J.os,J.bare,J.base,J.bH,rv,q⟩
 cases fl with
 |ret u=>
  obtain⟨v,σ',H',J,rv,q⟩:=hs;exact fin J rv q
 |next=>
  obtain⟨σ',H',J,q⟩:=hs;exact fin (v:=V.cI) (u:=Value.none) J rfl q
 |brk=>
  obtain⟨_,_,_,q⟩:=hs;exact False.elim q
 |cont=>
  obtain⟨_,_,_,q⟩:=hs;exact False.elim q
end
end L2
namespace Bw
variable{D L T:LL}{h:List Int}{p:Int}
noncomputable def kY(p:Int)(k:Nat)(h row:List Int):List Int:=fk p row (-(row.getD k 0)) h
theorem S9{n k:Nat}{row:List Int}(p0:0<p)(hh:Rw p n h)(hr:Rw p n row):kY p k h row=dv p h k row:=by
 unfold kY dv;split
 ·rfl
 ·rename_i h0
  have h0:row.getD k 0=0:=by simpa using h0
  refine(IQ _ p0 hr.1 hh.1).ext p0 hr λj=>?_;rw[vU _ hr.1 hh.1,h0];split
  ·have:=n9 p (row.getD j 0 + -0*h.getD j 0)
   rwa[show row.getD j 0 + -0*h.getD j 0=row.getD j 0 by simp]at this ⊢
  ·rw[hr.out (by lia)];exact⟨0,by simp⟩
theorem Ta{a b x:Int}(p0:0<p)(ha:a*x%p=1)(hb:b*x%p=1)(a0:0≤a)(a1:a<p)(b0:0≤b)(b1:b<p):a=b:=by
 refine IP ?_ a0 a1 b0 b1;obtain⟨u,hu⟩:=n9 p (a*x);obtain⟨v,hv⟩:=n9 p (b*x);rw[ha]at hu;rw[hb]at hv;exact⟨a*v-b*u,by grind⟩
theorem Tb{c:Int}{n k:Nat}(hp:p∈c7)(hh:Rw p n h)(h0:h.getD k 0≠0)(c0:1≤c)(c1:c<p)(hc:c*h.getD k 0%p=1):(h.map λx=>x*c%p)=dh p n h k:=by
 have p0:0<p:=by have:=gI p hp;lia
 have b:=hh.at p0 k;obtain⟨t1,t2,t3⟩:=vT hp (show 1≤h.getD k 0 by lia) b.2;have e:=Ta p0 hc t3 (by lia) c1 (by lia) t2;have r1:Rw p n (h.map λx=>x*c%p):=⟨by simp[hh.1],λx hx=>by
  obtain⟨y,_,rfl⟩:=dU.mp hx;exact⟨jR _ (by lia),jS _ p0⟩⟩
 refine r1.ext p0 (vW p0 hh) λj=>?_;rw[vV hh,← e];by_cases hj:j<n
 ·rw[ae hj,RJ hh.1 hj];exact⟨0,by lia⟩
 ·rw[ah hj,r1.out (by lia)];exact⟨0,by simp⟩
theorem drop_zero{n k:Nat}{A B:LL}{z:List Int}(I:iL p n L k (D,A++z::B))(hz:∀j,z.getD j 0=0):iL p n L k (D,A++B):=by
 have sub:∀r,r∈A++B→r∈A++z::B:=λr hr=>by
  rcases dZ.mp hr with h|h<;>simp[h]
 refine⟨I.d,λr hr=>I.r r (sub r hr),λr hr=>I.z r (sub r hr),I.lR,λr hr=>I.sub r ?_,λr hr=>(I.sup r hr).trans λf hf=>?_⟩
 ·rcases(dZ.mp hr)with(h|h)
  ·exact mh _ h
  ·exact iU _ (sub r h)
 ·obtain⟨q,hq,rfl⟩:=hf;rcases(dZ.mp hq)with(h|h)
  ·exact .mem ⟨q,mh _ h,rfl⟩
  ·rcases(dZ.mp h)with(h|h)
   ·exact .mem ⟨q,iU _ (mh _ h),rfl⟩
   ·rcases(dS.mp h)with(rfl|h)
    ·exact Sp.zero.of_eq λj=>(hz j).symm
    ·exact .mem ⟨q,iU _ (iU _ h),rfl⟩
theorem iL.skip{n k:Nat}(I:iL p n L k (D,T))(h:∀r∈T,r.getD k 0=0):iL p n L (k+1) (D,T):=by
 obtain⟨ls,E⟩:=I.lR;exact⟨I.d,I.r,λr hr j hj=>by
  by_cases e:j=k
  ·subst e;exact h r hr
  ·exact I.z r hr j (by lia),⟨ls,E.len,E.up,λl hl=>Nat.lt_succ_of_lt (E.lt l hl),E.one,E.alone⟩,I.sub,I.sup⟩
theorem iL.head{n k i:Nat}(hp:p∈c7)(hk:k<n)(I:iL p n L k (D,T))(hi:T[i]?=some h)(h0:h.getD k 0≠0)(hf:∀j q,j<i→T[j]?=some q→q.getD k 0=0) :
  iL p n L (k+1) (D.map (dv p (dh p n h k) k)++[dh p n h k],(T.eraseIdx i).map (dv p (dh p n h k) k)):=by
 have p0:0<p:=by have:=gI p hp;lia
 have il:=(gi.mp hi).1;have hT:T=T.take i++h::T.drop (i+1):=by
  have hd:T.drop i=h::T.drop (i+1):=by rw[List.drop_eq_getElem_cons il,(gi.mp hi).2]
  rw[← hd,List.take_append_drop]
 have zC:Rw p n h:=I.r h (gj hi);have rB:T.filter (λr=>r.getD k 0≠0)=h::(T.drop (i+1)).filter λr=>r.getD k 0≠0:=by
  rw(occs:=.pos [1]) [hT];rw[sN,xN (by simpa using h0),List.filter_eq_nil_iff.mpr]
  ·rfl
  ·intro q hq;obtain⟨j,hj,rfl⟩:=sM.mp hq;have tT:j<i:=by rw[cV]at hj;lia
   have:=hf j _ tT (by rw[cE (by lia)])
   rw[List.getElem_take];simpa using this
 have S:=IW hp (show k+1≤n by lia) I;unfold rm at S;dsimp only at S;rw[rB]at S;dsimp only at S;have iw:=vW (place:=k) p0 zC;have b:=zC.at p0 k;obtain⟨t1,t2,t3⟩:=vT hp (show 1≤h.getD k 0 by lia) b.2;have zc:∀j,(dv p (dh p n h k) k h).getD j 0=0:=λj=>by
  unfold dv;rw[ae h0,vU _ zC.1 iw.1];split
  ·rename_i hj
   apply Int.emod_eq_zero_of_dvd;rw[vV zC,ae hj];obtain⟨u,hu⟩:=n9 p (h.getD j 0*dM p (h.getD k 0));obtain⟨v,hv⟩:=n9 p (dM p (h.getD k 0)*h.getD k 0);rw[t3]at hv;exact⟨h.getD j 0*v-h.getD k 0*u,by grind⟩
  ·rfl
 have e1:(T.eraseIdx i).map (dv p (dh p n h k) k)=(T.take i).map (dv p (dh p n h k) k)++(T.drop (i+1)).map (dv p (dh p n h k) k):=by
  rw[List.eraseIdx_eq_take_drop_succ,cW]
 have e2:T.map (dv p (dh p n h k) k)=(T.take i).map (dv p (dh p n h k) k)++dv p (dh p n h k) k h::(T.drop (i+1)).map (dv p (dh p n h k) k):=by
  rw(occs:=.pos [1]) [hT];rw[cW,nO]
 rw[e2]at S;rw[e1];exact drop_zero S zc
theorem iL.start{n:Nat}(hL:cj p n L):iL p n L 0 ([],L):=
 ⟨λr hr=>(nomatch hr),hL,λr _ j hj=>absurd hj (by lia),⟨[],rfl,.nil,by simp,by simp,by simp⟩,λr hr=>.mem ⟨r,hr,rfl⟩,λr hr=>.mem ⟨r,hr,rfl⟩⟩
theorem iL.done{n:Nat}(hp:p∈c7)(hL:cj p n L)(I:iL p n L n (D,T)):D=dw p L:=by
 have sup:∀r∈L,Sp p (RS D) (fn r):=λr hr=>(I.sup r hr).trans λf hf=>by
  obtain⟨r0,h0,rfl⟩:=hf;rcases(dZ.mp h0)with(h0|h0)
  ·exact .mem ⟨r0,h0,rfl⟩
  ·exact(Sp.zero).of_eq λj=>(Ja (I.r r0 h0) (I.z r0 h0) j).symm
 have R:=ng hp hL;obtain⟨ls,E⟩:=I.lR;obtain⟨ms,EM⟩:=R.lR;exact E.unique hp EM I.d R.rws (λr hr=>oi R.sup (I.sub r (mh _ hr))) (λr hr=>oi sup (R.sub r hr))
theorem iL.len{p:Int}{n k:Nat}{L D T:LL}(I:iL p n L k (D,T))(hk:k≤n):D.length≤k:=by
 obtain⟨ls,E⟩:=I.lR
 have:=RN (n:=k) E.up E.lt
 have e:ls.length=D.length:=E.len;lia
section
variable{p:Int}{n:Nat}
end
end Bw
namespace S21
open PySem L2 Bw
variable{f fA:Addr}{fd kZ:FuncData}
theorem JJ:(["number","more","factor","p"]:List Str).Nodup:=by decide +kernel
def JK:Sp:=λvs H Q _=>∃p n:Int,vs=[.int p,.int n]∧2≤p∧p≤97∧Q (.int (dM p n)) H
def zD(K:Frag):Sp:=λvs H Q _=>∃(p f:Int)(a b:Addr)(r o:List Int),vs=[.int p,.ref a,.int f,.ref b]∧2≤p∧p≤97∧-1000≤f∧f≤1000∧aZ K H a (r.map V.int)∧aZ K H b (o.map V.int)∧r.length=o.length∧r.length≤1000∧
 jD K H ((fk p r f o).map V.int) Q
def JL(K:Frag):Sp:=λvs H Q _=>∃(p n:Int)(a b:Addr)(b1 b2:Bool)(RS:List V)(rs:LL)(fs:List Int),vs=[.int p,.ref a,.ref b,.int n]∧2≤p∧p≤97∧0≤n∧n≤1000∧
 Sq b1 K H a RS∧bG K H RS (rs.map cG)∧Sq b2 K H b (fs.map V.int)∧rs.length=fs.length∧rs.length≤1000∧(∀r∈rs,r.length=n.toNat)∧(∀f∈fs,0≤f∧f<p)∧
 jD K H ((jr p (rs.zip fs) (List.replicate n.toNat 0)).map V.int) Q
theorem zE:c8 ["p","number","power","step"] ["p","number"] (bx v9):=dJ rfl rfl rfl (by decide +kernel) rfl
theorem Tc(F:cC K "turned" "turned" v9 f fd)(T:Txt mg):bu P w K mg base br 1 f fd ["p","number"] JK:=by
 refine F.ok zE (λvs H Q E h=>?_) (λbV A outer s H vs Q E hr h=>?_)
 ·obtain⟨p,n,rfl,_⟩:=h;rfl
 ·obtain⟨p,n,rfl,p2,cX,k⟩:=h;refine⟨_,bh (bY (i:=2) zE.nd rfl (.inl rfl) aU) (bh (jZ kr rfl (nX rfl T.range (aL (aY iZ (pv 0) aU) aR)) (cq (i:=3) zE.nd rfl (.inl rfl)) (bK (bY (i:=2) zE.nd rfl (.inl rfl) (aY eW (aY j5 (pv 2) (pv 1)) (pv 0))))) (bK (cQ (pv 2)))),?_⟩;refine⟨_,rfl,_,_,rfl,rfl,p-2,rfl,by lia,by lia,qU (n:=(p-2).toNat) (λi σ H'=>H'=H∧∃st,σ=[some (.int p),some (.int n),some (.int (rk p n i)),st]) ⟨rfl,none,rfl⟩ ?_ ?_⟩
  ·rintro i σ H' hi ⟨rfl,st,rfl⟩;have hb:=Ry (n:=n) p2 i;exact⟨_,rfl,_,rfl,_,_,rfl,rfl,.inl ⟨by lia,by lia⟩,_,rfl,_,_,rfl,rfl,by lia,rfl,_,rfl⟩
  ·rintro σ H' ⟨rfl,st,rfl⟩;exact⟨_,rfl,k⟩
theorem Td:c8 ["p","row","factor","other"] ["p","row","factor","other"] (bx pw):=dJ rfl rfl rfl (by decide +kernel) rfl
theorem JM(F:cC K "added" "added" pw f fd)(T:Txt mg):bu P w K mg base br 0 f fd ["p","row","factor","other"] (zD K):=by
 refine S8 F Td (λvs H Q E h=>?_) (λbV A outer s H vs Q E h=>?_)
 ·obtain⟨p,f,a,b,r,o,rfl,_⟩:=h;rfl
 ·obtain⟨p,fc,a,b,r,o,rfl,p2,cX,f0,f1,ha,hb,hl,hz,k⟩:=h;refine⟨_,bK (cQ (j6 (ph K rfl) rfl T.tuple mZ (aL (i9 (N:=["number","more","factor","p"]) (own:=2) (caps:=[2,0]) rfl (IH K rfl false false rfl T.zip (aL (pv 1) (aL (pv 3) aR))) (show du ["p","row","factor","other"] (bx pw) ["number","more","factor","p"] 2 [2,0] _ from .mk' (by decide +kernel)) (λ_ _ _ _ _=>pj (n:=2) K rfl rfl (eV (cq (i:=0) JJ rfl (.inl rfl)) (eV (cq (i:=1) JJ rfl (.inl rfl)) oY))) (λ_ _ _ _ _=>gG) (λ_ _ _ _ _=>aY eW (aY fh (pv 0) (aY j5 (pv 2) (pv 1))) (pv 3))) aR))),?_⟩
  have ext:(fk p r fc o).length=r.length:=by simp[fk,hl]
  refine⟨_,rfl,_,rfl,a,b,rfl,⟨_,ha⟩,⟨_,hb⟩,Rc (b1:=false) (b2:=false) (cp:=[some (.int fc),some (.int p)]) (λi H' zs=>zs=((fk p r fc o).take i).map V.int) ha hb (by simp[hl]) (by rw[bz];exact oO (yv hz)) rfl (λi H' zs e=>by subst e;rw[bz,cV];lia) (λi H1 H2 zs _ e=>e) ?_ ?_⟩
  ·rintro i x y H' zs hx hy sm rfl;rw[eI]at hx hy;cases e1:r[i]? with
   |none=>rw[e1]at hx;cases hx
   |some u=>
    cases e2:o[i]? with
    |none=>rw[e2]at hy;cases hy
    |some v=>
     rw[e1]at hx;rw[e2]at hy;cases hx;cases hy;refine kN ?_;refine⟨_,rfl,_,rfl,_,rfl,_,_,rfl,rfl,.inl ⟨by lia,by lia⟩,_,_,rfl,rfl,_,rfl,_,_,rfl,rfl,by lia,⟨[_,_],rfl,rfl⟩,sm,?_⟩;have e3:(fk p r fc o)[i]?=some ((u+fc*v)%p):=by
      unfold fk;rw[List.getElem?_zipWith,e1,e2]
     rw[gq,e3];simp
  ·rintro H' zs sm rfl q hq;rw[bz,nQ (by lia)];refine⟨q,_,rfl,.inl ⟨.of aX,λl hl=>?_⟩⟩;exact k _ _ ((sm.trans (.upd hq)).trans (.upd hl)) (.of aX)
theorem Te(F:cC K "added" "added" pw f fd)(T:Txt mg):bu P w K mg base br 1 f fd ["p","row","factor","other"] (zD K):=(JM F T).mono (by decide)
theorem JN(p:Int)(r:List Int)(f:Int):∀(L:List (List Int×Int))(t:List Int),jr p (L++[(r,f)]) t=fk p (jr p L t) f r
 | [],t=>rfl
 |(r',f')::L,t=>by
  rw[List.cons_append,jr,jr];exact JN p r f L _
theorem JO{p:Int}{n:Nat}:∀(L:List (List Int×Int))(t:List Int),(∀q∈L,q.1.length=n)→t.length=n→(jr p L t).length=n
 | [],t,_,h=>h
 |(r,f)::L,t,h,ht=>by
  rw[jr];refine JO L _ (λq hq=>h q (fu _ hq)) ?_
  have:=h (r,f) cZ
  simp only at this;simp[fk,ht,this]
theorem wg:c8 ["p","rows","factors","length","total","row","factor"] ["p","rows","factors","length"] (bx wa):=dJ rfl rfl rfl (by decide +kernel) rfl
theorem Tf(F:cC K "summed" "summed" wa f fd)(T:Txt mg)(FA:cC K "added" "added" pw fA kZ)(bA:Binds K kZ ["p","row","factor","other"] [])(mA:Mg mg "added" fA) :
  bu P w K mg base br 1 f fd ["p","rows","factors","length"] (JL K):=by
 have GA:bu P w K mg base br 0 fA kZ ["p","row","factor","other"] (zD K):=JM FA T;refine F.ok wg (λvs H Q E h=>?_) (λbV A outer s H vs Q E hr h=>?_)
 ·obtain⟨p,n,a,b,b1,b2,RS,rs,fs,rfl,_⟩:=h;rfl
 ·obtain⟨p,n,a,b,b1,b2,RS,rs,fs,rfl,p2,cX,n0,n1,kK,hA,gH,hl,hz,DC,rB,k⟩:=h;refine⟨_,bh (bY (i:=4) wg.nd rfl (.inl rfl) (aY (lP K rfl) (cB (aL aU aR)) (pv 3))) (bh (jZ kr rfl (IH K rfl b1 b2 rfl T.zip (aL (pv 1) (aL (pv 2) aR))) (pj (n:=2) K rfl rfl (eV (cq (i:=5) wg.nd rfl (.inl rfl)) (eV (cq (i:=6) wg.nd rfl (.inl rfl)) oY))) (bK (bY (i:=4) wg.nd rfl (.inl rfl) (cT GA hr rfl mA FA.kp bA .nil cU (aL (pv 0) (aL (pv 4) (aL (pv 6) (aL (pv 5) aR)))))))) (bK (cQ (pv 4)))),?_⟩;refine⟨by decide,λq hq=>⟨_,rfl,q,n,_,rfl,rfl,.of aX,by simp,by lia,by lia,?_,λt H1 ke ht=>?_⟩⟩
  ·have:(1000:Nat)≤sizeLine:=by decide
   show 1*n.toNat≤sizeLine;lia
  have DD:aM H H1:=(aM.upd hq).trans ke;have zF:RS.length=(fs.map V.int).length:=by rw[hA.length,bz,bz];exact hl
  have e0:(List.replicate n.toNat [V.int 0]).flatten=(List.replicate n.toNat (0:Int)).map V.int:=by
   rw[List.map_replicate];induction n.toNat with
   |zero=>rfl
   |succ m ih=>rw[nN,sJ,ih,nN];rfl
  refine⟨_,rfl,_,rfl,a,b,rfl,⟨_,DD.sq kK⟩,⟨_,DD.sq gH⟩,Rf (b1:=b1) (b2:=b2) (λi σ H'=>aM H H'∧∃t wj j0,σ=[some (.int p),some (.ref a),some (.ref b),some (.int n),some (.ref t),wj,j0]∧aZ K H' t ((jr p ((rs.zip fs).take i) (List.replicate n.toNat 0)).map V.int)) zF ⟨DD,t,none,none,rfl,by rw[e0]at ht;exact ht⟩ (λi σ H' ⟨sm,_⟩=>⟨sm.sq kK,sm.sq gH⟩) (λi σ H1 H2 JP ⟨sm,t,wj,j0,e,ht⟩=>⟨sm.trans JP,t,wj,j0,e,JP.bE ht⟩) ?_ ?_⟩
  ·rintro i x y σ H' hx hy ⟨sm,t,wj,j0,rfl,ht⟩;obtain⟨d,hd,hU⟩:=hA.get hx;rw[eI]at hd hy;cases e1:rs[i]? with
   |none=>rw[e1]at hd;cases hd
   |some r=>
    cases e2:fs[i]? with
    |none=>rw[e2]at hy;cases hy
    |some fc=>
     rw[e1]at hd;rw[e2]at hy;cases hd;cases hy;obtain⟨ra,rfl,dy⟩:=ID hU;have iN:=DC r (gj e1);have hf1:=rB fc (gj e2);have JQ:(jr p ((rs.zip fs).take i) (List.replicate n.toNat 0)).length=n.toNat:=JO _ _ (λq hq=>DC q.1 (vb (jU hq)).1) (by simp);refine⟨_,rfl,_,rfl,_,rfl,_,rfl,p,fc,t,ra,_,r,rfl,p2,cX,by lia,by lia,ht,sm.bE dy,by rw[JQ,iN],by rw[JQ];lia,λt' H2 tY wk=>?_⟩;refine⟨sm.trans tY,t',_,_,rfl,?_⟩;have e3:(rs.zip fs)[i]?=some (r,fc):=by rw[List.getElem?_zip_eq_some];exact⟨e1,e2⟩
     rw[gq,e3];show aZ K H2 t' ((jr p ((rs.zip fs).take i++[(r,fc)]) _).map V.int);rw[JN];exact wk
  ·rintro σ H' ⟨sm,t,wj,j0,rfl,ht⟩;have e4:(rs.zip fs).length≤RS.length:=by rw[List.length_zip,hA.length,bz];lia
   rw[nQ e4]at ht;exact⟨_,rfl,k _ _ sm ht⟩
theorem Tg:(["row","place"]:List Str).Nodup:=by decide +kernel
theorem JR:(["row","lead","p","place"]:List Str).Nodup:=by decide +kernel
def DE(K:Frag):Sp:=λvs H Q _=>∃(p:Int)(a b:Addr)(r o:List Int)(i:Int)(j:Nat),vs=[.int p,.ref a,.ref b,.int i]∧i=j∧2≤p∧p≤97∧aZ K H a (r.map V.int)∧aZ K H b (o.map V.int)∧r.length=o.length∧j<r.length∧r.length≤1000∧
 (∀x∈r,0≤x∧x<p)∧jD K H ((dv p o j r).map V.int) Q
def pA(K:Frag):Sp:=λvs H Q _=>∃(p:Int)(a:Addr)(b:Bool)(RS:List V)(rs:LL)(n:Nat),vs=[.int p,.ref a]∧p∈c7∧Sq b K H a RS∧bG K H RS (rs.map cG)∧rs.length≤1000∧n≤1000∧cj p n rs∧
 ∀t H' DS,aM H H'→aZ K H' t DS→bG K H' DS ((dw p rs).map cG)→Q (.ref t) H'
theorem Th:c8 ["p","row","lead","place"] ["p","row","lead","place"] (bx zj):=dJ rfl rfl rfl (by decide +kernel) rfl
theorem Ti(F:cC K "cleared" "cleared" zj f fd)(T:Txt mg)(FA:cC K "added" "added" pw fA kZ)(bA:Binds K kZ ["p","row","factor","other"] [])(mA:Mg mg "added" fA) :
  bu P w K mg base br 2 f fd ["p","row","lead","place"] (DE K):=by
 have GA:bu P w K mg base br 1 fA kZ ["p","row","factor","other"] (zD K):=Te FA T;refine F.ok Th (λvs H Q E h=>?_) (λbV A outer s H vs Q E hr h=>?_)
 ·obtain⟨p,a,b,r,o,i,j,rfl,_⟩:=h;rfl
 ·obtain⟨p,a,b,r,o,i,j,rfl,rfl,p2,cX,ha,hb,hl,hj,hz,DF,k⟩:=h;refine⟨_,bK (cQ (Gi (de B4 (cf (cJ K rfl) (pv 1) (pv 3) (λ_ _=>rfl)) aU (da _)) (cT GA hr rfl mA FA.kp bA .nil cU (aL (pv 0) (aL (pv 1) (aL (mI mJ (cf (cJ K rfl) (pv 1) (pv 3) (λ_ _=>rfl))) (aL (pv 2) aR))))) (pv 1))),?_⟩;have hx:=DF _ (gj (we hj));refine⟨_,rfl,_,rfl,a,_,(j:Int),_,rfl,rfl,ha,cH (px hj),rfl,_,rfl,Dz (λdQ=>?_) (λheq=>?_)⟩
  ·have DG:r.getD j 0≠0:=λz=>dQ (ao V.int z);refine⟨_,rfl,_,rfl,_,rfl,_,rfl,a,_,(j:Int),_,rfl,rfl,ha,cH (px hj),_,rfl,_,rfl,p,-(r.getD j 0),a,b,r,o,rfl,p2,cX,by lia,by lia,ha,hb,hl,hz,?_⟩;unfold dv at k;rw[ae DG]at k;exact k
  ·have Tj:r.getD j 0=0:=V.int.inj heq;unfold dv at k;rw[ah (λz=>z Tj)]at k;exact⟨_,rfl,k.old ha⟩
noncomputable abbrev nD:List Str:=["p","rows","done","rest","length","place","heads","lead"]
theorem pB:c8 ["p","rows","done","rest","length","place","heads","lead"] ["p","rows"] (bx tZ):=dJ rfl rfl rfl (by decide +kernel) rfl
theorem JS{H:Hp}{l la:Addr}{XS:List V}{xs:LL}{p:Int}{n place:Nat}{lead:List Int}{Q:VK}{te:TE}(p2:2≤p)(cX:p≤97)(hl:cM K H l XS)(hA:bG K H XS (xs.map cG))(hx:cj p n xs)(hz:xs.length≤1000)(hn:n≤1000)(hp:place<n)(rC:lead.length=n)(ic:aZ K H la (lead.map V.int))
  (DH:∀(x:Addr)(H1:Hp)(R:VK),DE K [.int p,.ref x,.ref la,.int (0+(place:Int))] H1 R (λ_ _ _=>False)→te [some (.ref x),some (.ref la),some (.int p),some (.int (0+(place:Int)))] H1 R)
  (done:∀H' zs,aM H H'→bG K H' zs ((xs.map (dv p lead place)).map cG)→∀q,H' q=none→Q (.ref q) (upd H' q (.lst zs))) :
  ∃W:Nat→Nat→St→Hp→List V→Prop,(∃m,W 0 m (List.replicate 1 none++[some (.ref la),some (.int p),some (.int (0+(place:Int)))]) H [])∧jo (mE K l) (bq 0) i8 te Q W:=by
 refine p8 (cp:=[some (.ref la),some (.int p),some (.int (0+(place:Int)))]) (λi H' zs=>bG K H' zs (((xs.take i).map (dv p lead place)).map cG)) hl (by rw[fQ hA];exact oO (yv hz)) .nil
  (λi H' zs h=>by rw[fQ h,bz,cV];lia) ?_ ?_
 ·rintro i x H' zs hU sm h;obtain⟨r,a,hr,rfl,ha⟩:=om hA hU;have hR:=hx r (gj hr);refine kN (DH a H' _ ⟨p,a,la,r,lead,0+(place:Int),place,rfl,by lia,p2,cX,sm.bE ha,sm.bE ic,by rw[hR.1,rC],by rw[hR.1];exact hp,by rw[hR.1];exact hn,hR.2,λt H2 s2 ht=>?_⟩);refine⟨⟨[_],rfl,rfl⟩,sm.trans s2,?_⟩;rw[gq,hr];show bG K H2 _ (((xs.take i++[r]).map (dv p lead place)).map cG);rw[cW,cW];exact(h.mono s2).append (.cons (jE ht) .nil)
 ·rintro H' zs sm h q hq;rw[fQ hA,kq]at h;exact done H' zs sm h q hq
def JT(K:Frag):Sp:=λvs H Q _=>∃(p:Int)(a:Addr)(r:List Int)(i:Int)(j:Nat),vs=[.int p,.ref a,.int i]∧i=j∧p∈c7∧aZ K H a (r.map V.int)∧j<r.length∧r.length≤1000∧(∀x∈r,0≤x∧x<p)∧r.getD j 0≠0∧
 jD K H ((dh p r.length r j).map V.int) Q
theorem Tn:c8 ["p","row","place"] ["p","row","place"] (bx zi):=dJ rfl rfl rfl (by decide +kernel) rfl
theorem To{fT fS:Addr}{jv jH:FuncData}(F:cC K "led" "led" zi f fd)(T:Txt mg)(FA:cC K "added" "added" pw fA kZ)(bA:Binds K kZ ["p","row","factor","other"] [])(mA:Mg mg "added" fA)
  (FT:cC K "turned" "turned" v9 fT jv) (bT:Binds K jv ["p","number"] []) (mT:Mg mg "turned" fT) (FS:cC K "summed" "summed" wa fS jH) (bS:Binds K jH ["p","rows","factors","length"] []) (mS:Mg mg "summed" fS) :
  bu P w K mg base br 2 f fd ["p","row","place"] (JT K):=by
 have GT:bu P w K mg base br 1 fT jv ["p","number"] JK:=Tc FT T;have GS:bu P w K mg base br 1 fS jH ["p","rows","factors","length"] (JL K):=Tf FS T FA bA mA;refine F.ok Tn (λvs H Q E h=>?_) (λbV A outer s H vs Q E hr h=>?_)
 ·obtain⟨p,a,r,i,j,rfl,_⟩:=h;rfl
 ·obtain⟨p,a,r,i,j,rfl,rfl,pp,ha,hj,hz,DF,dQ,k⟩:=h;obtain⟨p2,cX⟩:=gI p pp;refine⟨_,bK (cQ (cT GS hr rfl mS FS.kp bS .nil cU (aL (pv 0) (aL (gk (aL (pv 1) aR)) (aL (gk (aL (cT GT hr rfl mT FT.kp bT .nil cU (aL (pv 0) (aL (cf (cJ K rfl) (pv 1) (pv 2) (λ_ _=>rfl)) aR))) aR)) (aL (gm (jF K rfl) rfl T.len jG (aL (pv 1) aR)) aR)))))),?_⟩;have hx:=DF _ (gj (we hj));have vB:=vT (n:=r.getD j 0) pp (by lia) hx.2;refine⟨_,rfl,_,rfl,(by show 1≤sizeLine;decide),λl1 h1=>?_⟩;refine⟨_,rfl,_,rfl,_,rfl,a,_,(j:Int),_,rfl,rfl,(aM.upd h1).bE ha,cH (px hj),p,r.getD j 0,rfl,p2,cX,(by show 1≤sizeLine;decide),λl2 h2=>?_⟩;have DI:aM H (upd (upd H l1 (.lst [.ref a])) l2 (.lst [.int (dM p (r.getD j 0))])):=(aM.upd h1).trans (.upd h2);refine⟨_,rfl,a,_,rfl,.inr (DI.bE ha),?_⟩;rw[bz];refine⟨p,(r.length:Int),l1,l2,true,true,[.ref a],[r],[dM p (r.getD j 0)],rfl,p2,cX,by lia,by lia,.of (by rw[cn (eT aX h2)];exact aX),.cons (jE (DI.bE ha)) .nil,.of aX,rfl,(by show 1≤1000;decide),λq hq=>by rw[dI.mp hq];rfl,λf hf=>by rw[dI.mp hf];lia,λt H6 DJ ht=>?_⟩;exact k t H6 (DI.trans DJ) ht
theorem zG{fT fS fC fL:Addr}{jv jH lj jI:FuncData}(F:cC K "reduced" "reduced" tZ f fd)(T:Txt mg)(FA:cC K "added" "added" pw fA kZ)(bA:Binds K kZ ["p","row","factor","other"] [])(mA:Mg mg "added" fA)
  (FT:cC K "turned" "turned" v9 fT jv) (bT:Binds K jv ["p","number"] []) (mT:Mg mg "turned" fT) (FS:cC K "summed" "summed" wa fS jH) (bS:Binds K jH ["p","rows","factors","length"] []) (mS:Mg mg "summed" fS)
  (FC:cC K "cleared" "cleared" zj fC lj) (bC:Binds K lj ["p","row","lead","place"] []) (mC:Mg mg "cleared" fC)
  (FL:cC K "led" "led" zi fL jI) (bL:Binds K jI ["p","row","place"] []) (mL:Mg mg "led" fL) :
  bu P w K mg base br 3 f fd ["p","rows"] (pA K):=by
 have GL:bu P w K mg base br 2 fL jI ["p","row","place"] (JT K):=To FL T FA bA mA FT bT mT FS bS mS;have GC:bu P w K mg base br 2 fC lj ["p","row","lead","place"] (DE K):=Ti FC T FA bA mA;refine F.ok pB (λvs H Q E h=>?_) (λbV A outer s H vs Q E hr h=>?_)
 ·obtain⟨p,a,b,RS,rs,n,rfl,_⟩:=h;rfl
 ·obtain⟨p,a,b,RS,rs,n,rfl,pp,hq,hA,hz,hn,hR,k⟩:=h;obtain⟨p2,cX⟩:=gI p pp;refine⟨_,bh (bY (i:=2) pB.nd rfl (.inl rfl) (gk aR)) (bh (bY (i:=3) pB.nd rfl (.inl rfl) (j6 (CV K rfl) rfl T.list CW (aL (pv 1) aR))) (bh (bY (i:=4) pB.nd rfl (.inl rfl) (Gi (GQ (pv 3) (λ_=>rfl)) (gm (jF K rfl) rfl T.len jG (aL (cf (e7 K rfl) (pv 3) aU (λ_ _=>rfl)) aR)) aU)) (bh (jZ kr rfl (nX rfl T.range (aL (pv 4) aR)) (cq (i:=5) pB.nd rfl (Or.inr rfl)) (bh (mY (i:=6) (N:=["row","place"]) (own:=1) (caps:=[5]) rfl pB.nd rfl rfl (ja K rfl (pv 3)) (show du nD (bx tZ) ["row","place"] 1 [5] _ from .mk' (by decide +kernel)) (λ_ _ _ _ _=>cq (i:=0) Tg rfl (.inl rfl)) (λ_ _ _ _ _=>tH (de B4 (cf (cJ K rfl) (pv 0) (pv 1) (λ_ _=>rfl)) aU (da _))) (λ_ _ _ _ _=>pv 0)) (bK (dX (GQ (pv 6) (λ_=>rfl)) (bh (bY (i:=7) pB.nd rfl (Or.inr rfl) (cT GL hr rfl mL FL.kp bL .nil cU (aL (pv 0) (aL (cf (e7 K rfl) (pv 6) aU (λ_ _=>rfl)) (aL (pv 5) aR))))) (bh (bY (i:=2) pB.nd rfl (.inl rfl) (aY n8 (i9 (N:=["row","lead","p","place"]) (own:=1) (caps:=[7,0,5]) rfl (ja K rfl (pv 2)) (show du nD (bx tZ) ["row","lead","p","place"] 1 [7,0,5] _ from .mk' (by decide +kernel)) (λ_ _ _ _ _=>cq (i:=0) JR rfl (.inl rfl)) (λ_ _ _ _ _=>gG) (λ_ _ _ _ _=>cT GC hr rfl mC FC.kp bC .nil cU (aL (pv 2) (aL (pv 0) (aL (pv 1) (aL (pv 3) aR)))))) (gk (aL (pv 7) aR)))) (bK (mY (i:=3) (N:=["row","lead","p","place"]) (own:=1) (caps:=[7,0,5]) rfl pB.nd rfl rfl (ja K rfl (pv 3)) (show du nD (bx tZ) ["row","lead","p","place"] 1 [7,0,5] _ from .mk' (by decide +kernel)) (λ_ _ _ _ _=>cq (i:=0) JR rfl (.inl rfl)) (λ_ _ _ _ _=>gG) (λ_ _ _ _ _=>cT GC hr rfl mC FC.kp bC .nil cU (aL (pv 2) (aL (pv 0) (aL (pv 1) (aL (pv 3) aR)))))))))
     fg)))) (bK (cQ (j6 (ph K rfl) rfl T.tuple mZ (aL (pv 2) aR))))))),?_⟩
  refine⟨by decide,λld hd=>⟨_,rfl,a,RS,rfl,?_,λlr rE=>?_⟩⟩
  ·cases b with
   |true=>exact .inl ((aM.upd hd).sq (b:=true) hq)
   |false=>exact .inr ((aM.upd hd).sq (b:=false) hq)
  have ke:aM H (upd (upd H ld (.lst [])) lr (.lst RS)):=(aM.upd hd).trans (.upd rE);have g1:(upd (upd H ld (.lst [])) lr (.lst RS)) ld=some (.lst []):=by rw[cn (eT aX rE)];exact aX
  have g2:(upd (upd H ld (.lst [])) lr (.lst RS)) lr=some (.lst RS):=aX;generalize upd (upd H ld (.lst [])) lr (.lst RS)=H1 at ke g1 g2 ⊢;have zH:=hA.mono ke;have cA:RS.length=rs.length:=fQ hA;refine⟨_,rfl,!RS.isEmpty,.inl ⟨RS,.of g2,rfl⟩,?_⟩;by_cases dQ:rs=[]
  ·subst dQ;have e0:RS=[]:=List.length_eq_zero_iff.mp cA;subst e0;refine eP ?_;refine⟨_,rfl,0,rfl,by decide,by decide,qU (n:=0) (λi σ H'=>H'=H1∧σ=[some (.int p),some (.ref a),some (.ref ld),some (.ref lr),some (.int 0),none,none,none]) ⟨rfl,rfl⟩ (λi σ H' hi=>absurd hi (by lia)) ?_⟩;rintro σ H' ⟨rfl,rfl⟩;exact⟨_,rfl,ld,_,rfl,.inl ⟨.of g1,λt ht=>k t _ [] (ke.trans (.upd ht)) (.of aX) .nil⟩⟩
  ·have e1:pk rs=n:=yY hR dQ;have DK:0<rs.length:=List.length_pos_iff.mpr dQ;have hb:(!RS.isEmpty)=true:=by
    cases RS with
    |nil=>rw[pU]at cA;lia
    |cons _ _=>rfl
   rw[hb];refine i7 ?_;have JU:RS[0]?=some (RS[0]'(by lia)):=cE _;obtain⟨r0,a0,zI,Tp,Tq⟩:=om zH JU;have Tr:(r0.map V.int).length=n:=by rw[bz];exact(hR r0 (gj zI)).1
   refine⟨_,rfl,lr,RS,0,_,rfl,rfl,.of g2,cH (j:=0) (JU.trans (ao some Tp)),a0,_,rfl,.inr Tq,?_⟩;rw[Tr];refine⟨_,rfl,(n:Int),rfl,by lia,by lia,qU (n:=n) (λi σ H'=>aM H H'∧∃dn rF DS XS s5 s6 s7,σ=[some (.int p),some (.ref a),some (.ref dn),some (.ref rF),some (.int (n:Int)),s5,s6,s7]∧H' dn=some (.lst DS)∧bG K H' DS ((gS p n rs i).1.map cG)∧H' rF=some (.lst XS)∧bG K H' XS ((gS p n rs i).2.map cG)) ⟨ke,ld,lr,[],RS,none,none,none,rfl,g1,.nil,g2,zH⟩ ?_ ?_⟩
   ·rintro i σ H2 hi ⟨sm,dn,rF,DS,XS,s5,s6,s7,rfl,gd,hD,gr,hX⟩;have IO:=CZ pp hR i (oO hi);have IL:=DB (p:=p) (n:=n) (L:=rs) i;have Ts:gS p n rs (i+1)=rm p n (gS p n rs i) i:=rfl;rw[Ts];generalize gS p n rs i=st at hD hX IO IL ⊢;refine⟨_,rfl,rF,rfl,⟨_,.of gr⟩,p8 (cp:=[some (.int (0+(i:Int)))]) (λj H' zs=>bG K H' zs (((st.2.take j).filter λr=>r.getD i 0≠0).map cG)) (.of gr) (by rw[fQ hX,IL.2];exact oO (yv hz)) .nil (λj H' zs h=>by rw[fQ h];exact ft (BJ _ _) (by rw[cV];lia)) ?_ ?_⟩
    ·rintro j x H' zs hU iy h;obtain⟨r,ra,DM,rfl,dy⟩:=om hX hU;have DN:=IO.r r (gj DM);have DO:i<r.length:=by rw[DN.1];exact hi
     refine⟨_,rfl,_,rfl,ra,_,(i:Int),_,rfl,ao V.int (oQ _),iy.bE dy,cH (px DO),rfl,_,rfl,Dz (λDG=>?_) (λheq=>?_)⟩
     ·have wm:r.getD i 0≠0:=λz=>DG (ao V.int z);refine⟨_,rfl,⟨[_],rfl,rfl⟩,iy,?_⟩;rw[gq,DM];show bG K H' _ (((st.2.take j++[r]).filter _).map cG);rw[sN,xN (by simpa using wm),sO,cW];exact h.append (.cons (jE (iy.bE dy)) .nil)
     ·have wo:r.getD i 0=0:=V.int.inj heq;refine⟨⟨[_],rfl,rfl⟩,iy,?_⟩;rw[gq,DM];show bG K H' _ (((st.2.take j++[r]).filter _).map cG);rw[sN,BG (by simpa using wo),sO,gY];exact h
    rintro H3 zs nj h3 lh zJ;rw[fQ hX,kq]at h3;have jJ:aM H2 (upd H3 lh (.lst zs)):=nj.trans (.upd zJ);have g4:(upd H3 lh (.lst zs)) lh=some (.lst zs):=aX;have h4:=h3.mono (aM.upd zJ (o:=.lst zs));generalize upd H3 lh (.lst zs)=H4 at jJ g4 h4 ⊢;refine⟨_,rfl,!zs.isEmpty,.inl ⟨zs,.of g4,rfl⟩,?_⟩;unfold rm;generalize hf:(st.2.filter λr=>r.getD i 0≠0)=hs at h4 ⊢;cases hs with
    |nil=>
     have:zs=[]:=List.length_eq_zero_iff.mp (fQ h4)
     subst this;refine eP ?_;exact⟨sm.trans jJ,dn,rF,DS,XS,_,_,_,rfl,jJ _ _ gd,hD.mono jJ,jJ _ _ gr,hX.mono jJ⟩
    |cons hd tl=>
     cases zs with
     |nil=>exact absurd (fQ h4) (by simp)
     |cons z zs'=>
      obtain⟨r',ha,jw,rfl,Tt⟩:=om (i:=0) (x:=z) h4 rfl;have er:hd=r':=dj jw;subst er;refine i7 ?_;have JV:hd∈st.2∧hd.getD i 0≠0:=by
       have:hd∈st.2.filter λr=>r.getD i 0≠0:=by rw[hf];exact cZ
       simpa using lD.mp this
      have lW:=IO.r hd JV.1;have DO:i<hd.length:=by rw[lW.1];exact hi
      refine⟨_,rfl,_,rfl,lh,_,0,.ref ha,rfl,rfl,.of g4,cH (j:=0) rfl,_,rfl,p,ha,hd,0+(i:Int),i,rfl,oQ _,pp,Tt,DO,by rw[lW.1];exact hn,lW.2,JV.2,λt H6 DJ ht=>?_⟩;have zK:aM H2 H6:=jJ.trans DJ;rw[lW.1]at ht;have wk:aZ K H6 t ((dh p n hd i).map V.int):=ht;have DP:=vW (place:=i) (show 0<p by lia) lW;dsimp only;generalize dh p n hd i=JW at wk DP ⊢;refine⟨_,rfl,dn,rfl,⟨_,.of (zK _ _ gd)⟩,JS p2 cX (.of (zK _ _ gd)) (hD.mono zK) IO.d (by lia) hn hi DP.1 wk (λx H1 R h=>⟨_,rfl,_,rfl,_,rfl,_,rfl,h⟩) λH8 qc zL h8 q8 Tu=>?_⟩;refine⟨_,rfl,(by show 1≤sizeLine;decide),λl9 h9=>⟨q8,l9,_,_,rfl,rfl,by rw[cn (eT aX h9)];exact aX,aX,?_,λq9 Tv=>?_⟩⟩
      ·show qc.length+1≤sizeLine;rw[fQ h8,bz]
       have:(1000:Nat)<sizeLine:=by decide
       lia
      have pC:aM H8 (upd (upd (upd H8 q8 (.lst qc)) l9 (.lst [.ref t])) q9 (.lst (qc++[.ref t]))):=((aM.upd Tu).trans (.upd h9)).trans (.upd Tv);have g9:(upd (upd (upd H8 q8 (.lst qc)) l9 (.lst [.ref t])) q9 (.lst (qc++[.ref t]))) q9=some (.lst (qc++[.ref t])):=aX;generalize upd (upd (upd H8 q8 (.lst qc)) l9 (.lst [.ref t])) q9 (.lst (qc++[.ref t]))=H9 at pC g9 ⊢;have qd:aM H2 H9:=(zK.trans zL).trans pC;have JX:=(zL.trans pC).bE wk;refine⟨_,rfl,rF,rfl,⟨_,.of (qd _ _ gr)⟩,JS p2 cX (.of (qd _ _ gr)) (hX.mono qd) IO.r (by lia) hn hi DP.1 JX (λx H1 R h=>⟨_,rfl,_,rfl,_,rfl,_,rfl,h⟩) λHb JY Tw hb qb JZ=>?_⟩;have lX:=Tw.trans (aM.upd JZ (o:=.lst JY));refine⟨(sm.trans qd).trans lX,q9,qb,_,JY,_,_,_,rfl,lX _ _ g9,?_,aX,hb.mono (.upd JZ)⟩;show bG K _ _ ((st.1.map (dv p JW i)++[JW]).map cG);rw[cW];exact(h8.mono (pC.trans lX)).append (.cons (jE (lX.bE JX)) .nil)
   ·rintro σ H' ⟨sm,dn,rF,DS,XS,s5,s6,s7,rfl,gd,hD,gr,hX⟩;refine⟨_,rfl,dn,_,rfl,.inl ⟨.of gd,λt ht=>k t _ DS (sm.trans (.upd ht)) (.of aX) ?_⟩⟩;unfold dw;rw[e1];exact hD.mono (.upd ht)
noncomputable def zM:List (Str×V):=[("times",.int 1),("back",.int 1),("beside",.int 2),("then",.int 2)]
noncomputable def kf(x:Str):Nat:=if x="times"∨x="back" then 1 else if x="beside"∨x="then" then 2 else 0
theorem Tx(x:Str):(PyProof.Rows.KTD.datumAt x zM).getD (.int 0)=.int (kf x):=by
 unfold zM kf;simp only[PyProof.Rows.KTD.datumAt,aG];by_cases h1:x="times"
 ·simp[h1]
 ·by_cases h2:x="back"
  ·simp[h2]
  ·by_cases h3:x="beside"
   ·subst h3;rfl
   ·by_cases h4:x="then"
    ·subst h4;rfl
    ·simp[h1,h2,h3,h4]
theorem Ge(x:Str):kf x≤2:=by
 unfold kf;split
 ·lia
 ·split<;>lia
structure Parts(K:Frag)(mg:Str→Option Value)(aP:Addr):Prop where
 nm:mg "PARTS"=some (.ref aP)
 tab:∀h,K.In h→ju h aP zM
theorem Tz:(["part","values"]:List Str).Nodup:=by decide +kernel
structure t9(k:Nat)(P:Program)(w:World)(K:Frag)(mg:Str→Option Value)(base:Heap)(s:Shared)(H:Hp)(Q:VK)(aw f:Addr)(ws:List V)(R:List V→Hp→VK→Prop)(G:Nat→List V→Hp→Prop):Prop where
 zN:aZ K H aw ws
 len:ws.length≤900000
 fn:oh P w K mg base k s H f R
 g0:G ws.length [] H
 mono:∀i vs H1 H2,G i vs H1→eC H1 H2→G i vs H2
 og:∀i vs H1,G i vs H1→vs.length≤900000
 kind:∀i,i<ws.length→(∃x,ws[i]?=some (.str x))∨∃n,ws[i]?=some (.int n)
 num:∀i n vs H1,ws[i]?=some (.int n)→G (i+1) vs H1→G i (vs++[.int n]) H1
 word:∀i x vs H1,ws[i]?=some (.str x)→G (i+1) vs H1→∃ef ps,vs=ef++ps.reverse∧ps.length=kf x∧
  ∀pa H2 Q',eC H1 H2→H2 pa=some (.lst ps)→(∀v H3,aM H2 H3→G i (ef++[v]) H3→Q' v H3)→R [.int i,.str x,.ref pa] H2 Q'
 first:∃x,ws[0]?=some (.str x)
 fin:∀td aV vs v H',aM H H'→H' td=some (.dK aV)→gp aV (Sum.inl 0)=some v→G 0 (vs++[v]) H'→Q (.ref td) H'
def J0(k:Nat)(P:Program)(w:World)(K:Frag)(mg:Str→Option Value)(base:Heap)(s:Shared):Sp:=λvs H Q _=>∃(aw f:Addr)(ws:List V)(R:List V→Hp→VK→Prop)(G:Nat→List V→Hp→Prop),vs=[.ref aw,.ref f]∧t9 k P w K mg base s H Q aw f ws R G
noncomputable abbrev TB:List Str:=["words","made","told","values","place","word","parts"]
theorem ua:c8 ["words","made","told","values","place","word","parts"] ["words","made"] (bx zm):=dJ rfl rfl rfl (by decide +kernel) rfl
def TC(K:Frag)(aw f td vl:Addr)(ws:List V)(G:Nat→List V→Hp→Prop)(H:Hp)(j:Nat)(σ:St)(H':Hp):Prop:=aM H H'∧∃(s4 s5 s6:Option V)(aV:List (Key×V))(vs:List V),
 σ=[some (.ref aw),some (.ref f),some (.ref td),some (.ref vl),s4,s5,s6]∧H' td=some (.dK aV)∧H' vl=some (.lst vs)∧aV.length≤j∧G (ws.length-j) vs H'∧
 (∀x,ws[ws.length-j]?=some (.str x)→∃ef v,vs=ef++[v]∧gp aV (Sum.inl ((ws.length-j:Nat):Int))=some v)
theorem J1{k:Nat}{aP:Addr}(F:cC K "all_folded" "all_folded" zm f fd)(T:Txt mg)(PT:Parts K mg aP):rq P w K mg base (k+1) f fd ["words","made"] (J0 k P w K mg base):=by
 refine F.Jw ua (λs vs H Q E h=>?_) (λbV A outer s H vs Q E hr h=>?_)
 ·obtain⟨aw,f,ws,R,G,rfl,_⟩:=h;rfl
 ·obtain⟨aw,fm,ws,R,G,rfl,D⟩:=h;have hu:=hr.units;have rG:=Ho hr;refine⟨_,bh (bY (i:=2) ua.nd rfl (.inl rfl) R4) (bh (bY (i:=3) ua.nd rfl (Or.inr rfl) (gk aR)) (bh (jZ kr rfl (SU rfl T.range (aL (aY iZ (gm (jF K rfl) rfl T.len jG (aL (pv 0) aR)) aU) (aL (mI mJ aU) (aL (mI mJ aU) aR)))) (cq (i:=4) ua.nd rfl (.inl rfl)) (bh (bY (i:=5) ua.nd rfl (.inl rfl) (cf (cJ K rfl) (pv 0) (pv 4) (λ_ _=>rfl))) (bK (dX (qQ (gm (Iu (T := "int")) rfl T.isinstance vS (aL (pv 5) (aL (vR rfl T.int yO) aR)))) (bK (ky (i5 ji mn mq kI (pv 3) (aL (pv 5) aR)))) (bh (mY (N:=["part","values"]) (own:=1) (caps:=[3]) (i:=6) rfl ua.nd rfl rfl (nX rfl T.range (aL (SO PT.tab (sT (v:=.ref _) rfl PT.nm rfl) (pv 5) aU ⟨rfl,rfl,rfl,rfl⟩) aR)) (show du TB (bx zm) ["part","values"] 1 [3] _ from .mk' (by decide +kernel)) (λ_ _ _ _ _=>cq (i:=0) Tz rfl (.inl rfl)) (λ_ _ _ _ _=>gG) (λ_ _ _ _ _=>S5 K rfl (pv 1))) (bh (R0 rG (pv 2) (pv 4) (by exact S4 (i:=1) D.fn hr rfl rfl (.inl rfl) (aL (pv 4) (aL (pv 5) (aL (pv 6) aR)))) rfl) (bK (ky (i5 ji mn mq kI (pv 3) (aL (Jl rG (pv 2) (pv 4) (λ_ _=>rfl)) aR)))))))))) (bK (cQ (pv 2))))),?_⟩
  have hz:(1000000:Nat)≤sizeLine:=by decide
  have hl:=D.len;intro td J2;refine⟨(by show 0≤sizeLine;lia),λvl wq=>?_⟩;have wt:vl≠td:=λz=>by rw[z,aX]at wq;cases wq
  have DQ:H vl=none:=by rw[cn wt]at wq;exact wq
  have s2:aM H (upd (upd H td (.dK [])) vl (.lst [])):=(aM.upd J2).trans (.upd wq);refine⟨_,rfl,aw,ws,rfl,.inr (s2.bE D.zN),_,_,rfl,rfl,_,rfl,_,rfl,_,rfl,⟨by lia,by lia⟩,?_⟩;have en:((ws.length:Int)-1+1).toNat=ws.length:=by lia
  rw[en];refine SV (TC K aw fm td vl ws G H) ⟨s2,none,none,none,[],[],rfl,?_,aX,mi _,D.mono _ _ _ _ D.g0 s2.tup,λx hx=>?_⟩ ?_ ?_
  ·rw[cn (Ne.symm wt)];exact aX
  ·rw[Nat.sub_zero,iV (ck _)]at hx;cases hx
  ·rintro j σ H' hj ⟨sm,s4,s5,s6,aV,vs,rfl,zO,ub,hk,hG,_⟩;obtain⟨i,hi⟩:∃i,ws.length=i+1+j:=⟨ws.length-1-j,by lia⟩;have e1:(ws.length:Int)-1-(j:Nat)=((i:Nat):Int):=by lia
   have e2:ws.length-j=i+1:=by lia
   have e3:ws.length-(j+1)=i:=by lia
   rw[e1];rw[e2]at hG;have vG:=D.og _ _ _ hG;rcases D.kind i (by lia)with⟨x,hx⟩|⟨n,hx⟩
   ·obtain⟨ef,ps,rfl,hps,TF⟩:=D.word i x vs H' hx hG;refine⟨_,rfl,_,rfl,aw,_,((i:Nat):Int),_,rfl,rfl,sm.bE D.zN,cH (j:=i) hx,?_⟩;refine⟨_,rfl,.str x,.type "str",false,rfl,.str x,Rh K,false,rfl,eP ?_⟩;have hpc:=Ge x;refine⟨rfl,_,rfl,x,rfl,((kf x:Nat):Int),by rw[Tx],by lia,by lia,?_⟩;refine SW (cp:=[some (.ref vl)]) (n:=kf x) (lo:=0) (λk Hx zs=>zs=ps.take k∧Hx vl=some (.lst (ef++(ps.drop k).reverse))∧∀b,b≠vl→Hx b=H' b) (by lia) ⟨rfl,ub,λ_ _=>rfl⟩ (λk Hx zs h=>by rw[h.1];exact ve _ _) ?_ ?_
    ·rintro k Hx zs iu ⟨rfl,h1,h2⟩;have cN:k<ps.length:=by lia
     have ex:ef++(ps.drop k).reverse=(ef++(ps.drop (k+1)).reverse)++[ps[k]]:=by rw[List.drop_eq_getElem_cons cN,List.reverse_cons,dq]
     rw[ex]at h1;refine⟨_,rfl,.inl ⟨rfl,_,.of h1⟩,vl,_,ps[k],rfl,rfl,h1,by simp,tX.mk ⟨?_,?_,λb hb=>?_⟩⟩
     ·rw[gq,cE cN];rfl
     ·rw[aX,List.dropLast_concat]
     ·rw[cn hb];exact h2 b hb
    ·rintro Hx zs ⟨rfl,h1,h2⟩ pa iz;rw[nQ (by lia)];rw[List.drop_eq_nil_of_le (by lia),List.reverse_nil,gY]at h1;have zP:td≠vl:=Ne.symm wt;have keep:∀b o,b≠vl→H' b=some o→(upd Hx pa (.lst ps)) b=some o:=λb o nb e=>by
      have h3:Hx b=some o:=by rw[h2 b nb];exact e
      rw[cn (eT h3 iz)];exact h3
     have zQ:aM H (upd Hx pa (.lst ps)):=λb o e=>keep b o (eT e DQ) (sm b o e);have tp:eC H' (upd Hx pa (.lst ps)):=λb o e k=>keep b o (λz=>by
      subst z;rw[ub]at e;cases e;rcases k with⟨_,z⟩|⟨_,_,z⟩<;>cases z) e
     have g1:(upd Hx pa (.lst ps)) pa=some (.lst ps):=aX;have g2:(upd Hx pa (.lst ps)) vl=some (.lst ef):=by rw[cn (eT h1 iz)];exact h1
     have g3:(upd Hx pa (.lst ps)) td=some (.dK aV):=keep _ _ zP zO;generalize upd Hx pa (.lst ps)=H2 at zQ tp g1 g2 g3;refine⟨rfl,zQ,_,rfl,_,rfl,_,rfl,zQ,TF pa H2 _ tp g1 λv H3 s3 TH=>?_⟩;have DC:ef.length≤900000:=by rw[bQ]at vG;lia
     refine⟨_,rfl,_,rfl,td,_,rfl,vY.k (k:=Sum.inl ((i:Nat):Int)) (s3 _ _ g3) (by lia),?_⟩;have DR:(upd H3 td (.dK (jb aV (Sum.inl ((i:Nat):Int)) v))) vl=some (.lst ef):=by rw[cn wt];exact s3 _ _ g2
     have J3:(upd H3 td (.dK (jb aV (Sum.inl ((i:Nat):Int)) v))) td=some (.dK (jb aV (Sum.inl ((i:Nat):Int)) v)):=aX;have J4:gp (jb aV (Sum.inl ((i:Nat):Int)) v) (Sum.inl ((i:Nat):Int))=some v:=by rw[RP,ae rfl]
     refine⟨_,rfl,.inl ⟨rfl,_,.of DR⟩,_,rfl,_,rfl,td,v,rfl,J4▸rp.k (k:=Sum.inl ((i:Nat):Int)) J3,vl,ef,_,rfl,rfl,DR,by lia,?_⟩;refine⟨((zQ.trans s3).put J2).put DQ,_,_,_,_,_,rfl,by rw[cn zP];exact J3,aX,?_,?_,λx' _=>⟨ef,v,rfl,by rw[e3];exact J4⟩⟩
     ·have:=C5 aV (Sum.inl ((i:Nat):Int)) v
      lia
     ·rw[e3];exact D.mono _ _ _ _ TH ((eC.SX (s3 _ _ g3)).trans (eC.lst DR))
   ·refine⟨_,rfl,_,rfl,aw,_,((i:Nat):Int),_,rfl,rfl,sm.bE D.zN,cH (j:=i) hx,?_⟩;refine⟨_,rfl,.int n,.type "int",true,rfl,.int n,IA K,true,rfl,i7 ?_⟩;refine⟨_,rfl,.inl ⟨rfl,_,.of ub⟩,_,rfl,vl,vs,_,rfl,rfl,ub,by lia,?_⟩;have zP:td≠vl:=Ne.symm wt;refine⟨sm.put DQ,_,_,_,aV,_,rfl,by rw[cn zP];exact zO,aX,Nat.le_succ_of_le hk,?_,λx' hU=>?_⟩
    ·rw[e3];exact D.mono _ _ _ _ (D.num i n vs H' hx hG) (eC.lst ub)
    ·rw[e3,hx]at hU;cases hU
  ·rintro σ H' ⟨sm,s4,s5,s6,aV,vs,rfl,zO,ub,hk,hG,hf⟩;obtain⟨x,hx⟩:=D.first;rw[Nat.sub_self]at hG hf;obtain⟨ef,v,rfl,hv⟩:=hf x hx;exact⟨_,rfl,D.fin td aV ef v H' sm zO hv hG⟩
end S21
namespace L2
open PySem PySem.Spec PyProof.Rows
theorem J5:∀{l:List (Str×Value)}{y:Str}{u:Value},(l.map (·.1)).Nodup→(y,u)∈l→l.lookup y=some u
 | [],_,_,_,h=>(by cases h)
 |(k,v)::r,y,u,nd,h=>by
  have J6:=List.nodup_cons.mp nd;rcases(dS.mp h)with(e|h)
  ·cases e;simp[List.lookup]
  ·have ne:y≠k:=λz=>J6.1 (dU.mpr ⟨(y,u),h,z⟩);have e0:(y==k)=false:=beq_eq_false_iff_ne.mpr ne;rw[qC,e0];exact J5 J6.2 h
theorem TJ{xs:List Str}{us:List Value}{i:Nat}{y:Str}{u:Value}(nd:xs.Nodup)(hl:us.length=xs.length)(h1:xs[i]?=some y)(h2:us[i]?=some u):(xs.zip us).reverse.lookup y=some u:=by
 have em:(xs.zip us).map (·.1)=xs:=by rw[List.map_fst_zip (by lia)]
 refine J5 ?_ (List.mem_reverse.mpr ?_)
 ·rw[List.map_reverse,em];exact List.pairwise_reverse.mpr (nd.imp λh=>Ne.symm h)
 ·exact gj (i:=i) (by rw[List.getElem?_zip_eq_some];exact⟨h1,h2⟩)
structure J7(xs names:List Str)(scope:Scope)(params:Arguments)(cl:List (Str×Addr)):Prop where
 kind:scope.kind=.function
 co:scope.isCoroutine=false
 gen:scope.isGenerator=false
 nd:xs.Nodup
 cell:∀y∈scope.names,y.2≠.cell
 loc:∀x∈xs,scope.names.lookup x=some .local
 fr:∀y∈names,scope.names.lookup y=some .free
 has:∀y,scope.names.lookup y=some .free→∃c,cl.lookup y=some c
 inj:∀y z c,cl.lookup y=some c→cl.lookup z=some c→y=z
 only:∀y c,cl.lookup y=some c→y∈names
section
variable{P:Program}{w:World}{K:Frag}{mg:Str→Option Value}{base:Heap}
theorem TK{xs names:List Str}{caps:List V}{qual:Str}{params:Arguments}{body:Expr}{scope:Scope}{cl:List (Str×Addr)}{k:Nat}{s:Shared}{H:Hp}{f:Addr}{R:List V→Hp→VK→Prop}(S:J7 xs names scope params cl)
  (F:Jm H f qual params body scope cl) (Di:∀(pm bV ct:Value)(us:List Value),us.length=xs.length→bindArgs (PySem.W.kla_fn "<lambda>" qual params body scope cl pm bV ct) ⟨us,[]⟩=pure (xs.zip us))
  (TL:∀(j:Nat)(y:Str),names[j]?=some y→∃c v u,cl.lookup y=some c∧caps[j]?=some v∧RelV v u∧s.heap.IsCell c (some u)∧H c=none) (cA:caps.length=names.length) (len:∀vs H' Q,R vs H' Q→vs.length=xs.length)
  (mK:∀(c:Addr)(A:Around)(outer:List Env)(s':Shared)(H':Hp)(vs:List V)(Q:VK),dt k (A.deeper (PySem.W.envX qual scope s'.heap.objs.size f (.ref c) cl))→aM H H'→R vs H' Q→
   ∃t,PE (Dh P w K mg base (xs++names) qual scope f c cl A outer s' H').jY body t∧t (vs.map some++caps.map some) H' Q):oh P w K mg base (k+1) s H f R:=by
 obtain⟨c,hf,hc⟩:=F;refine⟨.inl ⟨_,hf,λh ⟨pm,fG,e⟩=>⟨_,_,_,_,e⟩⟩,λA outer s' H' vs us Q hr e0 sm hk rv hQ=>?_⟩;obtain⟨⟨pm,fG,ho⟩,_⟩:=e0.bH f _ (sm _ _ hf);have TM:s'.heap.CodeRec (.ref c) qual:=(e0.bH c _ (sm _ _ hc)).1;have qY:s'.heap.NoLimit:=e0.mod.nolimit.keeps λb o e=>(e0.bs b o e).1;have hl:=len _ _ _ hQ;have J8:us.length=xs.length:=by rw[← rv.length];exact hl
 refine PySem.W.kla_callFunE hr.depth ho rfl S.co S.gen rfl TM ?_;rw[Di _ _ _ us J8];refine av (wpAny_newFunctionEnv S.cell (λz hz=>S.loc _ (vb hz).1) (λh₁ zd J9=>⟨qY.fresh _ J9,?_⟩) S.kind);show codeAny _ _ (.expr body (PySem.W.envX qual scope s'.heap.objs.size f (.ref c) cl)) _ _;have up:∀b o,s'.heap.get? b=some o→h₁.get? b=some o:=λb o e=>J9.extBut b o (gX (dG e)) (dH _ e);obtain⟨t,ht,hq⟩:=mK c A outer s' H' vs Q (hr.deeper _) sm hQ;have cells:∀(j:Nat)(y:Str),names[j]?=some y→∃c v u,cl.lookup y=some c∧caps[j]?=some v∧RelV v u∧h₁.IsCell c (some u)∧H' c=none:=λj y hj=>by
  obtain⟨c0,v,u,h1,h2,h3,⟨o,ho,hd⟩,h5⟩:=TL j y hj;obtain⟨h6,sl,h7⟩:=hk c0 o ho h5;exact⟨c0,v,u,h1,h2,h3,⟨_,up _ _ h7,hd⟩,h6⟩
 have Ka:∀y c,cl.lookup y=some c→∃v,h₁.IsCell c (some v)∧H' c=none:=λy c0 h=>by
  obtain⟨j,hj⟩:=List.getElem?_of_mem (S.only y c0 h);obtain⟨c1,v,u,h1,_,_,h4,h5⟩:=cells j y hj;rw[h]at h1;cases h1;exact⟨u,h4,h5⟩
 have I:Inv (Dh P w K mg base (xs++names) qual scope f c cl A outer s' H') [] (vs.map some++caps.map some) H' { s' with heap:=h₁,toks:=s'.toks+(xs.zip us).length }:=by
  have qX:∀b:Addr,b ∉ (Dh P w K mg base (xs++names) qual scope f c cl A outer s' H').ex:=λb z=>absurd (show b∈([]:List Addr) from z) (by simp)
  refine⟨⟨e0.mod,S.kind,rfl,rfl,ck _,λy z c h1 h2=>S.inj y z c h1 h2,λy hy=>?_,λy c h=>(nomatch h),λ_=>hr.hd,Around.frames_deeper e0.frames,.inr ⟨rfl,rfl⟩,λb z=>absurd z (qX b),e0.bs,e0.oW,λb _ _=>qX b,λb z=>absurd z (qX b),e0.lI,e0.qJ⟩,
   rfl,e0.bare,Un.kept up,⟨_,zd,λi y v h1 h2 h3=>?_⟩,λy c h=>?_,e0.bH.fresh (ck _),λy c h=>?_,λp hp=>absurd (show p∈([]:List (Addr×Obj)) from hp) (by simp),e0.bH.kept up,by show(vs.map some++caps.map some).length=(xs++names).length;simp[cA,hl]⟩
  ·rcases hy with hy|hy
   ·exact absurd rfl (S.cell _ (nM hy))
   ·exact S.has y hy
  ·have h1:(xs++names)[i]?=some y:=h1;by_cases hi:i<xs.length
   ·rw[gz hi]at h1;rw[gz (by simp only[bz];lia),eI]at h2;cases ev:vs[i]? with
    |none=>rw[ev]at h2;cases h2
    |some v'=>
     rw[ev]at h2;cases h2;obtain⟨u,hu,ru⟩:=rv.get ev;exact⟨u,ru,.inl ⟨S.loc y (gj h1),TJ S.nd J8 h1 hu⟩⟩
   ·rw[gZ (by lia)]at h1;rw[gZ (by simp only[bz];lia),bz,hl,eI]at h2;obtain⟨c1,v',u,g1,g2,g3,g4,_⟩:=cells _ y h1;rw[g2]at h2;cases h2;exact⟨u,g3,.inr ⟨.inr (S.fr y (gj h1)),c1,g1,g4⟩⟩
  ·obtain⟨v,h4,_⟩:=Ka y c h;exact⟨_,h4⟩
  ·obtain⟨v,_,h5⟩:=Ka y c h;exact h5
 refine PySem.W.kla_codeExpr (ai (ht.jY [] _ _ H' Q I hq) (λu kG hs=>?_) λe kG z=>ai z (λ_ _ z=>False.elim z) λ_ _ z=>False.elim z);obtain⟨v,iO,J,rv,q⟩:=hs;exact⟨v,iO,J.os,J.bare,J.base,J.bH,rv,q⟩
end
end L2
namespace S21
open PySem L2 Bw
variable{aB aS f:Addr}{fd:FuncData}
noncomputable def wu:List Value→List Int→Bool
 | [],[]=>true
 | .int i _::vs,n::ns=>i==n&&wu vs ns
 |_,_=>false
theorem DT:∀(vs:List Value)(ns:List Int),wu vs ns=true→Vals (ns.map V.int) vs
 | [],[],_=>.nil
 | .int i t::vs,n::ns,h=>by
  have h':(i==n&&wu vs ns)=true:=h;rw[gP]at h';have e:i=n:=beq_iff_eq.mp h'.1;exact .cons ⟨t,by rw[e]⟩ (DT vs ns h'.2)
 | [],_::_,h=>nomatch h
 | .none::_,[],h=>nomatch h
 |v::vs,[],h=>by cases v<;>exact nomatch h
 |v::vs,n::ns,h=>by
  cases v with
  |int i t=>
   have h':(i==n&&wu vs ns)=true:=h;rw[gP]at h';have e:i=n:=beq_iff_eq.mp h'.1;exact .cons ⟨t,by rw[e]⟩ (DT vs ns h'.2)
  |_=>exact nomatch h
noncomputable def uc(K:Frag)(t:Addr)(ns:List Int):Bool:=match K.lookup t with
 |some ⟨.type "tuple",_,.seq its _,_⟩=>decide (its.size≤1000)&&wu its.toList ns
 |_=>false
theorem DU{K:Frag}{t:Addr}{ns:List Int}(h:uc K t ns=true)(H:Hp):aZ K H t (ns.map V.int):=by
 unfold uc at h;split at h
 case h_2=>exact nomatch h
 case h_1 d its n sl ho=>
  rw[gP]at h;exact .inr ⟨_,its,n,ho,rfl,rfl,ft (aH h.1) (by decide),DT _ _ h.2⟩
noncomputable def zR(K:Frag):List Value→LL→Bool
 | [],[]=>true
 | .ref t::vs,r::rs=>uc K t r&&zR K vs rs
 |_,_=>false
theorem Kb{K:Frag}(H:Hp):∀(vs:List Value)(rs:LL),zR K vs rs=true→∃RS,Vals RS vs∧bG K H RS (rs.map cG)
 | [],[],_=>⟨[],.nil,.nil⟩
 | [],_::_,h=>nomatch h
 |v::vs,[],h=>by cases v<;>exact nomatch h
 |v::vs,r::rs,h=>by
  cases v with
  |ref t=>
   have h':(uc K t r&&zR K vs rs)=true:=h;rw[gP]at h';obtain⟨RS,h1,h2⟩:=Kb H vs rs h'.2;exact⟨.ref t::RS,.cons rfl h1,.cons (jE (DU h'.1 H)) h2⟩
  |_=>exact nomatch h
noncomputable def DV(K:Frag)(t:Addr)(rs:LL):Bool:=match K.lookup t with
 |some ⟨.type "tuple",_,.seq its _,_⟩=>decide (its.size≤1000)&&zR K its.toList rs
 |_=>false
theorem TN{K:Frag}{t:Addr}{rs:LL}(h:DV K t rs=true)(H:Hp):∃RS,aZ K H t RS∧bG K H RS (rs.map cG):=by
 unfold DV at h;split at h
 case h_2=>exact nomatch h
 case h_1 d its n sl ho=>
  rw[gP]at h;obtain⟨RS,h1,h2⟩:=Kb H _ _ h.2;exact⟨RS,.inr ⟨_,its,n,ho,rfl,rfl,ft (aH h.1) (by decide),h1⟩,h2⟩
noncomputable def fV:List (Str×Nat×Nat×LL):=[("id",1,1,[[1,1]]),("swap",2,2,[[1,0,0,1],[0,1,1,0]]),("copy",1,2,[[1,1,1]]),("end",1,0,[[1]]),("add",2,1,[[1,0,1],[0,1,1]]),("none",0,1,[]),("cup",0,2,[[1,1]]),("empty",0,0,[])]
noncomputable def wx(K:Frag)(aS aB:Addr):Bool:=zg K aS&&zg K aB&&fV.all λe=>
 (match PyProof.Rows.KTD.datumAt e.1 (ib K aS)with|some (.ref t)=>uc K t [(e.2.1:Int),(e.2.2.1:Int)] | _=>false) &&
 (match PyProof.Rows.KTD.datumAt e.1 (ib K aB)with|some (.ref t)=>DV K t e.2.2.2|_=>false)
structure lY(K:Frag)(mg:Str→Option Value)(aS aB:Addr):Prop where
 DW:mg "SIDES"=some (.ref aS)
 TQ:mg "BOX_ROWS"=some (.ref aB)
 ok:wx K aS aB=true
theorem lY.tabS{K:Frag}{mg:Str→Option Value}(B:lY K mg aS aB):∀h,K.In h→ju h aS (ib K aS):=λh X=>by
 have z:=B.ok;unfold wx at z;rw[gP,gP]at z;exact Dk X z.1.1
theorem lY.TU{K:Frag}{mg:Str→Option Value}(B:lY K mg aS aB):∀h,K.In h→ju h aB (ib K aB):=λh X=>by
 have z:=B.ok;unfold wx at z;rw[gP,gP]at z;exact Dk X z.1.2
theorem lY.at_{K:Frag}{mg:Str→Option Value}(B:lY K mg aS aB){x:Str}{l r:Nat}{aQ:LL}(h:(x,l,r,aQ)∈fV) :
  (∃t,PyProof.Rows.KTD.datumAt x (ib K aS)=some (.ref t)∧∀H,aZ K H t [.int (l:Int),.int (r:Int)])∧∃t,PyProof.Rows.KTD.datumAt x (ib K aB)=some (.ref t)∧∀H,∃RS,aZ K H t RS∧bG K H RS (aQ.map cG):=by
 have z:=B.ok;unfold wx at z;rw[gP]at z;have z2:=qE.mp z.2 _ h;rw[gP]at z2;obtain⟨z3,z4⟩:=z2;constructor
 ·split at z3
  ·rename_i t e
   exact⟨t,e,λH=>DU z3 H⟩
  ·exact nomatch z3
 ·split at z4
  ·rename_i t e
   exact⟨t,e,λH=>TN z4 H⟩
  ·exact nomatch z4
def DX(K:Frag):Sp:=λvs H Q _=>∃(i:Int)(x:Str)(pa:Addr)(l r:Nat)(aQ:LL),vs=[.int i,.str x,.ref pa]∧(x,l,r,aQ)∈fV∧jD K H [.int (l:Int),.int (r:Int),.cI] Q
theorem TV:c8 ["place","word","parts","unmet"] ["place","word","parts"] (bx zo):=dJ rfl rfl rfl (by decide +kernel) rfl
theorem TX(F:cC K "measure" "measure" zo f fd)(B:lY K mg aS aB):bu P w K mg base br 1 f fd ["place","word","parts"] (DX K):=by
 refine F.ok TV (λvs H Q E h=>?_) (λbV A outer s H vs Q E hr h=>?_)
 ·obtain⟨i,x,pa,l,r,aQ,rfl,_⟩:=h;rfl
 ·obtain⟨i,x,pa,l,r,aQ,rfl,hx,q⟩:=h;obtain⟨⟨t,e,ht⟩,_⟩:=B.at_ hx;refine⟨_,bh (dX (Gf (JE B.tabS (pv 1) (sT (v:=.ref _) rfl B.DW rfl)) rfl) (bK (cQ (aY (dY K rfl) (JC B.tabS (sT (v:=.ref _) rfl B.DW rfl) (pv 1) (λ_ _=>rfl)) (cB (aL Oh aR))))) fg) Ow,?_⟩;refine⟨_,rfl,x,rfl,rfl,_,rfl,?_⟩;rw[e];refine i7 ⟨_,rfl,x,_,rfl,rfl,e,(by show 1≤sizeLine;decide),λt1 g1=>?_⟩;exact⟨t,t1,_,_,rfl,rfl,ht _,.of aX,(by show 2+1≤sizeLine;decide),λa' H' s' h'=>q a' H' ((aM.upd g1).trans s') h'⟩
theorem oh.on{X:Cx}{aI:List (Addr×Obj)}{σ:St}{H1:Hp}{s1:Shared}{k:Nat}{R:List V→Hp→VK→Prop}(I:Inv X aI σ H1 s1)(hex:X.ex=[])(sm:aM X.H₀ H1)(L:oh P w K mg base k X.s₀ X.H₀ f R):oh P w K mg base k s1 H1 f R:=by
 refine⟨?_,λA outer s' H' vs us Q hr e0 iy hk rv hQ=>L.run A outer s' H' vs us Q hr e0 (sm.trans iy) (λc o hc hn=>?_) rv hQ⟩
 ·rcases L.here with⟨φ,h1,h2⟩|h
  ·exact .inl ⟨φ,sm _ _ h1,h2⟩
  ·exact .inr h
 ·have v8:c ∉ X.ex:=by rw[hex];simp
  obtain⟨sl,h3⟩:=I.base.any hc hn v8;obtain⟨h4,BN,h5⟩:=hk c _ h3 (I.base.free c o hc hn v8);exact⟨h4,BN,h5⟩
theorem t9.on{k:Nat}{X:Cx}{aI:List (Addr×Obj)}{σ:St}{H1:Hp}{s1:Shared}{Q Q1:VK}{aw f:Addr}{ws:List V}{R:List V→Hp→VK→Prop}{G:Nat→List V→Hp→Prop}(I:Inv X aI σ H1 s1)(hex:X.ex=[])(sm:aM X.H₀ H1)
  (D:t9 k P w K mg base X.s₀ X.H₀ Q aw f ws R G) (q:∀u H',aM H1 H'→Q u H'→Q1 u H'):t9 k P w K mg base s1 H1 Q1 aw f ws R G:=
 ⟨sm.bE D.zN,D.len,oh.on I hex sm D.fn,D.mono _ _ _ _ D.g0 sm.tup,D.mono,D.og,D.kind,D.num,D.word,D.first,λtd aV vs v H' s' h1 h2 h3=>q _ _ s' (D.fin td aV vs v H' (sm.trans s') h1 h2 h3)⟩
def TY(Q:VK):VK:=λu H'=>∃td aV v,u=.ref td∧H' td=some (.dK aV)∧gp aV (Sum.inl 0)=some v∧Q v H'
def DY(k:Nat)(P:Program)(w:World)(K:Frag)(mg:Str→Option Value)(base:Heap)(s:Shared):Sp:=λvs H Q _=>∃(aw f:Addr)(ws:List V)(R:List V→Hp→VK→Prop)(G:Nat→List V→Hp→Prop),vs=[.ref aw,.ref f]∧t9 k P w K mg base s H (TY Q) aw f ws R G
theorem TZ:c8 ["words","made"] ["words","made"] (bx Dn):=dJ rfl rfl rfl (by decide +kernel) rfl
theorem Kc{k:Nat}{fA:Addr}{kZ:FuncData}(F:cC K "folded" "folded" Dn f fd)
  (GA:rq P w K mg base (k+1) fA kZ ["words","made"] (J0 k P w K mg base)) (kA:Kp K fA) (bA:Binds K kZ ["words","made"] []) (mA:Mg mg "all_folded" fA):rq P w K mg base (k+2) f fd ["words","made"] (DY k P w K mg base):=by
 refine F.Jw TZ (λs vs H Q E h=>?_) (λbV A outer s H vs Q E hr h=>?_)
 ·obtain⟨aw,f,ws,R,G,rfl,_⟩:=h;rfl
 ·obtain⟨aw,fm,ws,R,G,rfl,D⟩:=h;refine⟨_,bK (cQ (Jl (Ho hr) (Dg GA hr rfl mA kA bA (aL (pv 0) (aL (pv 1) aR))) aU (λ_ _=>rfl))),?_⟩;refine⟨_,rfl,_,rfl,λaI s1 I=>⟨aw,fm,ws,R,G,rfl,t9.on I rfl (.refl _) D λu H' _ ⟨td,aV,v,e,h1,h2,h3⟩=>?_⟩⟩;exact⟨td,v,e,h2▸rp.k (k:=Sum.inl 0) h1,h3⟩
def Kd(K:Frag):Sp:=λvs H Q _=>∃(aw:Addr)(x:Str)(l r:Nat)(aQ:LL),vs=[.ref aw]∧aZ K H aw [.str x]∧(x,l,r,aQ)∈fV∧∀v H',aM H H'→aZ K H' v [.int (l:Int),.int (r:Int),.cI]→Q (.ref v) H'
theorem Ke:∀e∈fV,kf e.1=0:=by decide +kernel
theorem T1:c8 ["words"] ["words"] (bx Dp):=dJ rfl rfl rfl (by decide +kernel) rfl
theorem T2{fF fM:Addr}{wy pE:FuncData}(F:cC K "measured" "measured" Dp f fd)
  (GF:rq P w K mg base 3 fF wy ["words","made"] (DY 1 P w K mg base)) (kF:Kp K fF) (bF:Binds K wy ["words","made"] []) (mF:Mg mg "folded" fF)
  (GM:bu P w K mg base br 1 fM pE ["place","word","parts"] (DX K)) (FM:cC K "measure" "measure" zo fM pE) (bM:Binds K pE ["place","word","parts"] []) (mM:Mg mg "measure" fM):bu P w K mg base br 4 f fd ["words"] (Kd K):=by
 refine F.ok T1 (λvs H Q E h=>?_) (λbV A outer s H vs Q E hr h=>?_)
 ·obtain⟨aw,x,l,r,aQ,rfl,_⟩:=h;rfl
 ·obtain⟨aw,x,l,r,aQ,rfl,hw,hx,q⟩:=h;refine⟨_,bK (cQ (Dg GF hr rfl mF kF bF (aL (pv 0) (aL (sT (v:=.ref _) rfl mM rfl) aR)))),?_⟩;refine⟨_,rfl,λaI s1 I=>⟨aw,fM,[.str x],λvs H' Q=>DX K vs H' Q E0,λi vs H'=>(i=1∧vs=[])∨(i=0∧∃v,vs=[.ref v]∧aZ K H' v [.int (l:Int),.int (r:Int),.cI]),rfl,?_⟩⟩;refine⟨hw,by simp,oh.SY GM FM bM,.inl ⟨rfl,rfl⟩,λi vs H1 H2 h tp=>?_,λi vs H1 h=>?_,λi hi=>?_,λi n vs H1 h=>?_,λi y vs H1 h g=>?_,⟨x,rfl⟩,λtd aV vs v H' s' h1 h2 h3=>?_⟩
  ·rcases h with h|⟨h1,v,h2,h3⟩
   ·exact .inl h
   ·exact .inr ⟨h1,v,h2,tp.bE h3⟩
  ·rcases h with⟨_,h⟩|⟨_,v,h,_⟩<;>(rw[h];simp)
  ·have:i=0:=by simpa using hi
   subst this;exact .inl ⟨x,rfl⟩
  ·match i,h with
   |0,h=>cases h
   |_+1,h=>cases h
  ·match i,h with
   |0,h=>
    cases h;rcases g with⟨_,g⟩|⟨g,_⟩
    ·refine⟨[],[],by rw[g];rfl,(Ke _ hx).symm,λpa H2 Q' tp hp hq=>⟨_,x,pa,l,r,aQ,rfl,hx,λv H3 s3 hv=>hq (.ref v) H3 s3 (.inr ⟨rfl,v,rfl,hv⟩)⟩⟩
    ·exact absurd g (by decide)
   |_+1,h=>cases h
  ·rcases h3 with⟨z,_⟩|⟨_,v',z,hv⟩
   ·exact absurd z (by decide)
   ·have e:vs=[]∧v=.ref v':=by
     cases vs with
     |nil=>exact⟨rfl,by simpa using z⟩
     |cons a vs=>simp at z
    obtain⟨rfl,rfl⟩:=e;exact⟨td,aV,_,rfl,h1,h2,q v' H' s' hv⟩
def DZ(K:Frag):Sp:=λvs H Q _=>∃(aw:Addr)(x:Str)(l r:Nat)(aQ:LL),vs=[.ref aw]∧aZ K H aw [.str x]∧(x,l,r,aQ)∈fV∧∀v H',aM H H'→aZ K H' v [.int (l:Int),.int (r:Int)]→Q (.ref v) H'
theorem T3:c8 ["words"] ["words"] (bx Dm):=dJ rfl rfl rfl (by decide +kernel) rfl
theorem T4{fM:Addr}{pE:FuncData}(F:cC K "wires" "wires" Dm f fd)
  (GM:bu P w K mg base br 4 fM pE ["words"] (Kd K)) (kM:Kp K fM) (bM:Binds K pE ["words"] []) (mM:Mg mg "measured" fM):bu P w K mg base br 5 f fd ["words"] (DZ K):=by
 refine F.ok T3 (λvs H Q E h=>?_) (λbV A outer s H vs Q E hr h=>?_)
 ·obtain⟨aw,x,l,r,aQ,rfl,_⟩:=h;rfl
 ·obtain⟨aw,x,l,r,aQ,rfl,hw,hx,q⟩:=h;refine⟨_,bK (cQ (eN (fN K rfl) (cT GM hr rfl mM kM bM .nil cU (aL (pv 0) aR)) gn (dP aU))),?_⟩;refine⟨_,rfl,aw,x,l,r,aQ,rfl,hw,hx,λv H1 s1 hv=>?_⟩;exact⟨_,rfl,v,_,rfl,hv,λt H2 s2 ht=>q t H2 (s1.trans s2) ht⟩
def di(K:Frag)(H:Hp)(a:Addr)(l r:Nat)(aQ:LL):Prop:=∃(t:Addr)(RS:List V),aZ K H a [.int (l:Int),.int (r:Int),.ref t]∧aZ K H t RS∧bG K H RS (aQ.map cG)
theorem bG.Kf{K:Frag}{H H':Hp}(s:eC H H'):∀{RS:List V}{aQ:LL},bG K H RS (aQ.map cG)→bG K H' RS (aQ.map cG)
 | [],[],_=>.nil
 |_::_,[],h=>nomatch h
 | [],_::_,h=>nomatch h
 |v::RS,r::aQ,.cons h q=>by
  refine .cons ?_ (bG.Kf s q);have h:fj K H v (.tuple (r.map .int)):=h;cases h with
  |tuple h1 h2=>
   have e:=bG.CQ h2;subst e;exact jE (s.bE h1)
theorem di.tup{K:Frag}{H H':Hp}{a:Addr}{l r:Nat}{aQ:LL}(h:di K H a l r aQ)(s:eC H H'):di K H' a l r aQ:=by
 obtain⟨t,RS,h1,h2,h3⟩:=h;exact⟨t,RS,s.bE h1,s.bE h2,bG.Kf s h3⟩
noncomputable def iP(l r:Nat)(row:List Int):List Int:=(row.drop l).take r++(row.take l++row.drop (l+r))
theorem pF{r:List Int}{k:Nat}(h:k≤r.length):ir (r.map V.int) none (some (k:Int))=(r.take k).map V.int:=by
 unfold ir;rw[HT.sZ,HT.yh,List.drop_zero,Nat.sub_zero,bz,vf h,List.map_take]
theorem oo{r:List Int}{k:Nat}(h:k≤r.length):ir (r.map V.int) (some (k:Int)) none=(r.drop k).map V.int:=by
 unfold ir;rw[HT.sZ,HT.yh,bz,vf h,nQ (by simp),List.map_drop]
theorem wz{r:List Int}{j k:Nat}(h:j+k≤r.length):ir (r.map V.int) (some (j:Int)) (some ((j+k:Nat):Int))=((r.drop j).take k).map V.int:=by
 unfold ir;rw[HT.sZ,HT.sZ,bz,vf h,vf (by lia),List.map_take,List.map_drop,Nat.add_sub_cancel_left]
theorem T5{l r x:Nat}{row:List Int}(h:row.length=l+r+x):(iP l r row).length=r+l+x:=by
 unfold iP;simp only[bQ,cV,eJ];lia
theorem D0{p:Int}{l r x:Nat}{row:List Int}(h:Rw p (l+r+x) row):Rw p (r+l+x) (iP l r row):=by
 refine⟨T5 h.1,λx hx=>h.2 x ?_⟩;unfold iP at hx;rcases(dZ.mp hx)with z|z
 ·exact lE (jU z)
 ·rcases(dZ.mp z)with z|z
  ·exact jU z
  ·exact lE z
theorem T6:(["row","behind","left"]:List Str).Nodup:=by decide +kernel
def D3(K:Frag):Sp:=λvs H Q _=>∃(p:Int)(a:Addr)(l r x:Nat)(aQ:LL),vs=[.int p,.ref a]∧p∈c7∧di K H a l r aQ∧l≤100∧r≤100∧x≤200∧aQ.length≤500∧cj p (l+r+x) aQ∧∀v H',aM H H'→di K H' v r l (dw p (aQ.map (iP l r)))→Q (.ref v) H'
noncomputable abbrev T7:List Str:=["p","one","left","behind"]
theorem D4:c8 ["p","one","left","behind"] ["p","one"] (bx zp):=dJ rfl rfl rfl (by decide +kernel) rfl
theorem T8{fD:Addr}{fH:FuncData}(F:cC K "form_of_back" "form_of_back" zp f fd)
  (GD:bu P w K mg base br 3 fD fH ["p","rows"] (pA K)) (kD:Kp K fD) (bD:Binds K fH ["p","rows"] []) (mD:Mg mg "reduced" fD):bu P w K mg base br 4 f fd ["p","one"] (D3 K):=by
 refine F.ok D4 (λvs H Q E h=>?_) (λbV A outer s H vs Q E hr h=>?_)
 ·obtain⟨p,a,l,r,x,aQ,rfl,_⟩:=h;rfl
 ·obtain⟨p,a,l,r,x,aQ,rfl,pp,⟨t,RS,h1,h2,h3⟩,hl,jw,aaf,hz,hR,q⟩:=h;have nk:(1000:Nat)≤sizeLine:=by decide
  refine⟨_,bh (bY (i:=2) D4.nd rfl (Or.inr rfl) (cf (cJ K rfl) (pv 1) aU (λ_ _=>rfl))) (bh (bY (i:=3) D4.nd rfl (Or.inr rfl) (aY fh (pv 2) (cf (cJ K rfl) (pv 1) aU (λ_ _=>rfl)))) (bK (cQ (cB (aL (cf (cJ K rfl) (pv 1) aU (λ_ _=>rfl)) (aL (pv 2) (aL (cT GD hr rfl mD kD bD .nil cU (aL (pv 0) (aL (i9 (N:=["row","behind","left"]) (own:=1) (caps:=[3,2]) rfl (lQ K rfl (cf (cJ K rfl) (pv 1) aU (λ_ _=>rfl))) (show du T7 (bx zp) ["row","behind","left"] 1 [3,2] _ from .mk' (by decide +kernel)) (λ_ _ _ _ _=>cq (i:=0) T6 rfl (.inl rfl)) (λ_ _ _ _ _=>gG) (λ_ _ _ _ _=>aY (dY K rfl) (aY (dY K rfl) (eN (fN K rfl) (pv 0) (dP (pv 2)) (dP (pv 1))) (eN (fN K rfl) (pv 0) gn (dP (pv 2)))) (eN (fN K rfl) (pv 0) (dP (pv 1)) gn))) aR))) aR))))))),?_⟩
  have zF:=fQ h3;refine⟨_,rfl,a,_,0,_,rfl,rfl,h1,cH (j:=0) rfl,?_⟩;refine⟨_,rfl,_,rfl,a,_,1,_,rfl,rfl,h1,cH (j:=1) rfl,_,_,rfl,rfl,?_⟩;refine⟨_,rfl,a,_,1,_,rfl,rfl,h1,cH (j:=1) rfl,_,rfl,_,rfl,_,rfl,a,_,2,_,rfl,rfl,h1,cH (j:=2) rfl,t,rfl,⟨_,h2⟩,?_⟩;refine vQ (xs:=RS) (cp:=[some (.int ((l:Int)+(r:Int))),some (.int (l:Int))]) (λi H' zs=>bG K H' zs (((aQ.map (iP l r)).take i).map cG)) h2 (by lia) .nil (λi H' zs h=>by rw[fQ h,cV];exact Nat.min_le_left _ _) ?_ ?_
  ·rintro i v H2 zs hv sm h;obtain⟨Kg,ra,lZ,rfl,dy⟩:=om h3 hv;have cA:=(hR Kg (gj lZ)).1;have T9:(l:Int)+(r:Int)=((l+r:Nat):Int):=by lia
   rw[T9];refine kN ⟨_,rfl,_,rfl,_,rfl,_,rfl,_,rfl,ra,_,rfl,sm.bE dy,λt1 H3 s3 oq=>?_⟩;rw[wz (by lia)]at oq;refine⟨_,rfl,_,rfl,_,rfl,ra,_,rfl,(sm.trans s3).bE dy,λt2 H4 s4 fI=>?_⟩;rw[pF (by lia)]at fI;refine⟨t1,t2,_,_,rfl,rfl,s4.bE oq,fI,by simp only[bz,cV,eJ];lia,λt3 H5 s5 ud=>?_⟩;have ue:=s3.trans (s4.trans s5);refine⟨_,rfl,_,rfl,_,rfl,ra,_,rfl,(sm.trans ue).bE dy,λt4 H6 s6 uf=>?_⟩;rw[oo (by lia)]at uf;refine⟨t3,t4,_,_,rfl,rfl,s6.bE ud,uf,by simp only[bz,bQ,cV,eJ];lia,λt5 H7 s7 Kh=>?_⟩;have wA:=ue.trans (s6.trans s7);refine⟨⟨[_],rfl,rfl⟩,sm.trans wA,?_⟩;rw[← cW,← cW,dq]at Kh;have e:(aQ.map (iP l r))[i]?=some (iP l r Kg):=by rw[eI,lZ];rfl
   rw[gq,e];show bG K H7 _ (((aQ.map (iP l r)).take i++[_]).map cG);rw[cW];exact(h.mono wA).append (.cons (jE Kh) .nil)
  rintro H1 ZS sm hZ lz l5;rw[nQ (by rw[bz];lia)]at hZ;have s1:aM H (upd H1 lz (.lst ZS)):=sm.trans (.upd l5);refine⟨p,lz,true,ZS,aQ.map (iP l r),r+l+x,rfl,pp,.of aX,hZ.mono (.upd l5),by rw[bz];lia,by lia,λx hx=>?_,λt2 H2 DS s2 fI wB=>?_⟩
  ·obtain⟨y,hy,rfl⟩:=dU.mp hx;exact D0 (hR y hy)
  ·refine⟨(by show 3≤sizeLine;lia),λv hv=>q v _ (s1.trans (s2.trans (.upd hv))) ⟨t2,DS,.of aX,(aM.upd hv).bE fI,wB.mono (.upd hv)⟩⟩
theorem Ua:∀e∈fV,e.1 ≠ "back"∧e.1 ≠ "beside"∧e.1 ≠ "then"∧e.1 ≠ "times":=by decide +kernel
theorem kg{x y:Str}{A B:Prop}(h:x≠y)(b:B):if decide (V.str x=V.str y)=true then A else B:=by
 rw[aa (λz=>h (V.str.inj z))];exact eP b
theorem pG{x:V}{A B:Prop}(a:A):if decide (x=x)=true then A else B:=by
 rw[aE rfl];exact i7 a
theorem nq{ts es:List Expr}{k:Nat}{pos:Pos}{env:Env}:starEach (.Tuple ts k pos::es) env=(false,eval (.Tuple ts k pos) env)::starEach es env:=by rfl
theorem ug{c:Const}{k:Nat}{es:List Expr}{pos:Pos}{env:Env}:starEach (.Constant c k pos::es) env=(false,eval (.Constant c k pos) env)::starEach es env:=by rfl
theorem Ub:("times":Str) ≠ "back":=by decide +kernel
theorem Uc:("times":Str) ≠ "beside":=by decide +kernel
theorem Ud:("times":Str) ≠ "then":=by decide +kernel
inductive zS(K:Frag)(p:Int)(x:Str)(ps:List V)(H:Hp)(Q:VK):Prop where
 |back (a:Addr) (l r e:Nat) (aQ:LL) (hx:x="back") (hp:ps=[.ref a]) (hf:di K H a l r aQ) (hl:l≤100) (hr:r≤100) (he:e≤200) (hz:aQ.length≤500) (hR:cj p (l+r+e) aQ) (q:∀v H',aM H H'→di K H' v r l (dw p (aQ.map (iP l r)))→Q (.ref v) H'):zS K p x ps H Q
 |times (n:Int) (hx:x="times") (hp:ps=[.int n]) (q:∀v H',aM H H'→di K H' v 1 1 [[1,n]]→Q (.ref v) H'):zS K p x ps H Q
 |box (l r:Nat) (aQ:LL) (hx:(x,l,r,aQ)∈fV) (q:∀v H',aM H H'→di K H' v l r aQ→Q (.ref v) H'):zS K p x ps H Q
theorem Ue:c8 ["p","word","parts"] ["p","word","parts"] (bx Dq):=dJ rfl rfl rfl (by decide +kernel) rfl
noncomputable def del(Pt:Addr)(H:Hp):Hp:=λb=>if b=Pt then none else H b
section
variable{K:Frag}{H H':Hp}{Pt a b:Addr}{ps:Array Value}{xs:List V}{o:HO}
theorem uh(h:b≠Pt):del Pt H b=H b:=ah h
theorem rH(e:del Pt H b=some o):b≠Pt∧H b=some o:=by
 by_cases hb:b=Pt
 ·rw[del,ae hb]at e;cases e
 ·exact⟨hb,(uh hb).symm.trans e⟩
theorem y9.same(h:y9 Pt H H'):aM (del Pt H) H':=λb o e=>h b o (rH e).2 (rH e).1
theorem aM.del(h:aM H H'):aM (del Pt H) (del Pt H'):=λb o e=>by rw[uh (rH e).1];exact h b o (rH e).2
theorem Ug(hP:H Pt=some (.eK ps))(e:H b=some o)(hn:∀ps,o≠.eK ps):b≠Pt:=λz=>by
 rw[z,hP]at e;exact hn _ (dj e).symm
theorem pH(hP:H Pt=some (.eK ps))(e:H b=some o)(hn:∀ps,o≠.eK ps):del Pt H b=some o:=by rw[uh (Ug hP e hn)];exact e
theorem aZ.del(hP:H Pt=some (.eK ps))(h:aZ K H a xs):aZ K (del Pt H) a xs:=by
 rcases h with(h|⟨o,h⟩)|h
 ·exact .inl (.inl (pH hP h λ_ z=>nomatch z))
 ·exact .inl (.inr ⟨o,pH hP h λ_ z=>nomatch z⟩)
 ·exact .inr h
theorem cM.del(hP:H Pt=some (.eK ps))(h:cM K H a xs):cM K (del Pt H) a xs:=by
 rcases h with(h|⟨o,h⟩)|h
 ·exact .inl (.inl (pH hP h λ_ z=>nomatch z))
 ·exact .inl (.inr ⟨o,pH hP h λ_ z=>nomatch z⟩)
 ·exact .inr h
mutual
theorem fj.del(hP:H Pt=some (.eK ps)):∀{v:V}{d:Dat},fj K H v d→fj K (S21.del Pt H) v d
 |_,_,.none=>.none
 |_,_,.bool b=>.bool b
 |_,_,.int i=>.int i
 |_,_,.str x=>.str x
 |_,_,.tuple h r=>.tuple (aZ.del hP h) (bG.del hP r)
 |_,_,.list h r=>.list (cM.del hP h) (bG.del hP r)
theorem bG.del(hP:H Pt=some (.eK ps)):∀{vs:List V}{ds:List Dat},bG K H vs ds→bG K (S21.del Pt H) vs ds
 |_,_,.nil=>.nil
 |_,_,.cons h r=>.cons (fj.del hP h) (bG.del hP r)
end
end
theorem _root_.L2.lT.tab{H:Hp}{Pt:Addr}{pos:Pos}{qual:Str}(h:lT H Pt pos qual):∃ps,H Pt=some (.eK ps):=by
 rcases h with h|⟨c,h,_⟩
 ·exact⟨_,h⟩
 ·exact⟨_,h⟩
theorem _root_.L2.lT.mono{H H':Hp}{Pt:Addr}{pos:Pos}{qual:Str}(h:lT H Pt pos qual)(e:aM H H'):lT H' Pt pos qual:=by
 rcases h with h|⟨c,h,h2⟩
 ·exact .inl (e _ _ h)
 ·exact .inr ⟨c,e _ _ h,e _ _ h2⟩
noncomputable def wC(e:Expr):Pos:=match e with
 | .Lambda _ _ _ q=>q
 |_=>⟨0,0,0,0⟩
noncomputable def Uh(e:Expr):Arguments:=match e with
 | .Lambda a _ _ _=>a
 |_=>{ posonlyargs:=[],args:=[],vararg:=none,kwonlyargs:=[],kw_defaults:=[],kwarg:=none,defaults:=[] }
noncomputable def zT(e:Expr):Scope:=match e with
 | .Lambda _ _ s _=>s
 |_=>{ kind:=.function,names:=[],isGenerator:=false,isCoroutine:=false }
theorem Ui:kf "back"=1:=by decide +kernel
theorem Uj:kf "times"=1:=by decide +kernel
def qe(te:TE)(σ:St)(H:Hp)(k:Int):Prop:=∀H',aM H H'→∀R:VK,R (.int k) H'→te σ H' R
def jK(K:Frag)(te:TE)(σ:St)(H:Hp)(ns:List Int):Prop:=∀H',aM H H'→∀R:VK,(∀v iO,aM H' iO→aZ K iO v (ns.map V.int)→R (.ref v) iO)→te σ H' R
def zU(to:TO)(σ:St)(H:Hp)(k:Option Int):Prop:=∀H',aM H H'→∀R:Option Int→Hp→Prop,R k H'→to σ H' R
section
variable{K:Frag}{σ:St}{H:Hp}
theorem gJ{i:Nat}{k:Int}(h:σ[i]?=some (some (.int k))):qe (aO i) σ H k:=λ_ _ _ q=>⟨_,h,q⟩
theorem gK{i:Nat}{a:Addr}{xs:List V}{j:Nat}{k:Int}(h:σ[i]?=some (some (.ref a)))(ha:aZ K H a xs)(hj:xs[j]?=some (.int k)):qe (bI (kH K) (aO i) (tC (.int (j:Int)))) σ H k:=
 λ_ s _ q=>⟨_,h,a,xs,(j:Int),_,rfl,rfl,s.bE ha,cH hj,q⟩
theorem ui{ta tb:TE}{i j:Int}(h1:qe ta σ H i)(h2:qe tb σ H j):qe (bI (gB λi j=>.int (i+j)) ta tb) σ H (i+j):=λH' s _ q=>h1 H' s _ (h2 H' s _ ⟨i,j,rfl,rfl,q⟩)
theorem jc{i:Nat}{a:Addr}{ns:List Int}(h:σ[i]?=some (some (.ref a)))(ha:aZ K H a (ns.map V.int)):jK K (aO i) σ H ns:=λ_ s _ q=>⟨_,h,q a _ (.refl _) (s.bE ha)⟩
theorem l6:zU iq σ H none:=λ_ _ _ q=>q
theorem ie{te:TE}{k:Int}(h:qe te σ H k):zU (fi te) σ H (some k):=λH' s _ q=>h H' s _ ⟨k,rfl,q⟩
theorem jx{ta tb:TE}{ns ms:List Int}(h1:jK K ta σ H ns)(h2:jK K tb σ H ms)(hl:ns.length+ms.length≤10000):jK K (bI (yQ K) ta tb) σ H (ns++ms):=λH' s R q=>by
 have z:(10000:Nat)≤sizeLine:=by decide
 refine h1 H' s _ λa H1 s1 ha=>h2 H1 (s.trans s1) _ λb H2 s2 hb=>?_;refine⟨a,b,_,_,rfl,rfl,s2.bE ha,hb,by simp only[bz];lia,λc H3 s3 hc=>q c H3 (s1.trans (s2.trans s3)) ?_⟩;rw[cW];exact hc
theorem Ki{α:Type}(v:α):∀n:Nat,(List.replicate n [v]).flatten=List.replicate n v
 |0=>rfl
 |n+1=>by rw[nN,sJ,Ki v n];rfl
theorem rJ{tk:TE}{k:Nat}(h:qe tk σ H (k:Int))(hk:k≤10000):jK K (bI (yI K) (eB (aW (tC (.int 0)) bo)) tk) σ H (List.replicate k 0):=λH' s R q=>by
 have z:(10000:Nat)≤sizeLine:=by decide
 refine⟨by show 1≤sizeLine;decide,λa ha=>?_⟩;have sa:=aM.upd (o:=.tup [.int 0]) ha;refine h _ (s.trans sa) _ ⟨a,(k:Int),[.int 0],rfl,rfl,.of aX,by simp,by lia,by lia,by show 1*(k:Int).toNat≤sizeLine;lia,λc H3 s3 hc=>q c H3 (sa.trans s3) ?_⟩;rw[show(k:Int).toNat=k by lia,Ki]at hc;rw[List.map_replicate];exact hc
theorem jy{te:TE}{tl th:TO}{ns:List Int}{lo hi:Option Int}{ms:List Int}(h:jK K te σ H ns)(h1:zU tl σ H lo)(h2:zU th σ H hi)(e:ir (ns.map V.int) lo hi=ms.map V.int):jK K (gu (ia K) te tl th) σ H ms:=λH' s R q=>
 h H' s _ λa H1 s1 ha=>h1 H1 (s.trans s1) _ (h2 H1 (s.trans s1) _ ⟨a,_,rfl,ha,λc H3 s3 hc=>q c H3 (s1.trans s3) (by rw[e]at hc;exact hc)⟩)
end
theorem uj{K:Frag}{H1:Hp}{t:Addr}{RS:List V}{aQ:LL}{f:List Int→List Int}{cp:St}{te:TE}{Q:VK}(h2:aZ K H1 t RS)(h3:bG K H1 RS (aQ.map cG))(hz:aQ.length≤1000)
  (step:∀row ra H,row∈aQ→aM H1 H→aZ K H ra (row.map V.int)→jK K te (some (.ref ra)::cp) H (f row))
  (done:∀H ZS,aM H1 H→bG K H ZS ((aQ.map f).map cG)→∀p,H p=none→Q (.ref p) (upd H p (.lst ZS))) :
  ∃W:Nat→Nat→St→Hp→List V→Prop,(∃m,W 0 m (List.replicate 1 none++cp) H1 [])∧jo (nV K t) (bq 0) i8 te Q W:=by
 have nk:(1000:Nat)≤sizeLine:=by decide
 have zF:=fQ h3;refine vQ (xs:=RS) (cp:=cp) (λi H' zs=>bG K H' zs (((aQ.map f).take i).map cG)) h2 (by lia) .nil (λi H' zs h=>by rw[fQ h,cV];exact Nat.min_le_left _ _) ?_ ?_
 ·rintro i v H2 zs hv sm h;obtain⟨row,ra,lZ,rfl,dy⟩:=om h3 hv;refine kN (step row ra H2 (gj lZ) sm (sm.bE dy) H2 (.refl _) _ λu H3 s3 hu=>⟨⟨[_],rfl,rfl⟩,sm.trans s3,?_⟩);have e:(aQ.map f)[i]?=some (f row):=by rw[eI,lZ];rfl
  rw[gq,e];show bG K H3 _ (((aQ.map f).take i++[_]).map cG);rw[cW];exact(h.mono s3).append (.cons (jE hu) .nil)
 ·rintro H2 ZS sm hZ lz l5;rw[nQ (by rw[bz];lia)]at hZ;exact done H2 ZS sm hZ lz l5
noncomputable def qf(l r l' r':Nat)(row:List Int):List Int:=row.take l++List.replicate l' 0++(row.drop l).take r++List.replicate r' 0++row.drop (l+r)
noncomputable def qg(l r l':Nat)(row:List Int):List Int:=List.replicate l 0++row.take l'++List.replicate r 0++row.drop l'
noncomputable def nt(l r l' r':Nat)(aQ bJ:LL):LL:=aQ.map (qf l r l' r')++bJ.map (qg l r l')
theorem Uk{p:Int}{l r l' r' x:Nat}{row:List Int}(p0:0<p)(h:Rw p (l+r+x) row):Rw p (l+l'+(r+r')+x) (qf l r l' r' row):=by
 refine⟨?_,λy hx=>?_⟩
 ·unfold qf
  have:=h.1
  simp only[bQ,cV,eJ,ee];lia
 ·unfold qf at hx;simp only[dZ,List.mem_replicate]at hx;rcases hx with(((z|⟨_,rfl⟩)|z)|⟨_,rfl⟩)|z
  ·exact h.2 y (jU z)
  ·lia
  ·exact h.2 y (lE (jU z))
  ·lia
  ·exact h.2 y (lE z)
theorem Ul{p:Int}{l r l' r' x:Nat}{row:List Int}(p0:0<p)(h:Rw p (l'+r'+x) row):Rw p (l+l'+(r+r')+x) (qg l r l' row):=by
 refine⟨?_,λy hx=>?_⟩
 ·unfold qg
  have:=h.1
  simp only[bQ,cV,eJ,ee];lia
 ·unfold qg at hx;simp only[dZ,List.mem_replicate]at hx;rcases hx with((⟨_,rfl⟩|z)|⟨_,rfl⟩)|z
  ·lia
  ·exact h.2 y (jU z)
  ·lia
  ·exact h.2 y (lE z)
theorem D5{p:Int}{l r l' r' x:Nat}{aQ bJ:LL}(p0:0<p)(h:cj p (l+r+x) aQ)(h':cj p (l'+r'+x) bJ):cj p (l+l'+(r+r')+x) (nt l r l' r' aQ bJ):=λw hx=>by
 rcases(dZ.mp hx)with z|z
 ·obtain⟨y,hy,e⟩:=dU.mp z;rw[← e];exact Uk p0 (h y hy)
 ·obtain⟨y,hy,e⟩:=dU.mp z;rw[← e];exact Ul p0 (h' y hy)
theorem Um:(["row","behind","one","other"]:List Str).Nodup:=by decide +kernel
theorem Uo:(["row","one","other"]:List Str).Nodup:=by decide +kernel
section
variable{P:Program}{w:World}{K:Frag}{mg:Str→Option Value}{base:Heap}
def D6(K:Frag):Sp:=λvs H Q _=>∃(p:Int)(a b:Addr)(l r:Nat)(aQ:LL)(l' r':Nat)(bJ:LL)(x:Nat),vs=[.int p,.ref a,.ref b]∧p∈c7∧di K H a l r aQ∧di K H b l' r' bJ∧l≤100∧r≤100∧l'≤100∧r'≤100∧x≤200∧aQ.length≤400∧bJ.length≤400∧cj p (l+r+x) aQ∧cj p (l'+r'+x) bJ∧
 ∀v H',aM H H'→di K H' v (l+l') (r+r') (dw p (nt l r l' r' aQ bJ))→Q (.ref v) H'
noncomputable abbrev Kj:List Str:=["p","one","other","behind","above","below"]
theorem zV:c8 ["p","one","other","behind","above","below"] ["p","one","other"] (bx wb):=dJ rfl rfl rfl (by decide +kernel) rfl
abbrev df(K:Frag)(i:Nat)(j:Int):TE:=bI (kH K) (aO i) (tC (.int j))
abbrev rK(K:Frag)(tk:TE):TE:=bI (yI K) (eB (aW (tC (.int 0)) bo)) tk
abbrev gv(K:Frag)(ta tb:TE):TE:=bI (yQ K) ta tb
abbrev e8(ta tb:TE):TE:=bI (gB λi j=>.int (i+j)) ta tb
def zW(K:Frag):TE:=gv K (gv K (gv K (gv K (gu (ia K) (aO 0) iq (fi (df K 2 0))) (rK K (df K 3 0))) (gu (ia K) (aO 0) (fi (df K 2 0)) (fi (aO 1)))) (rK K (df K 3 1))) (gu (ia K) (aO 0) (fi (aO 1)) iq)
def zX(K:Frag):TE:=gv K (gv K (gv K (rK K (df K 1 0)) (gu (ia K) (aO 0) iq (fi (df K 2 0)))) (rK K (df K 1 1))) (gu (ia K) (aO 0) (fi (df K 2 0)) iq)
theorem Up{σ:St}{H:Hp}{ra a b:Addr}{row:List Int}{l r l' r' x:Nat}{t t':V}(h0:σ[0]?=some (some (.ref ra)))(h1:σ[1]?=some (some (.int ((l+r:Nat):Int))))(h2:σ[2]?=some (some (.ref a)))(h3:σ[3]?=some (some (.ref b)))
  (hr:aZ K H ra (row.map V.int)) (ha:aZ K H a [.int (l:Int),.int (r:Int),t]) (hb:aZ K H b [.int (l':Int),.int (r':Int),t']) (hl:row.length=l+r+x) (hx:x≤200) (b1:l≤100) (b2:r≤100) (b3:l'≤100) (b4:r'≤100):jK K (zW K) σ H (qf l r l' r' row):=by
 have e1:(row.take l).length≤100:=by rw[cV];lia
 have e2:((row.drop l).take r).length≤100:=by rw[cV];lia
 have e3:(row.drop (l+r)).length≤200:=by rw[eJ];lia
 refine jx (jx (jx (jx (jy (jc h0 hr) l6 (ie (gK (j:=0) h2 ha rfl)) (pF (by lia))) (rJ (gK (j:=0) h3 hb rfl) (by lia)) ?_) (jy (jc h0 hr) (ie (gK (j:=0) h2 ha rfl)) (ie (gJ h1)) (wz (by lia))) ?_) (rJ (gK (j:=1) h3 hb rfl) (by lia)) ?_) (jy (jc h0 hr) (ie (gJ h1)) l6 (oo (by lia))) ?_ <;>
  simp only[bQ,ee]<;>lia
theorem Uq{σ:St}{H:Hp}{ra a b:Addr}{row:List Int}{l r l' r' x:Nat}{t t':V}(h0:σ[0]?=some (some (.ref ra)))(h2:σ[1]?=some (some (.ref a)))(h3:σ[2]?=some (some (.ref b)))
  (hr:aZ K H ra (row.map V.int)) (ha:aZ K H a [.int (l:Int),.int (r:Int),t]) (hb:aZ K H b [.int (l':Int),.int (r':Int),t']) (hl:row.length=l'+r'+x) (hx:x≤200) (b1:l≤100) (b2:r≤100) (b3:l'≤100) (b4:r'≤100):jK K (zX K) σ H (qg l r l' row):=by
 have e1:(row.take l').length≤100:=by rw[cV];lia
 have e3:(row.drop l').length≤300:=by rw[eJ];lia
 refine jx (jx (jx (rJ (gK (j:=0) h2 ha rfl) (by lia)) (jy (jc h0 hr) l6 (ie (gK (j:=0) h3 hb rfl)) (pF (by lia))) ?_) (rJ (gK (j:=1) h2 ha rfl) (by lia)) ?_) (jy (jc h0 hr) (ie (gK (j:=0) h3 hb rfl)) l6 (oo (by lia))) ?_ <;>
  simp only[bQ,ee]<;>lia
def zY(K:Frag):TS:=bZ (cy (e8 (df K 1 0) (df K 1 1)) (bq 3))
 (bZ (cy (j9 (nW K (df K 1 2)) 1 [3,1,2] (bq 0) i8 (zW K)) (bq 4)) (bZ (cy (j9 (nW K (df K 2 2)) 1 [1,2] (bq 0) i8 (zX K)) (bq 5)) (eA (eB (aW (e8 (df K 1 0) (df K 2 0)) (aW (e8 (df K 1 1) (df K 2 1)) (aW (fw (pA K) [] E0 (aW (aO 0) (aW (bI n6 (aO 4) (aO 5)) bo))) bo)))))))
theorem Ur{D:Ends}{p:Int}{a b:Addr}{l r:Nat}{aQ:LL}{l' r':Nat}{bJ:LL}{x:Nat}{H:Hp}(pp:p∈c7)(hf:di K H a l r aQ)(eX:di K H b l' r' bJ)(b1:l≤100)(b2:r≤100)(b3:l'≤100)(b4:r'≤100)(hx:x≤200)(z1:aQ.length≤400)(z2:bJ.length≤400)(hR:cj p (l+r+x) aQ)(fo:cj p (l'+r'+x) bJ)
  (q:∀v H',aM H H'→di K H' v (l+l') (r+r') (dw p (nt l r l' r' aQ bJ))→D.rt (.ref v) H'):zY K D [some (.int p),some (.ref a),some (.ref b),none,none,none] H:=by
 obtain⟨t,RS,h1,h2,h3⟩:=hf;obtain⟨t',Kk,ot,uk,um⟩:=eX;have nk:(1000:Nat)≤sizeLine:=by decide
 have p0:0<p:=(gI p pp).1 |> λh=>by lia
 unfold zY;refine ui (gK (j:=0) rfl h1 rfl) (gK (j:=1) rfl h1 rfl) H (.refl _) _ ?_;refine⟨_,rfl,a,_,2,_,rfl,rfl,h1,cH (j:=2) rfl,t,rfl,⟨_,h2⟩,?_⟩;refine uj (f:=qf l r l' r') (cp:=[some (.int ((l:Int)+(r:Int))),some (.ref a),some (.ref b)]) h2 h3 (by lia) (λrow ra H1 iQ s1 dy=>Up rfl (by rw[show((l+r:Nat):Int)=(l:Int)+(r:Int) by lia];rfl) rfl rfl dy (s1.bE h1) (s1.bE ot) (hR row iQ).1 hx b1 b2 b3 b4) ?_;intro H1 ZS s1 hZ la ic;refine⟨_,rfl,b,_,2,_,rfl,rfl,(s1.trans (.upd ic)).bE ot,cH (j:=2) rfl,t',rfl,⟨_,(s1.trans (.upd ic)).bE uk⟩,?_⟩;have wD:(upd H1 la (.lst ZS)) la=some (.lst ZS):=aX;have rL:=hZ.mono (aM.upd ic (o:=.lst ZS));have sA:aM H (upd H1 la (.lst ZS)):=s1.trans (.upd ic);generalize upd H1 la (.lst ZS)=H2 at wD rL sA ⊢;refine uj (f:=qg l r l') (cp:=[some (.ref a),some (.ref b)]) (sA.bE uk) (um.mono sA) (by lia) (λrow ra H3 iQ s3 dy=>Uq rfl rfl rfl dy ((sA.trans s3).bE h1) ((sA.trans s3).bE ot) (fo row iQ).1 hx b1 b2 b3 b4) ?_;intro H3 YS s3 hY lb jL;have sB:aM H2 (upd H3 lb (.lst YS)):=s3.trans (.upd jL);have qh:(upd H3 lb (.lst YS)) lb=some (.lst YS):=aX;have ow:=hY.mono (aM.upd jL (o:=.lst YS));generalize upd H3 lb (.lst YS)=H4 at sB qh ow ⊢;have sC:=sA.trans sB;refine ui (gK (j:=0) rfl (sC.bE h1) rfl) (gK (j:=0) rfl (sC.bE ot) rfl) H4 (.refl _) _ ?_;refine ui (gK (j:=1) rfl (sC.bE h1) rfl) (gK (j:=1) rfl (sC.bE ot) rfl) H4 (.refl _) _ ?_;have eZ:=fQ rL;have eY:=fQ ow;rw[bz]at eZ eY;refine⟨_,rfl,_,rfl,_,rfl,la,lb,ZS,YS,rfl,rfl,sB _ _ wD,qh,by lia,λlc wF=>?_⟩;have sD:=aM.upd (o:=.lst (ZS++YS)) wF;refine⟨p,lc,true,ZS++YS,nt l r l' r' aQ bJ,l+l'+(r+r')+x,rfl,pp,.of aX,?_,by unfold nt;rw[bQ,bz,bz];lia,by lia,D5 p0 hR fo,λt2 H5 DS s5 fI wB=>?_⟩
 ·unfold nt;rw[cW];exact((rL.mono sB).mono sD).append (ow.mono sD)
 ·refine⟨(by show 3≤sizeLine;lia),λv hv=>q v _ (sC.trans (sD.trans (s5.trans (.upd hv)))) ⟨t2,DS,?_,(aM.upd hv).bE fI,wB.mono (.upd hv)⟩⟩;refine .of ?_;rw[aX,show((l+l':Nat):Int)=(l:Int)+(l':Int) by lia,show((r+r':Nat):Int)=(r:Int)+(r':Int) by lia]
end
section
variable{P:Program}{w:World}{K:Frag}{mg:Str→Option Value}{base:Heap}
theorem Us{f fD:Addr}{fd fH:FuncData}(F:cC K "form_of_beside" "form_of_beside" wb f fd)
  (GD:bu P w K mg base br 3 fD fH ["p","rows"] (pA K)) (kD:Kp K fD) (bD:Binds K fH ["p","rows"] []) (mD:Mg mg "reduced" fD):bu P w K mg base br 4 f fd ["p","one","other"] (D6 K):=by
 refine F.ok zV (λvs H Q E h=>?_) (λbV A outer s H vs Q E hr h=>?_)
 ·obtain⟨p,a,b,l,r,aQ,l',r',bJ,x,rfl,_⟩:=h;rfl
 ·obtain⟨p,a,b,l,r,aQ,l',r',bJ,x,rfl,pp,hf,eX,b1,b2,b3,b4,hx,z1,z2,hR,fo,q⟩:=h;refine⟨zY K,?_,?_⟩
  ·unfold zY;refine bh ?_ ?_
   ·refine bY (i:=3) (te:=e8 (df K 1 0) (df K 1 1)) ?_ ?_ ?_ ?_ ?_ ?_
    ·exact zV.nd
    ·rfl
    ·exact Or.inr rfl
    ·exact aY fh (cf (cJ K rfl) (pv 1) aU (λ_ _=>rfl)) (cf (cJ K rfl) (pv 1) aU (λ_ _=>rfl))
    ·rfl
    ·exact .inl rfl
   refine bh ?_ ?_
   ·refine mY (N:=["row","behind","one","other"]) (own:=1) (caps:=[3,1,2]) (i:=4) (te:=zW K) rfl zV.nd rfl rfl ?_ ?_ ?_ ?_ ?_
    ·exact lQ K rfl (cf (cJ K rfl) (pv 1) aU (λ_ _=>rfl))
    ·exact(show du Kj (bx wb) ["row","behind","one","other"] 1 [3,1,2] _ from .mk' (by decide +kernel))
    ·exact λ_ _ _ _ _=>cq (i:=0) Um rfl (.inl rfl)
    ·exact λ_ _ _ _ _=>gG
    ·intro _ _ _ _ _;unfold zW;refine aY (dY K rfl) ?_ ?_
     ·refine aY (dY K rfl) ?_ ?_
      ·refine aY (dY K rfl) ?_ ?_
       ·refine aY (dY K rfl) ?_ ?_
        ·exact eN (fN K rfl) (pv 0) gn (dP (cf (cJ K rfl) (pv 2) aU (λ_ _=>rfl)))
        ·exact aY (lP K rfl) (cB (aL aU aR)) (cf (cJ K rfl) (pv 3) aU (λ_ _=>rfl))
       ·exact eN (fN K rfl) (pv 0) (dP (cf (cJ K rfl) (pv 2) aU (λ_ _=>rfl))) (dP (pv 1))
      ·exact aY (lP K rfl) (cB (aL aU aR)) (cf (cJ K rfl) (pv 3) aU (λ_ _=>rfl))
     ·exact eN (fN K rfl) (pv 0) (dP (pv 1)) gn
   refine bh ?_ ?_
   ·refine mY (N:=["row","one","other"]) (own:=1) (caps:=[1,2]) (i:=5) (te:=zX K) rfl zV.nd rfl rfl ?_ ?_ ?_ ?_ ?_
    ·exact lQ K rfl (cf (cJ K rfl) (pv 2) aU (λ_ _=>rfl))
    ·exact(show du Kj (bx wb) ["row","one","other"] 1 [1,2] _ from .mk' (by decide +kernel))
    ·exact λ_ _ _ _ _=>cq (i:=0) Uo rfl (.inl rfl)
    ·exact λ_ _ _ _ _=>gG
    ·intro _ _ _ _ _;unfold zX;refine aY (dY K rfl) ?_ ?_
     ·refine aY (dY K rfl) ?_ ?_
      ·refine aY (dY K rfl) ?_ ?_
       ·exact aY (lP K rfl) (cB (aL aU aR)) (cf (cJ K rfl) (pv 1) aU (λ_ _=>rfl))
       ·exact eN (fN K rfl) (pv 0) gn (dP (cf (cJ K rfl) (pv 2) aU (λ_ _=>rfl)))
      ·exact aY (lP K rfl) (cB (aL aU aR)) (cf (cJ K rfl) (pv 1) aU (λ_ _=>rfl))
     ·exact eN (fN K rfl) (pv 0) (dP (cf (cJ K rfl) (pv 2) aU (λ_ _=>rfl))) gn
   refine bK ?_;refine cQ (te:=eB (aW (e8 (df K 1 0) (df K 2 0)) (aW (e8 (df K 1 1) (df K 2 1)) (aW (fw (pA K) [] E0 (aW (aO 0) (aW (bI n6 (aO 4) (aO 5)) bo))) bo)))) ?_;refine cB ?_;refine aL ?_ ?_ ?_
   ·exact aY fh (cf (cJ K rfl) (pv 1) aU (λ_ _=>rfl)) (cf (cJ K rfl) (pv 2) aU (λ_ _=>rfl))
   ·refine aL ?_ ?_ ?_
    ·exact aY fh (cf (cJ K rfl) (pv 1) aU (λ_ _=>rfl)) (cf (cJ K rfl) (pv 2) aU (λ_ _=>rfl))
    ·refine aL ?_ aR ?_
     ·exact cT GD hr rfl mD kD bD .nil cU (aL (pv 0) (aL (aY n8 (pv 4) (pv 5)) aR))
     ·rfl
    ·rfl
   ·rfl
  ·exact Ur pp hf eX b1 b2 b3 b4 hx z1 z2 hR fo q
end
noncomputable def qi(l m r':Nat)(row:List Int):List Int:=(row.drop l).take m++row.take l++List.replicate r' 0++row.drop (l+m)
noncomputable def qj(p:Int)(l m:Nat)(row:List Int):List Int:=(row.take m).map (λn=>(-n)%p)++List.replicate l 0++row.drop m
noncomputable def nu(p:Int)(l m r':Nat)(aQ bJ:LL):LL:=aQ.map (qi l m r')++bJ.map (qj p l m)
noncomputable def ox(m:Nat)(row:List Int):Bool:=!((row.take m).any λn=>n != 0)
noncomputable def nv(p:Int)(l m r':Nat)(aQ bJ:LL):LL:=((dw p (nu p l m r' aQ bJ)).filter (ox m)).map (λrow=>row.drop m)
theorem Ut{p:Int}{l m r' x:Nat}{row:List Int}(p0:0<p)(h:Rw p (l+m+x) row):Rw p (m+(l+r')+x) (qi l m r' row):=by
 refine⟨?_,λy hx=>?_⟩
 ·unfold qi
  have:=h.1
  simp only[bQ,cV,eJ,ee];lia
 ·unfold qi at hx;simp only[dZ,List.mem_replicate]at hx;rcases hx with((z|z)|⟨_,rfl⟩)|z
  ·exact h.2 y (lE (jU z))
  ·exact h.2 y (jU z)
  ·lia
  ·exact h.2 y (lE z)
theorem Uu{p:Int}{l m r' x:Nat}{row:List Int}(p0:0<p)(h:Rw p (m+r'+x) row):Rw p (m+(l+r')+x) (qj p l m row):=by
 refine⟨?_,λy hx=>?_⟩
 ·unfold qj
  have:=h.1
  simp only[bQ,bz,cV,eJ,ee];lia
 ·unfold qj at hx;simp only[dZ,List.mem_replicate,dU]at hx;rcases hx with(⟨w,_,rfl⟩|⟨_,rfl⟩)|z
  ·exact⟨jR _ (by lia),jS _ p0⟩
  ·lia
  ·exact h.2 y (lE z)
theorem zZ{p:Int}{l m r' x:Nat}{aQ bJ:LL}(p0:0<p)(h:cj p (l+m+x) aQ)(h':cj p (m+r'+x) bJ):cj p (m+(l+r')+x) (nu p l m r' aQ bJ):=λw hx=>by
 rcases(dZ.mp hx)with z|z
 ·obtain⟨y,hy,e⟩:=dU.mp z;rw[← e];exact Ut p0 (h y hy)
 ·obtain⟨y,hy,e⟩:=dU.mp z;rw[← e];exact Uu p0 (h' y hy)
theorem Uv{p:Int}(pp:p∈c7){l m r' x:Nat}{aQ bJ:LL}(h:cj p (l+m+x) aQ)(h':cj p (m+r'+x) bJ):cj p (l+r'+x) (nv p l m r' aQ bJ):=λw hx=>by
 have p0:0<p:=by have:=gI p pp;lia
 obtain⟨y,hy,e⟩:=dU.mp hx;have yq:=(ng pp (zZ p0 h h')).rws y (lD.mp hy).1;rw[← e];refine⟨by rw[eJ,yq.1];lia,λz hz=>yq.2 z (lE hz)⟩
theorem Uw{p:Int}(pp:p∈c7){l m r' x:Nat}{aQ bJ:LL}(h:cj p (l+m+x) aQ)(h':cj p (m+r'+x) bJ):(nv p l m r' aQ bJ).length≤m+(l+r')+x:=by
 have p0:0<p:=by have:=gI p pp;lia
 have:=zB (zZ p0 h h')
 unfold nv;rw[bz];exact ft (BJ _ _) this
theorem Ux:(["row","behind","left","other"]:List Str).Nodup:=by decide +kernel
theorem Uy:(["row","between","left","p"]:List Str).Nodup:=by decide +kernel
theorem Uz:(["number","p"]:List Str).Nodup:=by decide +kernel
theorem UA:(["row","between"]:List Str).Nodup:=by decide +kernel
section
variable{P:Program}{w:World}{K:Frag}{mg:Str→Option Value}{base:Heap}
def uo(K:Frag):List V→Hp→VK→Prop:=λxs H Q=>∃p ys,xs=[.ref p]∧((cM K H p ys∧∀l,H l=none→Q (.ref l) (upd H l (.tup ys)))∨(aZ K H p ys∧Q (.ref p) H))
def Aa(K:Frag):TE:=fE (uo K) (aW (j9 (nW K (gu (ia K) (aO 0) iq (fi (aO 1)))) 1 [3] (bq 0) i8 (bI (rI (λ_ j=>0<j) λi j=>.int (i%j)) (x6 (rU λi=>.int (-i)) (aO 0)) (aO 1))) bo)
def Ab(K:Frag):TE:=gv K (gv K (gv K (gu (ia K) (aO 0) (fi (aO 2)) (fi (aO 1))) (gu (ia K) (aO 0) iq (fi (aO 2)))) (rK K (df K 3 1))) (gu (ia K) (aO 0) (fi (aO 1)) iq)
def Ac(K:Frag):TE:=gv K (gv K (Aa K) (rK K (aO 2))) (gu (ia K) (aO 0) (fi (aO 1)) iq)
theorem UC{H1:Hp}{t:Addr}{ns:List Int}{g:Int→Int}{cp:St}{te:TE}{Q:VK}(h2:aZ K H1 t (ns.map V.int))(hz:ns.length≤1000)(step:∀n H,aM H1 H→qe te (some (.int n)::cp) H (g n))
  (done:∀H,aM H1 H→∀p,H p=none→Q (.ref p) (upd H p (.lst ((ns.map g).map V.int)))) :
  ∃W:Nat→Nat→St→Hp→List V→Prop,(∃m,W 0 m (List.replicate 1 none++cp) H1 [])∧jo (nV K t) (bq 0) i8 te Q W:=by
 have nk:(1000:Nat)≤sizeLine:=by decide
 refine vQ (xs:=ns.map V.int) (cp:=cp) (λi H' zs=>zs=((ns.take i).map g).map V.int) h2 (by rw[bz];lia) (by simp) (λi H' zs h=>by rw[h,bz,bz,cV];exact Nat.min_le_left _ _) ?_ ?_
 ·rintro i v H2 zs hv sm rfl;rw[eI]at hv;cases e:ns[i]? with
  |none=>rw[e]at hv;cases hv
  |some n=>
   rw[e]at hv;cases hv;refine kN (step n H2 sm H2 (.refl _) _ ⟨⟨[_],rfl,rfl⟩,sm,?_⟩);rw[gq,e];simp
 ·rintro H2 zs sm rfl lz l5;rw[bz,nQ (ck _)];exact done H2 sm lz l5
theorem UD{σ:St}{H:Hp}{ra:Addr}{row:List Int}{m:Nat}{p:Int}(h0:σ[0]?=some (some (.ref ra)))(h1:σ[1]?=some (some (.int (m:Int))))(h3:σ[3]?=some (some (.int p)))(hr:aZ K H ra (row.map V.int))(hm:m≤row.length)(hl:row.length≤1000)(p0:0<p) :
  jK K (Aa K) σ H ((row.take m).map λn=>(-n)%p):=λH' s R q=>by
 unfold Aa fE;refine jy (K:=K) (ms:=row.take m) (jc h0 hr) l6 (ie (gJ h1)) (pF hm) H' s _ λt H1 s1 ht=>⟨t,rfl,⟨_,ht⟩,?_⟩;have eb:mV 1 [3] σ=List.replicate 1 none++[some (.int p)]:=by simp[mV,h3]
 rw[eb];refine UC (g:=λn=>(-n)%p) (cp:=[some (.int p)]) ht (by rw[cV];lia) (λn H2 s2 H3 s3 R' q'=>⟨_,rfl,n,rfl,_,rfl,-n,p,rfl,rfl,p0,q'⟩) ?_;intro H2 s2 l CP;refine⟨l,_,rfl,.inl ⟨.of aX,λv hv=>q v _ (s1.trans (s2.trans ((aM.upd CP).trans (.upd hv)))) (.of aX)⟩⟩
theorem UE{σ:St}{H:Hp}{ra b:Addr}{row:List Int}{l m r' e:Nat}{x t':V}(h0:σ[0]?=some (some (.ref ra)))(h1:σ[1]?=some (some (.int ((l+m:Nat):Int))))(h2:σ[2]?=some (some (.int (l:Int))))(h3:σ[3]?=some (some (.ref b)))
  (hr:aZ K H ra (row.map V.int)) (hb:aZ K H b [x,.int (r':Int),t']) (hl:row.length=l+m+e) (he:e≤200) (b1:l≤100) (b2:m≤100) (b4:r'≤100):jK K (Ab K) σ H (qi l m r' row):=by
 have e1:(row.take l).length≤100:=by rw[cV];lia
 have e2:((row.drop l).take m).length≤100:=by rw[cV];lia
 have e3:(row.drop (l+m)).length≤200:=by rw[eJ];lia
 refine jx (jx (jx (jy (jc h0 hr) (ie (gJ h2)) (ie (gJ h1)) (wz (by lia))) (jy (jc h0 hr) l6 (ie (gJ h2)) (pF (by lia))) ?_) (rJ (gK (j:=1) h3 hb rfl) (by lia)) ?_) (jy (jc h0 hr) (ie (gJ h1)) l6 (oo (by lia))) ?_ <;>
  (try simp only[bQ,ee])<;>lia
theorem UG{σ:St}{H:Hp}{ra:Addr}{row:List Int}{l m r' e:Nat}{p:Int}(h0:σ[0]?=some (some (.ref ra)))(h1:σ[1]?=some (some (.int (m:Int))))(h2:σ[2]?=some (some (.int (l:Int))))(h3:σ[3]?=some (some (.int p)))
  (hr:aZ K H ra (row.map V.int)) (hl:row.length=m+r'+e) (he:e≤200) (b1:l≤100) (b2:m≤100) (b4:r'≤100) (p0:0<p):jK K (Ac K) σ H (qj p l m row):=by
 have e1:((row.take m).map λn=>(-n)%p).length≤100:=by rw[bz,cV];lia
 have e3:(row.drop m).length≤300:=by rw[eJ];lia
 refine jx (jx (UD h0 h1 h3 hr (by lia) (by lia) p0) (rJ (gJ h2) (by lia)) ?_) (jy (jc h0 hr) (ie (gJ h1)) l6 (oo (by lia))) ?_ <;>
  (try simp only[bQ,ee])<;>lia
def D7(K:Frag):Sp:=λvs H Q _=>∃(p:Int)(a b:Addr)(l m:Nat)(aQ:LL)(r':Nat)(bJ:LL)(e:Nat),vs=[.int p,.ref a,.ref b]∧p∈c7∧di K H a l m aQ∧di K H b m r' bJ∧l≤100∧m≤100∧r'≤100∧e≤200∧aQ.length≤400∧bJ.length≤400∧cj p (l+m+e) aQ∧cj p (m+r'+e) bJ∧
 ∀v H' ZS,aM H H'→H' v=some (.lst ZS)→bG K H' ZS ((nu p l m r' aQ bJ).map cG)→Q (.ref v) H'
noncomputable abbrev Kl:List Str:=["p","one","other","left","between","behind","ahead","follow"]
theorem uq:c8 ["p","one","other","left","between","behind","ahead","follow"] ["p","one","other"] (bx wc):=dJ rfl rfl rfl (by decide +kernel) rfl
def Ad(K:Frag):TS:=bZ (cy (df K 1 0) (bq 3)) (bZ (cy (df K 1 1) (bq 4)) (bZ (cy (e8 (aO 3) (aO 4)) (bq 5)) (bZ (cy (j9 (nW K (df K 1 2)) 1 [5,3,2] (bq 0) i8 (Ab K)) (bq 6)) (bZ (cy (j9 (nW K (df K 2 2)) 1 [4,3,0] (bq 0) i8 (Ac K)) (bq 7)) (eA (bI n6 (aO 6) (aO 7)))))))
theorem UH{D:Ends}{p:Int}{a b:Addr}{l m:Nat}{aQ:LL}{r':Nat}{bJ:LL}{e:Nat}{H:Hp}(pp:p∈c7)(hf:di K H a l m aQ)(eX:di K H b m r' bJ)(b1:l≤100)(b2:m≤100)(b4:r'≤100)(he:e≤200)(z1:aQ.length≤400)(z2:bJ.length≤400)(hR:cj p (l+m+e) aQ)(fo:cj p (m+r'+e) bJ)
  (q:∀v H' ZS,aM H H'→H' v=some (.lst ZS)→bG K H' ZS ((nu p l m r' aQ bJ).map cG)→D.rt (.ref v) H'):Ad K D [some (.int p),some (.ref a),some (.ref b),none,none,none,none,none] H:=by
 obtain⟨t,RS,h1,h2,h3⟩:=hf;obtain⟨t',Kk,ot,uk,um⟩:=eX;have nk:(1000:Nat)≤sizeLine:=by decide
 have p0:0<p:=by have:=gI p pp;lia
 unfold Ad;refine gK (j:=0) rfl h1 rfl H (.refl _) _ ?_;refine gK (j:=1) rfl h1 rfl H (.refl _) _ ?_;refine ui (i:=(l:Int)) (j:=(m:Int)) (gJ rfl) (gJ rfl) H (.refl _) _ ?_;refine⟨_,rfl,a,_,2,_,rfl,rfl,h1,cH (j:=2) rfl,t,rfl,⟨_,h2⟩,?_⟩;refine uj (f:=qi l m r') (cp:=[some (.int ((l:Int)+(m:Int))),some (.int (l:Int)),some (.ref b)]) h2 h3 (by lia) (λrow ra H1 iQ s1 dy=>UE rfl (by rw[show((l+m:Nat):Int)=(l:Int)+(m:Int) by lia];rfl) rfl rfl dy (s1.bE ot) (hR row iQ).1 he b1 b2 b4) ?_;intro H1 ZS s1 hZ la ic;refine⟨_,rfl,b,_,2,_,rfl,rfl,(s1.trans (.upd ic)).bE ot,cH (j:=2) rfl,t',rfl,⟨_,(s1.trans (.upd ic)).bE uk⟩,?_⟩;have wD:(upd H1 la (.lst ZS)) la=some (.lst ZS):=aX;have rL:=hZ.mono (aM.upd ic (o:=.lst ZS));have sA:aM H (upd H1 la (.lst ZS)):=s1.trans (.upd ic);generalize upd H1 la (.lst ZS)=H2 at wD rL sA ⊢;refine uj (f:=qj p l m) (cp:=[some (.int (m:Int)),some (.int (l:Int)),some (.int p)]) (sA.bE uk) (um.mono sA) (by lia) (λrow ra H3 iQ s3 dy=>UG (r':=r') rfl rfl rfl rfl dy (fo row iQ).1 he b1 b2 b4 p0) ?_;intro H3 YS s3 hY lb jL;have sB:aM H2 (upd H3 lb (.lst YS)):=s3.trans (.upd jL);have qh:(upd H3 lb (.lst YS)) lb=some (.lst YS):=aX;have ow:=hY.mono (aM.upd jL (o:=.lst YS));generalize upd H3 lb (.lst YS)=H4 at sB qh ow ⊢;have eZ:=fQ rL;have eY:=fQ ow;rw[bz]at eZ eY;refine⟨_,rfl,_,rfl,la,lb,ZS,YS,rfl,rfl,sB _ _ wD,qh,by lia,λlc wF=>?_⟩;have sD:=aM.upd (o:=.lst (ZS++YS)) wF;refine q lc _ (ZS++YS) (sA.trans (sB.trans sD)) aX ?_;unfold nu;rw[cW];exact((rL.mono sB).mono sD).append (ow.mono sD)
end
section
variable{P:Program}{w:World}{K:Frag}{mg:Str→Option Value}{base:Heap}
theorem UI{f:Addr}{fd:FuncData}(F:cC K "facing" "facing" wc f fd)(T:Txt mg):bu P w K mg base br 1 f fd ["p","one","other"] (D7 K):=by
 refine F.ok uq (λvs H Q E h=>?_) (λbV A outer s H vs Q E hr h=>?_)
 ·obtain⟨p,a,b,l,r,aQ,r',bJ,e,rfl,_⟩:=h;rfl
 ·obtain⟨p,a,b,l,m,aQ,r',bJ,e,rfl,pp,hf,eX,b1,b2,b4,he,z1,z2,hR,fo,q⟩:=h;refine⟨Ad K,?_,?_⟩
  ·unfold Ad;refine bh ?_ ?_
   ·exact bY (i:=3) uq.nd rfl (Or.inr rfl) (cf (cJ K rfl) (pv 1) aU (λ_ _=>rfl))
   refine bh ?_ ?_
   ·exact bY (i:=4) uq.nd rfl (Or.inr rfl) (cf (cJ K rfl) (pv 1) aU (λ_ _=>rfl))
   refine bh ?_ ?_
   ·exact bY (i:=5) uq.nd rfl (Or.inr rfl) (aY fh (pv 3) (pv 4))
   refine bh ?_ ?_
   ·refine mY (N:=["row","behind","left","other"]) (own:=1) (caps:=[5,3,2]) (i:=6) (te:=Ab K) rfl uq.nd rfl rfl ?_ ?_ ?_ ?_ ?_
    ·exact lQ K rfl (cf (cJ K rfl) (pv 1) aU (λ_ _=>rfl))
    ·exact(show du Kl (bx wc) ["row","behind","left","other"] 1 [5,3,2] _ from .mk' (by decide +kernel))
    ·exact λ_ _ _ _ _=>cq (i:=0) Ux rfl (.inl rfl)
    ·exact λ_ _ _ _ _=>gG
    ·intro _ _ _ _ _;unfold Ab;refine aY (dY K rfl) ?_ ?_
     ·refine aY (dY K rfl) ?_ ?_
      ·refine aY (dY K rfl) ?_ ?_
       ·exact eN (fN K rfl) (pv 0) (dP (pv 2)) (dP (pv 1))
       ·exact eN (fN K rfl) (pv 0) gn (dP (pv 2))
      ·exact aY (lP K rfl) (cB (aL aU aR)) (cf (cJ K rfl) (pv 3) aU (λ_ _=>rfl))
     ·exact eN (fN K rfl) (pv 0) (dP (pv 1)) gn
   refine bh ?_ ?_
   ·refine mY (N:=["row","between","left","p"]) (own:=1) (caps:=[4,3,0]) (i:=7) (te:=Ac K) rfl uq.nd rfl rfl ?_ ?_ ?_ ?_ ?_
    ·exact lQ K rfl (cf (cJ K rfl) (pv 2) aU (λ_ _=>rfl))
    ·exact(show du Kl (bx wc) ["row","between","left","p"] 1 [4,3,0] _ from .mk' (by decide +kernel))
    ·exact λ_ _ _ _ _=>cq (i:=0) Uy rfl (.inl rfl)
    ·exact λ_ _ _ _ _=>gG
    ·intro _ _ _ _ _;unfold Ac;refine aY (dY K rfl) ?_ ?_
     ·refine aY (dY K rfl) ?_ ?_
      ·unfold Aa;refine j6 (ph K rfl) rfl T.tuple mZ ?_;refine aL ?_ aR ?_
       ·refine i9 (N:=["number","p"]) (own:=1) (caps:=[3]) rfl ?_ ?_ ?_ ?_ ?_
        ·exact lQ K rfl (eN (fN K rfl) (pv 0) gn (dP (pv 1)))
        ·exact(du.mk' (by kernel_rfl))
        ·exact λ_ _ _ _ _=>cq (i:=0) Uz rfl (.inl rfl)
        ·exact λ_ _ _ _ _=>gG
        ·exact λ_ _ _ _ _=>aY eW (mI mJ (pv 0)) (pv 1)
       ·rfl
      ·exact aY (lP K rfl) (cB (aL aU aR)) (pv 2)
     ·exact eN (fN K rfl) (pv 0) (dP (pv 1)) gn
   refine bK ?_;exact cQ (te:=bI n6 (aO 6) (aO 7)) (aY n8 (pv 6) (pv 7))
  ·exact UH pp hf eX b1 b2 b4 he z1 z2 hR fo q
end
section
variable{P:Program}{w:World}{K:Frag}{mg:Str→Option Value}{base:Heap}
def D8(K:Frag):Sp:=λvs H Q _=>∃(p:Int)(a b:Addr)(l m:Nat)(aQ:LL)(r':Nat)(bJ:LL)(e:Nat),vs=[.int p,.ref a,.ref b]∧p∈c7∧di K H a l m aQ∧di K H b m r' bJ∧l≤100∧m≤100∧r'≤100∧e≤200∧aQ.length≤400∧bJ.length≤400∧cj p (l+m+e) aQ∧cj p (m+r'+e) bJ∧
 ∀v H',aM H H'→di K H' v l r' (nv p l m r' aQ bJ)→Q (.ref v) H'
noncomputable abbrev UJ:List Str:=["p","one","other","between","met"]
theorem D9:c8 ["p","one","other","between","met"] ["p","one","other"] (bx zq):=dJ rfl rfl rfl (by decide +kernel) rfl
def UK(K:Frag):List V→Hp→VK→Prop:=λxs H Q=>∃p ns,xs=[.ref p]∧aZ K H p (List.map V.int ns)∧Q (.bl (ns.any λn=>n != 0)) H
def Ea(K:Frag):TT:=BS (tB (fE (UK K) (aW (gu (ia K) (aO 0) iq (fi (aO 1))) bo)))
def Eb(K:Frag):TE:=gu (ia K) (aO 0) (fi (aO 1)) iq
def Ae(K:Frag):TS:=bZ (cy (df K 1 1) (bq 3))
 (bZ (cy (j9 (nW K (fw (pA K) [] E0 (aW (aO 0) (aW (fw (D7 K) [] E0 (aW (aO 0) (aW (aO 1) (aW (aO 2) bo)))) bo)))) 1 [3] (bq 0) (Ea K) (Eb K)) (bq 4)) (eA (eB (aW (df K 1 0) (aW (df K 2 1) (aW (fE (uo K) (aW (aO 4) bo)) bo))))))
theorem UL{H1:Hp}{t:Addr}{RS:List V}{aQ:LL}{g:List Int→Bool}{f:List Int→List Int}{cp:St}{tt:TT}{te:TE}{Q:VK}(h2:aZ K H1 t RS)(h3:bG K H1 RS (aQ.map cG))(hz:aQ.length≤1000)
  (test:∀row ra H,row∈aQ→aM H1 H→aZ K H ra (row.map V.int)→∀R:Bool→Hp→Prop,(∀H',aM H H'→R (g row) H')→tt (some (.ref ra)::cp) H R)
  (step:∀row ra H,row∈aQ→aM H1 H→aZ K H ra (row.map V.int)→jK K te (some (.ref ra)::cp) H (f row))
  (done:∀H ZS,aM H1 H→bG K H ZS (((aQ.filter g).map f).map cG)→∀p,H p=none→Q (.ref p) (upd H p (.lst ZS))) :
  ∃W:Nat→Nat→St→Hp→List V→Prop,(∃m,W 0 m (List.replicate 1 none++cp) H1 [])∧jo (nV K t) (bq 0) tt te Q W:=by
 have nk:(1000:Nat)≤sizeLine:=by decide
 have zF:=fQ h3;refine vQ (xs:=RS) (cp:=cp) (λi H' zs=>bG K H' zs ((((aQ.take i).filter g).map f).map cG)) h2 (by lia) .nil (λi H' zs h=>by rw[fQ h,bz];exact ft (BJ _ _) (by rw[cV];exact Nat.min_le_left _ _)) ?_ ?_
 ·rintro i v H2 zs hv sm h;obtain⟨row,ra,lZ,rfl,dy⟩:=om h3 hv;have hm:=gj lZ;refine test row ra H2 hm sm (sm.bE dy) _ λH3 s3=>?_;have et:(aQ.take (i+1)).filter g=(aQ.take i).filter g++[row].filter g:=by
   rw[gq,lZ];exact sN ..
  cases hg:g row with
  |true=>
   refine i7 (step row ra H3 hm (sm.trans s3) ((sm.trans s3).bE dy) H3 (.refl _) _ λu H4 s4 hu=>⟨⟨[_],rfl,rfl⟩,sm.trans (s3.trans s4),?_⟩);show bG K H4 _ ((((aQ.take (i+1)).filter g).map f).map cG);rw[et,List.filter_cons,hg,ae rfl,sO,cW,cW];exact(h.mono (s3.trans s4)).append (.cons (jE hu) .nil)
  |false=>
   refine eP ⟨⟨[_],rfl,rfl⟩,sm.trans s3,?_⟩;show bG K H3 _ ((((aQ.take (i+1)).filter g).map f).map cG);rw[et,List.filter_cons,hg,ah (by decide),sO,gY];exact h.mono s3
 ·rintro H2 ZS sm hZ lz l5;rw[nQ (by lia)]at hZ;exact done H2 ZS sm hZ lz l5
theorem UM{D:Ends}{p:Int}{a b:Addr}{l m:Nat}{aQ:LL}{r':Nat}{bJ:LL}{e:Nat}{H:Hp}(pp:p∈c7)(hf:di K H a l m aQ)(eX:di K H b m r' bJ)(b1:l≤100)(b2:m≤100)(b4:r'≤100)(he:e≤200)(z1:aQ.length≤400)(z2:bJ.length≤400)(hR:cj p (l+m+e) aQ)(fo:cj p (m+r'+e) bJ)
  (q:∀v H',aM H H'→di K H' v l r' (nv p l m r' aQ bJ)→D.rt (.ref v) H'):Ae K D [some (.int p),some (.ref a),some (.ref b),none,none] H:=by
 have nk:(1000:Nat)≤sizeLine:=by decide
 have p0:0<p:=by have:=gI p pp;lia
 have hF:=zZ p0 hR fo;have RO:=ng pp hF;have cA:=zB hF;obtain⟨t,RS,h1,h2,h3⟩:=id hf;obtain⟨t',Kk,ot,uk,um⟩:=id eX;unfold Ae;refine gK (j:=1) rfl h1 rfl H (.refl _) _ ?_;refine⟨_,rfl,_,rfl,_,rfl,_,rfl,p,a,b,l,m,aQ,r',bJ,e,rfl,pp,hf,eX,b1,b2,b4,he,z1,z2,hR,fo,λlf H1 ZS s1 oy hZ=>?_⟩;refine⟨p,lf,true,ZS,nu p l m r' aQ bJ,m+(l+r')+e,rfl,pp,.of oy,hZ,by unfold nu;rw[bQ,bz,bz];lia,by lia,hF,λt2 H2 DS s2 fI wB=>?_⟩;refine⟨t2,rfl,⟨_,fI⟩,?_⟩;have sA:=s1.trans s2;refine UL (g:=ox m) (f:=λrow=>row.drop m) (cp:=[some (.int (m:Int))]) fI wB (by lia) (λrow ra H3 iQ s3 dy R UN=>?_) (λrow ra H3 iQ s3 dy=>?_) ?_
 ·have hl:=(RO.rws row iQ).1;refine jy (K:=K) (ms:=row.take m) (jc rfl dy) l6 (ie (gJ rfl)) (pF (by lia)) H3 (.refl _) _ λu H4 s4 hu=>?_;exact⟨u,row.take m,rfl,hu,_,rfl,UN H4 s4⟩
 ·have hl:=(RO.rws row iQ).1;exact jy (K:=K) (jc rfl dy) (ie (gJ rfl)) l6 (oo (by lia))
 intro H3 YS s3 hY lb jL;have sB:aM H2 (upd H3 lb (.lst YS)):=s3.trans (.upd jL);have qh:(upd H3 lb (.lst YS)) lb=some (.lst YS):=aX;have ow:=hY.mono (aM.upd jL (o:=.lst YS));generalize upd H3 lb (.lst YS)=H4 at sB qh ow ⊢;have sC:=sA.trans sB;refine gK (j:=0) rfl (sC.bE h1) rfl H4 (.refl _) _ ?_;refine gK (j:=1) rfl (sC.bE ot) rfl H4 (.refl _) _ ?_;refine⟨_,rfl,lb,YS,rfl,.inl ⟨.of qh,λtt Km=>⟨(by show 3≤sizeLine;lia),λv hv=>?_⟩⟩⟩;have sv:=(aM.upd (o:=.tup YS) Km).trans (aM.upd hv (o:=.tup [.int (l:Int),.int (r':Int),.ref tt]));exact q v _ (sC.trans sv) ⟨tt,YS,.of aX,(aM.upd hv).bE (.of aX),ow.mono sv⟩
theorem UO{f fD fC:Addr}{fd fH lj:FuncData}(F:cC K "form_of_then" "form_of_then" zq f fd)(T:Txt mg)
  (GD:bu P w K mg base br 3 fD fH ["p","rows"] (pA K)) (kD:Kp K fD) (bD:Binds K fH ["p","rows"] []) (mD:Mg mg "reduced" fD)
  (GC:bu P w K mg base br 1 fC lj ["p","one","other"] (D7 K)) (kC:Kp K fC) (bC:Binds K lj ["p","one","other"] []) (mC:Mg mg "facing" fC):bu P w K mg base br 4 f fd ["p","one","other"] (D8 K):=by
 refine F.ok D9 (λvs H Q E h=>?_) (λbV A outer s H vs Q E hr h=>?_)
 ·obtain⟨p,a,b,l,r,aQ,r',bJ,e,rfl,_⟩:=h;rfl
 ·obtain⟨p,a,b,l,m,aQ,r',bJ,e,rfl,pp,hf,eX,b1,b2,b4,he,z1,z2,hR,fo,q⟩:=h;have iN:dt 1 _:=hr.mono (by decide);refine⟨Ae K,?_,?_⟩
  ·unfold Ae;refine bh ?_ ?_
   ·exact bY (i:=3) D9.nd rfl (Or.inr rfl) (cf (cJ K rfl) (pv 1) aU (λ_ _=>rfl))
   refine bh ?_ ?_
   ·refine mY (N:=["row","between"]) (own:=1) (caps:=[3]) (i:=4) (te:=Eb K) (tt:=Ea K) rfl D9.nd rfl rfl ?_ ?_ ?_ ?_ ?_
    ·exact lQ K rfl (cT GD hr rfl mD kD bD .nil cU (aL (pv 0) (aL (cT GC iN rfl mC kC bC .nil cU (aL (pv 0) (aL (pv 1) (aL (pv 2) aR)))) aR)))
    ·exact(show du UJ (bx zq) ["row","between"] 1 [3] _ from .mk' (by decide +kernel))
    ·exact λ_ _ _ _ _=>cq (i:=0) UA rfl (.inl rfl)
    ·intro _ _ _ _ _;unfold Ea;exact tH (vx (qQ (gm (R9 K rfl rfl) rfl T.any Rv (aL (eN (fN K rfl) (pv 0) gn (dP (pv 1))) aR))))
    ·intro _ _ _ _ _;unfold Eb;exact eN (fN K rfl) (pv 0) (dP (pv 1)) gn
   refine bK ?_;refine cQ (te:=eB (aW (df K 1 0) (aW (df K 2 1) (aW (fE (uo K) (aW (aO 4) bo)) bo)))) ?_;refine cB ?_;refine aL ?_ ?_ ?_
   ·exact cf (cJ K rfl) (pv 1) aU (λ_ _=>rfl)
   ·refine aL ?_ ?_ ?_
    ·exact cf (cJ K rfl) (pv 2) aU (λ_ _=>rfl)
    ·refine aL ?_ aR ?_
     ·exact j6 (ph K rfl) rfl T.tuple mZ (aL (pv 4) aR)
     ·rfl
    ·rfl
   ·rfl
  ·exact UM pp hf eX b1 b2 b4 he z1 z2 hR fo q
end
section
variable{P:Program}{w:World}{K:Frag}{mg:Str→Option Value}{base:Heap}
inductive pI(K:Frag)(p:Int)(x:Str)(ps:List V)(H:Hp)(Q:VK):Prop where
 |old (h:zS K p x ps H Q):pI K p x ps H Q
 |dO (a b:Addr) (l r:Nat) (aQ:LL) (l' r':Nat) (bJ:LL) (e:Nat) (hx:x="beside") (hp:ps=[.ref a,.ref b]) (hf:di K H a l r aQ) (eX:di K H b l' r' bJ) (b1:l≤100) (b2:r≤100) (b3:l'≤100) (b4:r'≤100) (he:e≤200) (z1:aQ.length≤400) (z2:bJ.length≤400) (hR:cj p (l+r+e) aQ) (fo:cj p (l'+r'+e) bJ)
   (q:∀v H',aM H H'→di K H' v (l+l') (r+r') (dw p (nt l r l' r' aQ bJ))→Q (.ref v) H'):pI K p x ps H Q
 |bj (a b:Addr) (l m:Nat) (aQ:LL) (r':Nat) (bJ:LL) (e:Nat) (hx:x="then") (hp:ps=[.ref a,.ref b]) (hf:di K H a l m aQ) (eX:di K H b m r' bJ) (b1:l≤100) (b2:m≤100) (b4:r'≤100) (he:e≤200) (z1:aQ.length≤400) (z2:bJ.length≤400) (hR:cj p (l+m+e) aQ) (fo:cj p (m+r'+e) bJ)
   (q:∀v H',aM H H'→di K H' v l r' (nv p l m r' aQ bJ)→Q (.ref v) H'):pI K p x ps H Q
def Ec(K:Frag):Sp:=λvs H Q _=>∃(p:Int)(x:Str)(pa:Addr)(ps:List V),vs=[.int p,.str x,.ref pa]∧p∈c7∧H pa=some (.lst ps)∧pI K p x ps H Q
abbrev ur(K:Frag)(i:Nat)(j:Int):TE:=bI (n5 K) (aO i) (tC (.int j))
abbrev Af(x:Str):TT:=gs (bI lJ (aO 1) (tC (.str x)))
def Kn(K:Frag):TE:=fw (D3 K) [] E0 (aW (aO 0) (aW (ur K 2 0) bo))
def Ko(K:Frag):TE:=fw (D6 K) [] E0 (aW (aO 0) (aW (ur K 2 0) (aW (ur K 2 1) bo)))
def Kq(K:Frag):TE:=fw (D8 K) [] E0 (aW (aO 0) (aW (ur K 2 0) (aW (ur K 2 1) bo)))
def Ed(K:Frag):TE:=eB (aW (tC (.int 1)) (aW (tC (.int 1)) (aW (eB (aW (eB (aW (tC (.int 1)) (aW (ur K 2 0) bo))) bo)) bo)))
def Ee(K:Frag)(aB:Addr):TE:=gv K (fw (DZ K) [] E0 (aW (eB (aW (aO 1) bo)) bo)) (eB (aW (JB aB (ib K aB) (tC (.ref aB)) (aO 1)) bo))
def Ag(K:Frag)(aB:Addr):TS:=bZ (eU (Af "back") (eA (Kn K)) gR) (bZ (eU (Af "beside") (eA (Ko K)) gR) (bZ (eU (Af "then") (eA (Kq K)) gR) (bZ (eU (Af "times") (eA (Ed K)) gR) (eA (Ee K aB)))))
theorem UP:("beside":Str) ≠ "back":=by decide +kernel
theorem UQ:("then":Str) ≠ "back":=by decide +kernel
theorem UR:("then":Str) ≠ "beside":=by decide +kernel
theorem US{D:Ends}{aS aB:Addr}{p:Int}{x:Str}{pa:Addr}{ps:List V}{H:Hp}(B:lY K mg aS aB)(pp:p∈c7)(iz:H pa=some (.lst ps))(A:pI K p x ps H D.rt):Ag K aB D [some (.int p),some (.str x),some (.ref pa)] H:=by
 unfold Ag;cases A with
 |dO a b l r aQ l' r' bJ e hx hp hf eX b1 b2 b3 b4 he z1 z2 hR fo q=>
  subst hx hp;refine⟨_,rfl,rfl,_,rfl,kg UP ⟨_,rfl,rfl,_,rfl,pG ?_⟩⟩;exact⟨_,rfl,_,rfl,pa,_,0,_,rfl,rfl,.of iz,cH (j:=0) rfl,_,rfl,pa,_,1,_,rfl,rfl,.of iz,cH (j:=1) rfl,p,a,b,l,r,aQ,l',r',bJ,e,rfl,pp,hf,eX,b1,b2,b3,b4,he,z1,z2,hR,fo,q⟩
 |bj a b l m aQ r' bJ e hx hp hf eX b1 b2 b4 he z1 z2 hR fo q=>
  subst hx hp;refine⟨_,rfl,rfl,_,rfl,kg UQ ⟨_,rfl,rfl,_,rfl,kg UR ⟨_,rfl,rfl,_,rfl,pG ?_⟩⟩⟩;exact⟨_,rfl,_,rfl,pa,_,0,_,rfl,rfl,.of iz,cH (j:=0) rfl,_,rfl,pa,_,1,_,rfl,rfl,.of iz,cH (j:=1) rfl,p,a,b,l,m,aQ,r',bJ,e,rfl,pp,hf,eX,b1,b2,b4,he,z1,z2,hR,fo,q⟩
 |old A=>
  cases A with
  |back a l r e aQ hx hp hf hl jw he hz hR q=>
   subst hx hp;refine⟨_,rfl,rfl,_,rfl,pG ?_⟩;exact⟨_,rfl,_,rfl,pa,_,0,_,rfl,rfl,.of iz,cH (j:=0) rfl,p,a,l,r,e,aQ,rfl,pp,hf,hl,jw,he,hz,hR,q⟩
  |times n hx hp q=>
   subst hx hp;refine⟨_,rfl,rfl,_,rfl,kg Ub ⟨_,rfl,rfl,_,rfl,kg Uc ⟨_,rfl,rfl,_,rfl,kg Ud ⟨_,rfl,rfl,_,rfl,pG ?_⟩⟩⟩⟩;refine⟨_,rfl,pa,_,0,_,rfl,rfl,.of iz,cH (j:=0) rfl,(by show 2≤sizeLine;decide),λt1 g1=>⟨(by show 1≤sizeLine;decide),λt2 g2=>⟨(by show 3≤sizeLine;decide),λt3 g3=>?_⟩⟩⟩;exact q t3 _ ((aM.upd g1).trans ((aM.upd g2).trans (.upd g3))) ⟨t2,[.ref t1],.of aX,(aM.upd g3).bE (.of aX),.cons (jE (r:=[1,n]) ((aM.upd g3).bE ((aM.upd g2).bE (.of aX)))) .nil⟩
  |box l r aQ hx q=>
   obtain⟨n1,n2,n3,n4⟩:=Ua _ hx;refine⟨_,rfl,rfl,_,rfl,kg n1 ⟨_,rfl,rfl,_,rfl,kg n2 ⟨_,rfl,rfl,_,rfl,kg n3 ⟨_,rfl,rfl,_,rfl,kg n4 ?_⟩⟩⟩⟩;obtain⟨_,t,e,ht⟩:=B.at_ hx;refine⟨_,rfl,(by show 1≤sizeLine;decide),λt1 g1=>⟨t1,x,l,r,aQ,rfl,.of aX,hx,λv H1 s1 hv=>?_⟩⟩;refine⟨_,rfl,x,_,rfl,rfl,e,(by show 1≤sizeLine;decide),λt2 g2=>⟨v,t2,_,_,rfl,rfl,(aM.upd g2).bE hv,.of aX,(by show 2+1≤sizeLine;decide),λt3 H3 s3 ud=>?_⟩⟩;obtain⟨RS,k1,k2⟩:=ht H3;exact q t3 H3 ((aM.upd g1).trans (s1.trans ((aM.upd g2).trans s3))) ⟨t,RS,ud,k1,k2⟩
theorem UT{aS aB f fB fS fT fW:Addr}{fd jM jH jv qk:FuncData}(F:cC K "form" "form" Dq f fd)(B:lY K mg aS aB)
  (GB:bu P w K mg base br 4 fB jM ["p","one"] (D3 K)) (kB:Kp K fB) (bB:Binds K jM ["p","one"] []) (mB:Mg mg "form_of_back" fB)
  (GS:bu P w K mg base br 4 fS jH ["p","one","other"] (D6 K)) (kS:Kp K fS) (bS:Binds K jH ["p","one","other"] []) (mS:Mg mg "form_of_beside" fS)
  (GT:bu P w K mg base br 4 fT jv ["p","one","other"] (D8 K)) (kT:Kp K fT) (bT:Binds K jv ["p","one","other"] []) (mT:Mg mg "form_of_then" fT)
  (GW:bu P w K mg base br 5 fW qk ["words"] (DZ K)) (kW:Kp K fW) (bW:Binds K qk ["words"] []) (mW:Mg mg "wires" fW):bu P w K mg base br 6 f fd ["p","word","parts"] (Ec K):=by
 refine F.ok Ue (λvs H Q E h=>?_) (λbV A outer s H vs Q E hr h=>?_)
 ·obtain⟨p,x,pa,ps,rfl,_⟩:=h;rfl
 ·obtain⟨p,x,pa,ps,rfl,pp,iz,D⟩:=h;have Ef:dt 4 _:=hr.mono (by decide);refine⟨Ag K aB,?_,?_⟩
  ·unfold Ag;refine bh ?_ ?_
   ·refine dX ?_ ?_ fg
    ·exact de gF (pv 1) cP (da _)
    ·refine bK ?_;refine cQ (te:=Kn K) ?_;exact cT GB Ef rfl mB kB bB .nil cU (aL (pv 0) (aL (cf (e7 K rfl) (pv 2) aU (λ_ _=>rfl)) aR))
   refine bh ?_ ?_
   ·refine dX ?_ ?_ fg
    ·exact de gF (pv 1) cP (da _)
    ·refine bK ?_;refine cQ (te:=Ko K) ?_;exact cT GS Ef rfl mS kS bS .nil cU (aL (pv 0) (aL (cf (e7 K rfl) (pv 2) aU (λ_ _=>rfl)) (aL (cf (e7 K rfl) (pv 2) aU (λ_ _=>rfl)) aR)))
   refine bh ?_ ?_
   ·refine dX ?_ ?_ fg
    ·exact de gF (pv 1) cP (da _)
    ·refine bK ?_;refine cQ (te:=Kq K) ?_;exact cT GT Ef rfl mT kT bT .nil cU (aL (pv 0) (aL (cf (e7 K rfl) (pv 2) aU (λ_ _=>rfl)) (aL (cf (e7 K rfl) (pv 2) aU (λ_ _=>rfl)) aR)))
   refine bh ?_ ?_
   ·refine dX ?_ ?_ fg
    ·exact de gF (pv 1) cP (da _)
    ·refine bK ?_;refine cQ (te:=Ed K) ?_;unfold Ed;refine cB ?_;refine aL aU ?_ ?_
     ·refine aL aU ?_ ?_
      ·refine aL ?_ aR ?_
       ·refine cB ?_;refine aL ?_ aR ?_
        ·refine cB ?_;refine aL aU ?_ ?_
         ·refine aL ?_ aR ?_
          ·exact cf (e7 K rfl) (pv 2) aU (λ_ _=>rfl)
          ·rfl
         ·exact ug
        ·exact nq
       ·exact nq
      ·exact ug
     ·exact ug
   refine bK ?_;refine cQ (te:=Ee K aB) ?_;unfold Ee;refine aY (dY K rfl) ?_ ?_
   ·exact cT GW hr rfl mW kW bW .nil cU (aL (cB (aL (pv 1) aR)) aR)
   ·refine cB ?_;refine aL ?_ aR ?_
    ·exact JC B.TU (sT (v:=.ref _) rfl B.TQ rfl) (pv 1) (λ_ _=>rfl)
    ·rfl
  ·exact US B pp iz D
end
inductive Drw where
 |box (x:Str) (l r:Nat) (aQ:LL)
 |times (n:Int)
 |back (d:Drw)
 |dO (a b:Drw)
 |bj (a b:Drw)
namespace Drw
noncomputable def bc:Drw→List V
 |box x _ _ _=>[.str x]
 |times n=>[.str "times",.int n]
 |back d=>.str "back"::d.bc
 |dO a b=>.str "beside"::(a.bc++b.bc)
 |bj a b=>.str "then"::(a.bc++b.bc)
noncomputable def dD:Drw→Nat×Nat
 |box _ l r _=>(l,r)
 |times _=>(1,1)
 |back d=>(d.dD.2,d.dD.1)
 |dO a b=>(a.dD.1+b.dD.1,a.dD.2+b.dD.2)
 |bj a b=>(a.dD.1,b.dD.2)
noncomputable abbrev aK(d:Drw):Nat:=d.dD.1
noncomputable abbrev aN(d:Drw):Nat:=d.dD.2
def wf(p:Int):Drw→Prop
 |box x l r aQ=>(x,l,r,aQ)∈fV
 |times n=>0≤n∧n<p
 |back d=>d.wf p
 |dO a b=>a.wf p∧b.wf p
 |bj a b=>a.wf p∧b.wf p∧a.aN=b.aK
noncomputable def aQ(p:Int):Drw→LL
 |box _ _ _ aQ=>aQ
 |times n=>[[1,n]]
 |back d=>dw p ((d.aQ p).map (iP d.aK d.aN))
 |dO a b=>dw p (nt a.aK a.aN b.aK b.aN (a.aQ p) (b.aQ p))
 |bj a b=>nv p a.aK a.aN b.aN (a.aQ p) (b.aQ p)
theorem pos(d:Drw):1≤d.bc.length:=by cases d<;>simp[bc]
end Drw
theorem Ah:∀e∈fV,e.2.1≤2∧e.2.2.1≤2∧e.2.2.2.length≤2∧∀r∈e.2.2.2,r.length=e.2.1+e.2.2.1∧∀x∈r,0≤x∧x<2:=by decide +kernel
namespace Drw
theorem og{p:Int}:∀{d:Drw},d.wf p→d.aK≤d.bc.length+1∧d.aN≤d.bc.length+1
 |box x l r aQ,h=>by
  obtain⟨h1,h2,_⟩:=Ah _ h;exact⟨h1,h2⟩
 |times n,_=>by simp[aK,aN,dD,bc]
 |back d,h=>by
  have:=og (d:=d) h
  simp only[aK,aN,dD,bc,eF]at this ⊢;lia
 |dO a b,h=>by
  have h1:=og (d:=a) h.1;have h2:=og (d:=b) h.2;simp only[aK,aN,dD,bc,eF,bQ]at h1 h2 ⊢;lia
 |bj a b,h=>by
  have h1:=og (d:=a) h.1;have h2:=og (d:=b) h.2.1;simp only[aK,aN,dD,bc,eF,bQ]at h1 h2 ⊢;lia
def sm:Drw→Prop
 |back d=>d.sm
 |dO a b=>a.sm∧b.sm∧a.aK+b.aK≤100∧a.aN+b.aN≤100
 |bj a b=>a.sm∧b.sm
 |_=>True
end Drw
inductive Itm where
 |num (n:Int)
 |cm (d:Drw)
namespace Itm
noncomputable def bc:Itm→List V
 |num n=>[.int n]
 |cm d=>d.bc
noncomputable def head:Itm→V
 |num n=>.int n
 |cm (.box x _ _ _)=>.str x
 |cm (.times _)=>.str "times"
 |cm (.back _)=>.str "back"
 |cm (.dO _ _)=>.str "beside"
 |cm (.bj _ _)=>.str "then"
noncomputable def kids:Itm→List Itm
 |num _=>[]
 |cm (.box _ _ _ _)=>[]
 |cm (.times n)=>[num n]
 |cm (.back d)=>[cm d]
 |cm (.dO a b)=>[cm a,cm b]
 |cm (.bj a b)=>[cm a,cm b]
theorem Ai(t:Itm):t.bc=t.head::t.kids.flatMap bc:=by
 cases t with
 |num n=>rfl
 |cm d=>cases d<;>simp[bc,head,kids,Drw.bc]
theorem pos(t:Itm):1≤t.bc.length:=by rw[Ai];simp
def wf(p:Int):Itm→Prop
 |num _=>True
 |cm d=>d.wf p∧d.sm
end Itm
noncomputable def fY:List Itm→Nat→List Itm
 |ts,0=>ts
 | [],_+1=>[]
 |t::ts,i+1=>fY (t.kids++ts) i
theorem Eg(i:Nat):fY [] i=[]:=by cases i<;>rfl
theorem wG:∀(i:Nat)(ts:List Itm),(fY ts i).flatMap Itm.bc=(ts.flatMap Itm.bc).drop i
 |0,ts=>rfl
 |i+1,[]=>rfl
 |i+1,t::ts=>by
  show(fY (t.kids++ts) i).flatMap Itm.bc=_;rw[wG i,List.flatMap_append,List.flatMap_cons,Itm.Ai,List.cons_append,List.drop_succ_cons]
theorem Kr:∀(i:Nat)(ts:List Itm),fY ts (i+1)=fY (fY ts i) 1
 |0,ts=>rfl
 |i+1,[]=>by rw[Eg,Eg];rfl
 |i+1,t::ts=>by
  show fY (t.kids++ts) (i+1)=fY (fY (t.kids++ts) i) 1;exact Kr i _
theorem Eh{ts:List Itm}{i:Nat}(h:i<(ts.flatMap Itm.bc).length):∃t r,fY ts i=t::r∧(ts.flatMap Itm.bc)[i]?=some t.head∧fY ts (i+1)=t.kids++r:=by
 have e:=wG i ts;cases hs:fY ts i with
 |nil=>
  rw[hs]at e
  have:=ao List.length e
  simp only[List.flatMap_nil,pU,eJ]at this;lia
 |cons t r=>
  refine⟨t,r,rfl,?_,by rw[Kr,hs];rfl⟩;rw[hs,List.flatMap_cons,Itm.Ai,List.cons_append]at e;have z:((ts.flatMap Itm.bc).drop i)[0]?=some t.head:=by rw[← e];rfl
  rwa[List.getElem?_drop,Nat.add_zero]at z
theorem Ei:∀ts:List Itm,ts.length≤(ts.flatMap Itm.bc).length
 | []=>mi _
 |t::ts=>by
  have:=Ei ts
  have:=t.pos
  rw[List.flatMap_cons,bQ,eF];lia
theorem UU{ts:List Itm}:fY ts (ts.flatMap Itm.bc).length=[]:=by
 have e:=Ei (fY ts (ts.flatMap Itm.bc).length);rw[wG,List.drop_length]at e;exact List.eq_nil_of_length_eq_zero (Nat.le_zero.mp e)
theorem UW{ts:List Itm}{i:Nat}:(fY ts i).length≤(ts.flatMap Itm.bc).length:=by
 have e:=Ei (fY ts i);rw[wG,eJ]at e;lia
end S21
namespace S21
open PySem L2 Bw
variable{L bJ:LL}{a row:List Int}{f u v:Fn}{j l' m r' x x':Nat}{p:Int}{s:Nat→Option (Int×Nat)}
theorem UX:∀e∈fV,kf e.1=0:=Ke
theorem UY:kf "beside"=2:=by decide +kernel
theorem UZ:kf "then"=2:=by decide +kernel
noncomputable def bt(s:Nat→Option (Int×Nat))(f:Fn):Fn:=λj=>match s j with
 |some (a,i)=>a*f i
 |none=>0
theorem Ks(h:dR p u v):dR p (bt s u) (bt s v):=λj=>by
 unfold bt;cases s j with
 |none=>exact⟨0,by simp⟩
 |some a=>
  have:p∣a.1*(u a.2-v a.2):=vd (h a.2)
  show p∣a.1*u a.2-a.1*v a.2;rwa[Int.mul_sub]at this
theorem U0{R R':Fn→Prop}(h:∀r,R r→Sp p R' (bt s r))(hv:Sp p R v):Sp p R' (bt s v):=by
 induction hv with
 |zero=>exact Sp.zero.of_eq λj=>by unfold bt;cases s j<;>simp
 | @add v r c _ hr ih=>
  refine(ih.plus c (h r hr)).of_eq λj=>?_;unfold bt;cases s j with
  |none=>simp
  |some a=>
   show a.1*v a.2+c*(a.1*r a.2)=a.1*(v a.2+c*r a.2);rw[Int.mul_add,← Int.mul_assoc,← Int.mul_assoc,mj c]
 |cD _ e ih=>exact .cD ih (Ks e)
noncomputable def jN(w:Fn)(m:Nat):LL→List Nat→Fn
 |r::D,l::ls=>λj=>jN w m D ls j+(if m≤l then w l else 0)*fn r j
 |_,_=>λ_=>0
theorem U1{l:Nat}{r:List Int}(h:∀j,j<l→r.getD j 0=0)(hm:m≤l):ox m r=true:=by
 unfold ox;rw[Bool.not_eq_true',List.any_eq_false];intro x hx;obtain⟨i,hi,rfl⟩:=sM.mp hx;rw[cV]at hi
 have:=h i (by lia)
 rw[List.getElem_take];rw[cF,cE (by lia)]at this;have e:r[i]=0:=this;simp[e]
theorem Kt{p:Int}{w:Fn}{m:Nat}:∀(D:LL)(ls:List Nat),(∀(i:Nat)(r:List Int)(l:Nat),D[i]?=some r→ls[i]?=some l→∀j,j<l→r.getD j 0=0)→Sp p (RS (D.filter (ox m))) (jN w m D ls)
 | [],_,_=>.zero
 |_::_,[],_=>.zero
 |r::D,l::ls,h=>by
  have ih:=Kt (p:=p) (w:=w) (m:=m) D ls λi r' l' h1 h2=>h (i+1) r' l' (by simpa using h1) (by simpa using h2);have sub:Sp p (RS ((r::D).filter (ox m))) (jN w m D ls):=ih.trans λf ⟨q,hq,e⟩=>.mem ⟨q,by
   rw[List.filter_cons];split
   ·exact fu _ hq
   ·exact hq,e⟩
  unfold jN;by_cases hm:m≤l
  ·simp only[hm,if_true];refine Sp.add (w l) sub ⟨r,?_,rfl⟩;rw[List.filter_cons,U1 (h 0 r l rfl rfl) hm,ae rfl];exact cZ
  ·simp only[hm,if_false,Int.zero_mul,Int.add_zero];exact sub
theorem Ku{w:Fn}{m j:Nat}:∀(D:LL)(ls:List Nat),(∀(i:Nat)(r:List Int),D[i]?=some r→r.getD j 0=0)→jN w m D ls j=0
 | [],_,_=>rfl
 |_::_,[],_=>rfl
 |r::D,l::ls,h=>by
  show jN w m D ls j+_*r.getD j 0=0;rw[Ku D ls λi r' hr=>h (i+1) r' (by simpa using hr),h 0 r rfl];simp
theorem U2{w:Fn}{k:Nat}:∀(D:LL)(ls:List Nat),D.length=ls.length→ls[k]?=some j→(∀(i:Nat)(r:List Int),D[i]?=some r→r.getD j 0=if i=k then 1 else 0)→jN w m D ls j=if m≤j then w j else 0:=by
 induction k with
 |zero=>
  intro D ls hl hk h
  match D,ls,hl,hk with
  | [],[],_,hk=>simp at hk
  |r::D,l::ls,_,hk=>
   cases hk;show jN w m D ls j+(if m≤j then w j else 0)*r.getD j 0=_
   rw[Ku D ls λi r' hr=>by simpa using h (i+1) r' (by simpa using hr),h 0 r rfl];simp
 |succ k ih=>
  intro D ls hl hk h
  match D,ls,hl,hk with
  | [],[],_,hk=>simp at hk
  |r::D,l::ls,hl,hk=>
   show jN w m D ls j+_*r.getD j 0=_;rw[ih D ls (by simpa using hl) (by simpa using hk) λi r' hr=>by simpa using h (i+1) r' (by simpa using hr),h 0 r rfl];simp
theorem U3{n:Nat}{D:LL}{ls:List Nat}{w:Fn}(E:js n n D ls)(h:Sp p (RS D) w)(hz:∀j,j<m→p∣w j):Sp p (RS (D.filter (ox m))) w:=by
 have s1:Sp p (RS (D.filter (ox m))) (jN w m D ls):=Kt D ls λi r l h1 h2=>(E.one i r l h1 h2).2;have s2:Sp p (RS D) (jN w m D ls):=s1.trans λf ⟨q,hq,e⟩=>.mem ⟨q,(lD.mp hq).1,e⟩;have s3:Sp p (RS D) (λj=>w j + -1*jN w m D ls j):=h.plus (-1) s2;have z:=E.lead.zero (E.sp s3) λl r hl hr=>by
  obtain⟨i,h1,h2⟩:=tR hr;have e:=U2 (w:=w) (m:=m) (k:=i) D ls E.len.symm h2 λi' r' jw=>by
   by_cases ei:i'=i
   ·subst ei;rw[ae rfl];exact(E.one i' r' l jw h2).1
   ·rw[ah ei];exact E.alone i i' r' l (λz=>ei z.symm) jw h2
  show p∣w l + -1*jN w m D ls l;rw[e];by_cases hm:m≤l
  ·rw[ae hm];exact⟨0,by lia⟩
  ·rw[ah hm]
   have:=hz l (by lia)
   simpa using this
 refine .cD s1 λj=>?_
 have:=Int.dvd_neg.mpr (z j)
 rwa[show -(w j + -1*jN w m D ls j)=jN w m D ls j-w j by lia]at this
theorem uv{b:List Int}:(a++b).getD j 0=if j<a.length then a.getD j 0 else b.getD (j-a.length) 0:=by
 by_cases h:j<a.length
 ·rw[ae h,cF,gz h,cF]
 ·rw[ah h,cF,gZ (by lia),cF]
theorem wH{k:Nat}:(a.take k).getD j 0=if j<k then a.getD j 0 else 0:=by
 rw[cF,List.getElem?_take];by_cases h:j<k
 ·rw[ae h,ae h,cF]
 ·rw[ah h,ah h];rfl
theorem rM{k:Nat}:(a.drop k).getD j 0=a.getD (k+j) 0:=by
 rw[cF,List.getElem?_drop,cF]
theorem Aj{k:Nat}:(List.replicate k (0:Int)).getD j 0=0:=by
 rw[cF,vc];split<;>rfl
noncomputable def jz(l r:Nat)(j:Nat):Option (Int×Nat):=if j<r then some (1,l+j)else if j<r+l then some (1,j-r)else some (1,j)
noncomputable def iA(l r l' r':Nat)(j:Nat):Option (Int×Nat):=if j<l then some (1,j)else if j<l+l' then none else if j<l+l'+r then some (1,j-l')else if j<l+l'+r+r' then none else some (1,j-l' - r')
noncomputable def iB(l r l':Nat)(j:Nat):Option (Int×Nat):=if j<l then none else if j<l+l' then some (1,j-l)else if j<l+l'+r then none else some (1,j-l-r)
noncomputable def gM(l m r':Nat)(j:Nat):Option (Int×Nat):=if j<m then some (1,l+j)else if j<m+l then some (1,j-m)else if j<m+l+r' then none else some (1,j-r')
noncomputable def gN(l m:Nat)(j:Nat):Option (Int×Nat):=if j<m then some (-1,j)else if j<m+l then none else some (1,j-l)
noncomputable def uw(m:Nat)(j:Nat):Option (Int×Nat):=some (1,m+j)
theorem U4{l r:Nat}(h:row.length=l+r+x)(j:Nat):fn (iP l r row) j=bt (jz l r) (fn row) j:=by
 unfold fn iP bt jz;have e1:((row.drop l).take r).length=r:=by rw[cV,eJ];lia
 have e2:(row.take l).length=l:=by rw[cV];lia
 rw[uv,e1,uv,e2,wH,wH,rM,rM];by_cases h1:j<r
 ·simp only[h1,if_true,fe]
 ·by_cases h2:j<r+l
  ·simp only[h1,h2,if_true,if_false,show j-r<l by lia,fe]
  ·simp only[h1,h2,if_false,show ¬j-r<l by lia,fe,show l+r+(j-r-l)=j by lia]
theorem Kv{l r:Nat}(h:row.length=l+r+x)(j:Nat):fn (qf l r l' r' row) j=bt (iA l r l' r') (fn row) j:=by
 unfold fn qf bt iA;have e1:(row.take l).length=l:=by rw[cV];lia
 have e2:((row.drop l).take r).length=r:=by rw[cV,eJ];lia
 simp only[uv,bQ,ee,e1,e2,wH,rM,Aj];by_cases h1:j<l
 ·simp only[h1,if_true,show j<l+l' by lia,show j<l+l'+r by lia,show j<l+l'+r+r' by lia,fe]
 ·by_cases h2:j<l+l'
  ·simp only[h1,h2,if_true,if_false,show j<l+l'+r by lia,show j<l+l'+r+r' by lia]
  ·by_cases h3:j<l+l'+r
   ·simp only[h1,h2,h3,if_true,if_false,show j<l+l'+r+r' by lia,show j-(l+l')<r by lia,fe,show l+(j-(l+l'))=j-l' by lia]
   ·by_cases h4:j<l+l'+r+r'
    ·simp only[h1,h2,h3,h4,if_true,if_false]
    ·simp only[h1,h2,h3,h4,if_false,fe,show l+r+(j-(l+l'+r+r'))=j-l' - r' by lia]
theorem Kw{l r:Nat}(h:row.length=l'+x)(j:Nat):fn (qg l r l' row) j=bt (iB l r l') (fn row) j:=by
 unfold fn qg bt iB;have e1:(row.take l').length=l':=by rw[cV];lia
 simp only[uv,bQ,ee,e1,wH,rM,Aj];by_cases h1:j<l
 ·simp only[h1,if_true,show j<l+l' by lia,show j<l+l'+r by lia]
 ·by_cases h2:j<l+l'
  ·simp only[h1,h2,if_true,if_false,show j<l+l'+r by lia,show j-l<l' by lia,fe]
  ·by_cases h3:j<l+l'+r
   ·simp only[h1,h2,h3,if_true,if_false]
   ·simp only[h1,h2,h3,if_false,fe,show l'+(j-(l+l'+r))=j-l-r by lia]
theorem Kx{l:Nat}(h:row.length=l+m+x)(j:Nat):fn (qi l m r' row) j=bt (gM l m r') (fn row) j:=by
 unfold fn qi bt gM;have e1:(row.take l).length=l:=by rw[cV];lia
 have e2:((row.drop l).take m).length=m:=by rw[cV,eJ];lia
 simp only[uv,bQ,ee,e1,e2,wH,rM,Aj];by_cases h1:j<m
 ·simp only[h1,if_true,show j<m+l by lia,show j<m+l+r' by lia,fe]
 ·by_cases h2:j<m+l
  ·simp only[h1,h2,if_true,if_false,show j<m+l+r' by lia,show j-m<l by lia,fe]
  ·by_cases h3:j<m+l+r'
   ·simp only[h1,h2,h3,if_true,if_false]
   ·simp only[h1,h2,h3,if_false,fe,show l+m+(j-(m+l+r'))=j-r' by lia]
theorem U5(j:Nat):fn (row.drop m) j=bt (uw m) (fn row) j:=by
 unfold fn bt uw;rw[rM];simp
theorem Ky{l:Nat}(h:row.length=m+x):dR p (fn (qj p l m row)) (bt (gN l m) (fn row)):=λj=>by
 unfold fn qj bt gN;have e1:(((row.take m).map λn=>(-n)%p)).length=m:=by rw[bz,cV];lia
 simp only[uv,bQ,ee,e1,rM,Aj];by_cases h1:j<m
 ·have e2:((row.take m).map λn=>(-n)%p).getD j 0=(-(row.getD j 0))%p:=by
   have hj:j<(row.take m).length:=by rw[cV];lia
   rw[cF,eI,cE hj,cF,cE (by lia:j<row.length),List.getElem_take];rfl
  simp only[h1,if_true,show j<m+l by lia,e2]
  have:=n9 p (-(row.getD j 0))
  rwa[show -(row.getD j 0)=-1*row.getD j 0 by lia]at this ⊢
 ·by_cases h2:j<m+l
  ·simp only[h1,h2,if_true,if_false];exact⟨0,by lia⟩
  ·simp only[h1,h2,if_false,fe,show m+(j-(m+l))=j-l by lia];exact⟨0,by lia⟩
theorem U6{c:Int}(j:Nat):bt s (λi=>u i+c*v i) j=bt s u j+c*bt s v j:=by
 unfold bt;cases s j with
 |none=>simp
 |some a=>
  show a.1*(u a.2+c*v a.2)=a.1*u a.2+c*(a.1*v a.2);rw[Int.mul_add,← Int.mul_assoc,← Int.mul_assoc,mj c]
theorem ny{g:List Int→List Int}(hg:∀r∈L,dR p (fn (g r)) (bt s (fn r))):Sp p (RS (L.map g)) f↔∃u,Sp p (RS L) u∧dR p (bt s u) f:=by
 constructor
 ·intro h;induction h with
  |zero=>exact⟨_,.zero,λj=>⟨0,by unfold bt;cases s j<;>simp⟩⟩
  | @add v r c _ hr ih=>
   obtain⟨u,hu,e⟩:=ih;obtain⟨q,hq,rfl⟩:=hr;obtain⟨r0,zI,rfl⟩:=dU.mp hq;refine⟨_,hu.add c ⟨r0,zI,rfl⟩,λj=>?_⟩;rw[U6];have h1:=e j;have h2:p∣c*(fn (g r0) j-bt s (fn r0) j):=vd (hg r0 zI j);have h3:=jT h1 h2;rwa[show bt s u j-v j-c*(fn (g r0) j-bt s (fn r0) j)=bt s u j+c*bt s (fn r0) j-(v j+c*fn (g r0) j) by rw[Int.mul_sub];lia]at h3
  |cD _ e ih=>
   obtain⟨u,hu,e'⟩:=ih;exact⟨u,hu,e'.trans e⟩
 ·rintro⟨u,hu,e⟩;refine .cD (U0 (s:=s) (R':=RS (L.map g)) (λr ⟨q,hq,er⟩=>?_) hu) e;rw[er];exact .cD (pq (List.mem_map_of_mem hq)) (hg q hq)
theorem Ej{L':LL}:Sp p (RS (L++L')) f↔∃u v,Sp p (RS L) u∧Sp p (RS L') v∧dR p (λj=>u j+v j) f:=by
 constructor
 ·intro h;induction h with
  |zero=>exact⟨_,_,.zero,.zero,λj=>⟨0,by simp⟩⟩
  | @add v r c _ hr ih=>
   obtain⟨u,v',hu,hv,e⟩:=ih;obtain⟨q,hq,rfl⟩:=hr;rcases(dZ.mp hq)with z|z
   ·refine⟨_,v',hu.add c ⟨q,z,rfl⟩,hv,λj=>?_⟩
    have:=e j
    dsimp only at this ⊢;rwa[show u j+c*fn q j+v' j-(v j+c*fn q j)=u j+v' j-v j by lia]
   ·refine⟨u,_,hu,hv.add c ⟨q,z,rfl⟩,λj=>?_⟩
    have:=e j
    dsimp only at this ⊢;rwa[show u j+(v' j+c*fn q j)-(v j+c*fn q j)=u j+v' j-v j by lia]
  |cD _ e ih=>
   obtain⟨u,v',hu,hv,e'⟩:=ih;exact⟨u,v',hu,hv,e'.trans e⟩
 ·rintro⟨u,v,hu,hv,e⟩;have h1:Sp p (RS (L++L')) u:=oi (λr hr=>pq (mh _ hr)) hu;have h2:Sp p (RS (L++L')) v:=oi (λr hr=>pq (iU _ hr)) hv;exact .cD ((h1.plus 1 h2).of_eq λj=>by rw[fe]) e
theorem Ak{n:Nat}(pp:p∈c7)(h:cj p n L):Sp p (RS (dw p L)) f↔Sp p (RS L) f:=⟨oi (ng pp h).sub,oi (ng pp h).sup⟩
section
variable{p:Int}{f:Fn}
theorem kh(h:∀j,u j=v j):dR p u v:=λj=>⟨0,by rw[h j];lia⟩
theorem Kz{l r:Nat}(f:Fn)(j:Nat):bt (jz l r) (bt (jz r l) f) j=f j:=by
 unfold bt jz;by_cases h1:j<r
 ·simp only[h1,if_true,show ¬l+j<l by lia,if_false,show l+j<l+r by lia,fe,show l+j-l=j by lia]
 ·by_cases h2:j<r+l
  ·simp only[h1,h2,if_true,if_false,show j-r<l by lia,fe,show r+(j-r)=j by lia]
  ·simp only[h1,h2,if_false,show ¬j<l by lia,show ¬j<l+r by lia,fe]
theorem U7{l r:Nat}{aQ:LL}(h:cj p (l+r+x) aQ):Sp p (RS (aQ.map (iP l r))) f↔Sp p (RS aQ) (bt (jz r l) f):=by
 rw[ny (s:=jz l r) (λq hq=>kh (U4 (x:=x) (h q hq).1))];constructor
 ·rintro⟨u,hu,e⟩;refine .cD hu ?_;exact(kh λj=>(Kz (l:=r) (r:=l) u j).symm).trans (Ks e)
 ·intro h;exact⟨_,h,kh (Kz f)⟩
theorem U8{l r:Nat}{aQ:LL}(h:cj p (l+r+x) aQ)(h':cj p (l'+r'+x') bJ) :
  Sp p (RS (nt l r l' r' aQ bJ)) f↔∃u v,Sp p (RS aQ) u∧Sp p (RS bJ) v∧dR p (λj=>bt (iA l r l' r') u j+bt (iB l r l') v j) f:=by
 unfold nt;rw[Ej];constructor
 ·rintro⟨u,v,hu,hv,e⟩;obtain⟨u0,Ek,eu⟩:=(ny (s:=iA l r l' r') (λq hq=>kh (Kv (x:=x) (h q hq).1))).mp hu;obtain⟨v0,El,ev⟩:=(ny (s:=iB l r l') (λq hq=>kh (Kw (x:=r'+x') (by rw[(h' q hq).1];lia)))).mp hv;refine⟨u0,v0,Ek,El,λj=>?_⟩
  have:=oR (oR (eu j) (ev j)) (e j)
  dsimp only at this ⊢;rwa[show bt (iA l r l' r') u0 j-u j+(bt (iB l r l') v0 j-v j)+(u j+v j-f j)=bt (iA l r l' r') u0 j+bt (iB l r l') v0 j-f j by lia]at this
 ·rintro⟨u,v,hu,hv,e⟩;exact⟨_,_,(ny (s:=iA l r l' r') (λq hq=>kh (Kv (x:=x) (h q hq).1))).mpr ⟨u,hu,.refl _ _⟩,(ny (s:=iB l r l') (λq hq=>kh (Kw (x:=r'+x') (by rw[(h' q hq).1];lia)))).mpr ⟨v,hv,.refl _ _⟩,e⟩
theorem KA{l:Nat}{aQ:LL}(h:cj p (l+m+x) aQ)(h':cj p (m+r'+x') bJ) :
  Sp p (RS (nu p l m r' aQ bJ)) f↔∃u v,Sp p (RS aQ) u∧Sp p (RS bJ) v∧dR p (λj=>bt (gM l m r') u j+bt (gN l m) v j) f:=by
 unfold nu;rw[Ej];constructor
 ·rintro⟨u,v,hu,hv,e⟩;obtain⟨u0,Ek,eu⟩:=(ny (s:=gM l m r') (λq hq=>kh (Kx (x:=x) (h q hq).1))).mp hu;obtain⟨v0,El,ev⟩:=(ny (s:=gN l m) (λq hq=>Ky (x:=r'+x') (by rw[(h' q hq).1];lia))).mp hv;refine⟨u0,v0,Ek,El,λj=>?_⟩
  have:=oR (oR (eu j) (ev j)) (e j)
  dsimp only at this ⊢;rwa[show bt (gM l m r') u0 j-u j+(bt (gN l m) v0 j-v j)+(u j+v j-f j)=bt (gM l m r') u0 j+bt (gN l m) v0 j-f j by lia]at this
 ·rintro⟨u,v,hu,hv,e⟩;exact⟨_,_,(ny (s:=gM l m r') (λq hq=>kh (Kx (x:=x) (h q hq).1))).mpr ⟨u,hu,.refl _ _⟩,(ny (s:=gN l m) (λq hq=>Ky (x:=r'+x') (by rw[(h' q hq).1];lia))).mpr ⟨v,hv,.refl _ _⟩,e⟩
theorem U9{r:List Int}(h:ox m r=true)(hj:j<m):r.getD j 0=0:=by
 unfold ox at h;rw[Bool.not_eq_true',List.any_eq_false]at h;by_cases hl:j<r.length
 ·have hm:r[j]∈r.take m:=sM.mpr ⟨j,by rw[cV];lia,List.getElem_take ..⟩
  have:=h _ hm
  rw[cF,cE hl];simpa using this
 ·rw[cF,iV (by lia)];rfl
theorem Em{w:Fn}(hL:∀r∈L,r.getD j 0=0)(h:Sp p (RS L) w):p∣w j:=by
 induction h with
 |zero=>exact⟨0,by simp⟩
 | @add v r c _ hr ih=>
  obtain⟨q,hq,rfl⟩:=hr;show p∣v j+c*q.getD j 0;rw[hL q hq];simpa using ih
 |cD _ e ih=>
  have:=jT ih (e j)
  rename_i u v _
  rwa[show v j-(v j-u j)=u j by lia]at this
theorem KC{l:Nat}(v:Fn)(h:j<m):bt (gN l m) v j=-v j:=by
 unfold bt gN;simp only[h,if_true];lia
theorem KD{l:Nat}(u:Fn)(h:j<m):bt (gM l m r') u j=u (l+j):=by
 unfold bt gM;simp only[h,if_true,fe]
theorem Va{l N:Nat}{aQ:LL}(pp:p∈c7)(h:cj p (l+m+x) aQ)(h':cj p (m+r'+x') bJ)(hN:cj p N (nu p l m r' aQ bJ)) :
  Sp p (RS (nv p l m r' aQ bJ)) f↔∃u v,Sp p (RS aQ) u∧Sp p (RS bJ) v∧(∀j,j<m→p∣u (l+j)-v j)∧dR p (λj=>bt (gM l m r') u (m+j)+bt (gN l m) v (m+j)) f:=by
 have RO:=ng pp hN;obtain⟨ls,E⟩:=RO.lR;unfold nv;rw[ny (s:=uw m) (λq hq=>kh (λj=>U5 j))];constructor
 ·rintro⟨w,hw,e⟩;have hz:∀j,j<m→p∣w j:=λj hj=>Em (λr hr=>U9 (lD.mp hr).2 hj) hw;have Vb:Sp p (RS (nu p l m r' aQ bJ)) w:=(Ak pp hN).mp (oi (λr hr=>pq (lD.mp hr).1) hw);obtain⟨u,v,hu,hv,ew⟩:=(KA h h').mp Vb;refine⟨u,v,hu,hv,λj hj=>?_,λj=>?_⟩
  ·have h1:=ew j;dsimp only at h1;rw[KC v hj,KD u hj]at h1
   have:=oR h1 (hz j hj)
   rwa[show u (l+j) + -v j-w j+w j=u (l+j)-v j by lia]at this
  ·have h1:=ew (m+j);have h2:=e j;have h3:bt (uw m) w j=w (m+j):=by unfold bt uw;simp
   rw[h3]at h2
   have:=oR h1 h2
   dsimp only at this ⊢;rwa[show bt (gM l m r') u (m+j)+bt (gN l m) v (m+j)-w (m+j)+(w (m+j)-f j)=bt (gM l m r') u (m+j)+bt (gN l m) v (m+j)-f j by lia]at this
 ·rintro⟨u,v,hu,hv,hm,e⟩;refine⟨λj=>bt (gM l m r') u j+bt (gN l m) v j,?_,?_⟩
  ·refine U3 E ((Ak pp hN).mpr ((KA h h').mpr ⟨u,v,hu,hv,.refl _ _⟩)) λj hj=>?_;show p∣bt (gM l m r') u j+bt (gN l m) v j;rw[KC v hj,KD u hj]
   have:=hm j hj
   rwa[show u (l+j) + -v j=u (l+j)-v j by lia]
  ·refine(kh λj=>?_).trans e;unfold bt uw;simp
end
def Drw.eQ(p:Int):Drw→Prop
 | .box x l r aQ=>(x,l,r,aQ)∈fV∨(x=Str.ofString "late"∧l=1∧r=1)
 | .times n=>0≤n∧n<p
 | .back d=>d.eQ p
 | .dO a b=>a.eQ p∧b.eQ p
 | .bj a b=>a.eQ p∧b.eQ p∧a.aN=b.aK
noncomputable def Drw.aJ:Drw→Nat
 | .box x _ _ _=>if x=Str.ofString "late" then 1 else 0
 | .times _=>0
 | .back d=>d.aJ
 | .dO a b=>a.aJ+b.aJ
 | .bj a b=>a.aJ+b.aJ
noncomputable def dE(n i:Nat):List Int:=List.replicate i 0++([1]++List.replicate (n-i-1) 0)
noncomputable def Drw.dz(p:Int)(w:Nat):Nat→Drw→LL
 |c,.box x _ _ aQ=>if x=Str.ofString "late" then[[1,0]++dE (2*w) (w+c),[0,1]++dE (2*w) c]else aQ.map (·++List.replicate (2*w) 0)
 |_,.times n=>[[1,n]++List.replicate (2*w) 0]
 |c,.back d=>dw p ((Drw.dz p w c d).map (iP d.aK d.aN))
 |c,.dO a b=>dw p (nt a.aK a.aN b.aK b.aN (Drw.dz p w c a) (Drw.dz p w (c+a.aJ) b))
 |c,.bj a b=>nv p a.aK a.aN b.aN (Drw.dz p w c a) (Drw.dz p w (c+a.aJ) b)
theorem ux(p2:2≤p){n i:Nat}(h:i<n):Rw p n (dE n i):=by
 refine⟨?_,λx hx=>?_⟩
 ·unfold dE;rw[bQ,bQ,ee,ee];show i+(1+_)=n;lia
 ·unfold dE at hx;rcases(dZ.mp hx)with h|h
  ·rw[vg h];lia
  ·rcases(dZ.mp h)with h|h
   ·rw[dI.mp h];lia
   ·rw[vg h];lia
theorem Al{n:Nat}{b:List Int}(h:Rw p n a)(k:Rw p m b):Rw p (n+m) (a++b):=⟨by rw[bQ,h.1,k.1],λx hx=>by
 rcases(dZ.mp hx)with z|z
 ·exact h.2 x z
 ·exact k.2 x z⟩
theorem KG(p2:2≤p)(n:Nat):Rw p n (List.replicate n 0):=⟨ee,λx hx=>by rw[vg hx];lia⟩
theorem ql:∀e∈fV,e.1≠Str.ofString "late":=by decide +kernel
theorem Drw.iC{p:Int}(pp:p∈c7){w:Nat}(hw:w≤40):∀{d:Drw}{c:Nat},d.eQ p→d.sm→c+d.aJ≤w→d.aK≤100∧d.aN≤100∧(d.dz p w c).length≤400∧cj p (d.aK+d.aN+2*w) (d.dz p w c)
 | .box x l r aQ,c,h,_,hc=>by
  obtain⟨p2,_⟩:=gI p pp;rcases h with h|⟨rfl,rfl,rfl⟩
  ·have nb:=ql _ h;obtain⟨h1,h2,h3,h4⟩:=Ah _ h;refine⟨ft h1 (by decide),ft h2 (by decide),?_,λq hq=>?_⟩
   ·unfold Drw.dz;rw[ah nb,bz];exact ft h3 (by decide)
   ·unfold Drw.dz at hq;rw[ah nb]at hq;obtain⟨y,hy,rfl⟩:=dU.mp hq;exact Al ⟨(h4 y hy).1,λz hz=>by have:=(h4 y hy).2 z hz;lia⟩ (KG p2 _)
  ·have hc:c+1≤w:=hc;refine⟨by show 1≤100;decide,by show 1≤100;decide,?_,λq hq=>?_⟩
   ·unfold Drw.dz;rw[ae rfl];show 2≤400;decide
   ·unfold Drw.dz at hq;rw[ae rfl]at hq;rcases(dS.mp hq)with rfl|hq
    ·exact Al (n:=2) ⟨rfl,λz hz=>by rcases(dS.mp hz)with rfl|hz;lia;rw[dI.mp hz];lia⟩ (ux p2 (by lia))
    ·rw[dI.mp hq];exact Al (n:=2) ⟨rfl,λz hz=>by rcases(dS.mp hz)with rfl|hz;lia;rw[dI.mp hz];lia⟩ (ux p2 (by lia))
 | .times n,c,h,_,_=>by
  obtain⟨p2,_⟩:=gI p pp;have h:0≤n∧n<p:=h;refine⟨by show 1≤100;decide,by show 1≤100;decide,by show 1≤400;decide,λq hq=>?_⟩;rw[dI.mp hq];exact Al (n:=2) ⟨rfl,λz hz=>by rcases(dS.mp hz)with rfl|hz;lia;rw[dI.mp hz];exact h⟩ (KG p2 _)
 | .back d,c,h,hl,hc=>by
  obtain⟨a1,a2,a3,a4⟩:=Drw.iC pp hw (d:=d) (c:=c) h hl hc;have hS:cj p (d.aN+d.aK+2*w) ((d.dz p w c).map (iP d.aK d.aN)):=λx hx=>by
   obtain⟨y,hy,e⟩:=dU.mp hx;rw[← e];exact D0 (a4 y hy)
  have:=zB hS
  exact⟨a2,a1,ft this (by lia),(ng pp hS).rws⟩
 | .dO a b,c,h,hl,hc=>by
  obtain⟨p2,_⟩:=gI p pp;have hc:c+(a.aJ+b.aJ)≤w:=hc;obtain⟨a1,a2,a3,a4⟩:=Drw.iC pp hw (d:=a) (c:=c) h.1 hl.1 (by lia);obtain⟨b1,b2,b3,b4⟩:=Drw.iC pp hw (d:=b) (c:=c+a.aJ) h.2 hl.2.1 (by lia);have hS:=D5 (by lia) a4 b4;have hz:=zB hS;have h3:=hl.2.2.1;have h4:=hl.2.2.2;exact⟨h3,h4,ft hz (by lia),(ng pp hS).rws⟩
 | .bj a b,c,h,hl,hc=>by
  have hc:c+(a.aJ+b.aJ)≤w:=hc;obtain⟨a1,a2,a3,a4⟩:=Drw.iC pp hw (d:=a) (c:=c) h.1 hl.1 (by lia);obtain⟨b1,b2,b3,b4⟩:=Drw.iC pp hw (d:=b) (c:=c+a.aJ) h.2.1 hl.2 (by lia);have b4:cj p (a.aN+b.aN+2*w) (b.dz p w (c+a.aJ)):=by rw[h.2.2];exact b4
  have hz:=Uw pp a4 b4;exact⟨a1,b2,ft hz (by lia),Uv pp a4 b4⟩
def jd(p:Int)(w:Nat):Nat→Drw→Fn→Prop
 |c,.box x l r aQ,f=>Sp p (RS ((Drw.box x l r aQ).dz p w c)) f
 |c,.times n,f=>Sp p (RS ((Drw.times n).dz p w c)) f
 |c,.back d,f=>jd p w c d (bt (jz d.aN d.aK) f)
 |c,.dO a b,f=>∃u v,jd p w c a u∧jd p w (c+a.aJ) b v∧dR p (λj=>bt (iA a.aK a.aN b.aK b.aN) u j+bt (iB a.aK a.aN b.aK) v j) f
 |c,.bj a b,f=>∃u v,jd p w c a u∧jd p w (c+a.aJ) b v∧(∀j,j<a.aN→p∣u (a.aK+j)-v j)∧dR p (λj=>bt (gM a.aK a.aN b.aN) u (a.aN+j)+bt (gN a.aK a.aN) v (a.aN+j)) f
theorem oz{p:Int}(pp:p∈c7){w:Nat}(hw:w≤40):∀{d:Drw}{c:Nat},d.eQ p→d.sm→c+d.aJ≤w→∀f,Sp p (RS (d.dz p w c)) f↔jd p w c d f
 | .box x l r aQ,c,_,_,_=>λf=>Iff.rfl
 | .times n,c,_,_,_=>λf=>Iff.rfl
 | .back d,c,h,hl,hc=>λf=>by
  obtain⟨_,_,_,hR⟩:=Drw.iC pp hw (d:=d) (c:=c) h hl hc;have hS:cj p (d.aN+d.aK+2*w) ((d.dz p w c).map (iP d.aK d.aN)):=λx hx=>by
   obtain⟨y,hy,e⟩:=dU.mp hx;rw[← e];exact D0 (hR y hy)
  show Sp p (RS (dw p _)) f↔jd p w c d _;rw[Ak pp hS,U7 hR,oz pp hw (d:=d) h hl hc]
 | .dO a b,c,h,hl,hc=>λf=>by
  obtain⟨p2,_⟩:=gI p pp;have hc:c+(a.aJ+b.aJ)≤w:=hc;have c1:c+a.aJ≤w:=by lia
  have c2:c+a.aJ+b.aJ≤w:=by lia
  obtain⟨_,_,_,hA⟩:=Drw.iC pp hw (d:=a) (c:=c) h.1 hl.1 c1;obtain⟨_,_,_,hB⟩:=Drw.iC pp hw (d:=b) (c:=c+a.aJ) h.2 hl.2.1 c2;show Sp p (RS (dw p _)) f↔∃u v,jd p w c a u∧jd p w (c+a.aJ) b v∧_;rw[Ak pp (D5 (by lia) hA hB),U8 hA hB];constructor
  ·rintro⟨u,v,hu,hv,e⟩;exact⟨u,v,(oz pp hw h.1 hl.1 c1 u).mp hu,(oz pp hw h.2 hl.2.1 c2 v).mp hv,e⟩
  ·rintro⟨u,v,hu,hv,e⟩;exact⟨u,v,(oz pp hw h.1 hl.1 c1 u).mpr hu,(oz pp hw h.2 hl.2.1 c2 v).mpr hv,e⟩
 | .bj a b,c,h,hl,hc=>λf=>by
  obtain⟨p2,_⟩:=gI p pp;have hc:c+(a.aJ+b.aJ)≤w:=hc;have c1:c+a.aJ≤w:=by lia
  have c2:c+a.aJ+b.aJ≤w:=by lia
  obtain⟨_,_,_,hA⟩:=Drw.iC pp hw (d:=a) (c:=c) h.1 hl.1 c1;obtain⟨_,_,_,hB⟩:=Drw.iC pp hw (d:=b) (c:=c+a.aJ) h.2.1 hl.2 c2;have KH:cj p (a.aN+b.aN+2*w) (b.dz p w (c+a.aJ)):=by rw[h.2.2];exact hB
  show Sp p (RS (nv p _ _ _ _ _)) f↔∃u v,jd p w c a u∧jd p w (c+a.aJ) b v∧_;rw[Va pp hA KH (zZ (by lia) hA KH)];constructor
  ·rintro⟨u,v,hu,hv,e⟩;exact⟨u,v,(oz pp hw h.1 hl.1 c1 u).mp hu,(oz pp hw h.2.1 hl.2 c2 v).mp hv,e⟩
  ·rintro⟨u,v,hu,hv,e⟩;exact⟨u,v,(oz pp hw h.1 hl.1 c1 u).mpr hu,(oz pp hw h.2.1 hl.2 c2 v).mpr hv,e⟩
def Ok(p:Int)(d:Drw):Prop:=d.wf p∧d.sm
noncomputable def uy(K:Frag)(aS:Addr):Bool:=(match PyProof.Rows.KTD.datumAt (Str.ofString "times") (ib K aS)with|some (.ref t)=>uc K t [1,1] | _=>false) &&
 (PyProof.Rows.KTD.datumAt (Str.ofString "back") (ib K aS)).isNone&&(PyProof.Rows.KTD.datumAt (Str.ofString "beside") (ib K aS)).isNone&&(PyProof.Rows.KTD.datumAt (Str.ofString "then") (ib K aS)).isNone
theorem Vc{K:Frag}{aS:Addr}(h:uy K aS=true):(∃t,PyProof.Rows.KTD.datumAt (Str.ofString "times") (ib K aS)=some (.ref t)∧∀H,aZ K H t [.int 1,.int 1])∧
  PyProof.Rows.KTD.datumAt (Str.ofString "back") (ib K aS)=none∧PyProof.Rows.KTD.datumAt (Str.ofString "beside") (ib K aS)=none∧PyProof.Rows.KTD.datumAt (Str.ofString "then") (ib K aS)=none:=by
 unfold uy at h;simp only[gP,Option.isNone_iff_eq_none]at h;obtain⟨⟨⟨h1,h2⟩,h3⟩,h4⟩:=h;refine⟨?_,h2,h3,h4⟩;split at h1
 ·rename_i t e
  exact⟨t,e,λH=>DU h1 H⟩
 ·exact nomatch h1
end S21
namespace PySem.SeqAt
open MeetsSeq AutoSeq1 SeqRoads2
end PySem.SeqAt
namespace L2
open PySem PySem.Spec PyProof.Rows Bw PySem.SeqAt
end L2
namespace L2
open PySem PySem.Spec PyProof.Rows
section
variable{X:Cx}
def KI(x:V)(H:Hp):Prop:=∃p xs,x=.ref p∧H p=some (.tup xs)
theorem Vd{aI:List (Addr×Obj)}{σ:St}{H:Hp}{s:Shared}{x:V}{v:Value}(I:Inv X aI σ H s)(r:RelV x v)(h:KI x H) :
  s.TypeIs v "tuple"∧∀a,v=.ref a→∃ob,s.heap.get? a=some ob∧ob.dict=none:=by
 obtain⟨p,xs,rfl,hp⟩:=h;cases r;obtain⟨_,its,_,o,e,c,d,n,_⟩:=(show dW X.prog X.w H s.heap p (.tup xs) from I.bH p _ hp)
 exact⟨⟨o,e,c⟩,λa z=>by cases z;exact⟨o,e,d⟩⟩
def uz(r:V→List V→Hp→VK→Prop)(to:TE)(t:TA):TE:=λσ H Q=>to σ H λx H1=>KI x H1∧t σ H1 λxs H2=>r x xs H2 Q
variable{o e:Expr}{es:List Expr}{to:TE}{t:TA}{name:Str}{iH eO:Pos}{id:String}{r:V→List V→Hp→VK→Prop}
theorem En(slot:Slot "tuple" name id)(vF:typeOf (.builtin id)=pure (.type "method_descriptor"))(hm:yo X id r)(ho:PE X o to)(ha:PA X (e::es) t)
  (rh:attributeBase o name X.env (eval o X.env)=eval o X.env:=by rfl)
  (vG:((backTo eO (starEach (e::es) X.env)).all (λx=>!x.1)&&(backToKw eO (keywordEach [] X.env)).all (λx=>x.1.isSome)
   && decide ((e::es).length+([]:List Keyword).length+(if([]:List Keyword).isEmpty then 0 else 1)<30))=true:=by rfl)
  (rj:(iH.endLine==eO.line)=true:=by rfl) (hs:starEach (e::es) X.env=(false,eval e X.env)::starEach es X.env:=by rfl) (Cf:(backTo eO (starEach es X.env)).any (·.1)=false:=by rfl) :
  PE X (.Call (.Attribute o name iH) (e::es) [] eO) (uz r to t):=by
 intro aI s σ H Q I h;refine wpAny_Call_method_late rh vG rj rfl (bj (ho aI s σ H _ I h) λv s1 ⟨x,H1,I1,r1,ty,q1⟩=>?_);obtain⟨h1,h2⟩:=Vd I1 r1 ty;refine⟨"tuple",id,PySem.F.plainAttrs_tuple,slot,vF,h1,h2,?_⟩;have hA:=ha eO aI s1 σ H1 _ I1 q1;rw[hs]at hA ⊢;refine Calls.callWith_builtin (by show(false||(backTo eO (starEach es X.env)).any (·.1))=false;rw[Cf]<;>rfl) (Calls.evalArgs_plain ?_)
 exact bj hA λus s2 ⟨vs,H2,I2,r2,q2⟩=>hm aI s2 σ H2 x vs v us Q I2 r1 r2 q2
noncomputable def Am(z:Str):Value→Bool
 | .str y _=>y==z
 |_=>false
noncomputable def lu:V→Bool
 | .str _=>true
 | .int _=>true
 |_=>false
noncomputable def cO(z:Str)(xs:List V):Nat:=xs.countP λv=>hI v (.str z)
theorem KJ{z:Str}:∀{ys:List V}{us:List Value},Vals ys us→ys.all lu=true→us.countP (Am z)=cO z ys
 | [],_,.nil,_=>rfl
 |y::ys,_,.cons r rr,h=>by
  obtain⟨h1,h2⟩:=Bool.and_eq_true_iff.mp h;have ih:=KJ (z:=z) rr h2;unfold cO at ih ⊢;rw[List.countP_cons,List.countP_cons,ih];cases y with
  |str y=>obtain⟨t,rfl⟩:=r;rfl
  |int y=>obtain⟨t,rfl⟩:=r;rfl
  |_=>cases h1
theorem KL{A:Around}{s:Shared}{z:Str}{t:Tok}:∀{ys:List V}{us:List Value},Vals ys us→ys.all lu=true→∀u∈us,SeqAt.EqAt A s u (.str z t) (Am z u)
 | [],_,.nil,_,u,h=>nomatch h
 |y::ys,_,.cons r rr,h,u,hm=>by
  obtain⟨h1,h2⟩:=Bool.and_eq_true_iff.mp h;rcases(dS.mp hm)with rfl|hm
  ·cases y with
   |str y=>obtain⟨t',rfl⟩:=r;exact SeqAt.EqAt.str_str y t' z t
   |int y=>obtain⟨t',rfl⟩:=r;exact SeqAt.EqAt.int_str y t' z t
   |_=>cases h1
  ·exact KL rr h2 u hm
def uA:V→List V→Hp→VK→Prop:=λx xs H Q=>∃(p:Addr)(ys:List V)(z:Str),x=.ref p∧xs=[.str z]∧H p=some (.tup ys)∧ys.all lu=true∧Q (.int (cO z ys:Nat)) H
theorem Eo:yo X "tuple.count" uA:=by
 intro aI s σ H x xs v us Q I rx rs h;obtain⟨p,ys,z,rfl,rfl,hp,hy,q⟩:=h;cases rx;obtain⟨u,rfl,tu,rfl⟩:=Vals.one rs;obtain⟨_,its,rv,o,e,c,d,n,hd⟩:=(show dW X.prog X.w H s.heap p (.tup ys) from I.bH p _ hp)
 obtain⟨cls,dict,data,slots⟩:=o;cases c;cases hd;refine aD F.slot_tuple_count ⟨_,e,rfl⟩ F.entry_tuple_count (F.args_tuple_count_2 _ _) (PySem.SeqAt.tuple_countAt p its.toArray n dict slots (.str z tu) (Am z)) ⟨e,λy hm=>KL rv hy y (by simpa using hm),?_⟩;refine⟨.int (cO z ys:Nat),H,I.tok _,⟨s.toks,?_⟩,q⟩;show Value.int ((its.toArray.toList.countP (Am z):Nat):Int) s.toks=_;rw[show its.toArray.toList=its from rfl,KJ rv hy]
end
end L2
namespace S21
open PySem L2 Bw
variable{f:Addr}{fd:FuncData}
noncomputable def wI(n:Nat):LL:=(List.range n).map (dE n)
theorem KN(k:Nat)(x:Int):(List.replicate k [V.int x]).flatten=(List.replicate k x).map V.int:=by
 induction k with
 |zero=>rfl
 |succ k ih=>rw[nN,nN,sJ,ih];rfl
def Ep(K:Frag):Sp:=λvs H Q _=>∃(n:Nat)(i:Int),vs=[.int i]∧i=n∧n≤900∧∀l LS H',aM H H'→H' l=some (.lst LS)→bG K H' LS ((wI n).map cG)→Q (.ref l) H'
theorem Ve:(["place","count"]:List Str).Nodup:=by decide +kernel
theorem Vf:c8 ["count"] ["count"] (bx zh):=dJ rfl rfl rfl (by decide +kernel) rfl
theorem Vg(F:cC K "ones" "ones" zh f fd)(T:Txt mg):bu P w K mg base br 1 f fd ["count"] (Ep K):=by
 refine F.ok Vf (λvs H Q E h=>?_) (λbV A outer s H vs Q E hr h=>?_)
 ·obtain⟨n,i,rfl,_⟩:=h;rfl
 ·obtain⟨n,i,rfl,rfl,hn,q⟩:=h;have nk:(1000:Nat)≤sizeLine:=by decide
  refine⟨_,bK (cQ (i9 (N:=["place","count"]) (own:=1) (caps:=[0]) rfl (nX rfl T.range (aL (pv 0) aR)) (show du ["count"] (bx zh) ["place","count"] 1 [0] _ from .mk' (by decide +kernel)) (λ_ _ _ _ _=>cq (i:=0) Ve rfl (.inl rfl)) (λ_ _ _ _ _=>gG) (λ_ _ _ _ _=>aY (dY K rfl) (aY (dY K rfl) (aY (lP K rfl) (cB (aL aU aR)) (pv 0)) (cB (aL aU aR))) (aY (lP K rfl) (cB (aL aU aR)) (aY iZ (aY iZ (pv 1) (pv 0)) aU))))),?_⟩
  refine⟨_,rfl,(n:Int),rfl,by lia,by lia,yM (n:=n) (lo:=0) (cp:=[some (.int (n:Int))]) (λi H' zs=>bG K H' zs (((List.range i).map (dE n)).map cG)) (by lia) .nil (λi H' zs h=>by rw[fQ h,bz,ml];exact ck _) ?_ ?_⟩
  ·rintro i H1 zs hi sm h;rw[oQ];refine kN ⟨by decide,λt1 h1=>⟨_,rfl,t1,(i:Int),_,rfl,rfl,.of aX,by simp,by lia,by lia,(by show 1*((i:Nat):Int).toNat≤sizeLine;lia),λt2 H2 s2 fI=>?_⟩⟩;rw[Int.toNat_natCast,KN]at fI;refine⟨by decide,λt3 h3=>⟨t2,t3,_,_,rfl,rfl,(aM.upd h3).bE fI,.of aX,?_,λt4 H4 s4 uf=>?_⟩⟩
   ·rw[bz,ee];show i+1≤sizeLine;lia
   refine⟨by decide,λt5 h5=>⟨_,rfl,_,rfl,_,_,rfl,rfl,_,_,rfl,rfl,t5,(n:Int)-(i:Int)-1,_,rfl,rfl,.of aX,by simp,by lia,by lia,(by show 1*((n:Int)-(i:Int)-1).toNat≤sizeLine;lia),λt6 H6 s6 wJ=>?_⟩⟩;have e:((n:Int)-(i:Int)-1).toNat=n-i-1:=by lia
   rw[e,KN]at wJ;refine⟨t4,t6,_,_,rfl,rfl,((aM.upd h5).trans s6).bE uf,wJ,?_,λt7 H7 s7 Er=>?_⟩
   ·simp only[bQ,bz,ee,eF,pU];lia
   have wA:=((aM.upd h1).trans s2).trans ((aM.upd h3).trans (s4.trans ((aM.upd h5).trans (s6.trans s7))));refine⟨⟨[_],rfl,rfl⟩,sm.trans wA,?_⟩;have hu:aZ K H7 t7 ((dE n i).map V.int):=by
    unfold dE;rw[← dq,cW,cW];exact Er
   rw[List.range_succ,cW,cW];exact(h.mono wA).append (.cons (jE hu) .nil)
  ·rintro H1 zs sm h lq wK;exact q lq zs _ (sm.trans (.upd wK)) aX (h.mono (.upd wK))
def oA(K:Frag):Sp:=λvs H Q _=>∃(a:Addr)(ns:List Int)(k:Int),vs=[.ref a,.int k]∧cM K H a (ns.map V.int)∧ns.length≤63∧0≤k∧k≤100000∧∀d:Int,0≤d→d<2147483629→Q (.int d) H
theorem pJ:c8 ["script","k","many","cell","turn","mixed"] ["script","k"] (bx Dr):=dJ rfl rfl rfl (by decide +kernel) rfl
theorem Es{ns:List Int}{j:Nat}(h:j<ns.length):(ns.map V.int)[j]?=some (.int (ns.getD j 0)):=by
 rw[eI,cE h,cF,cE h];rfl
def KO(a:Addr)(k m:Int)(H:Hp):St→Hp→Prop:=λσ H'=>H'=H∧∃(c:Int)(s4 s5:Option V),σ=[some (.ref a),some (.int k),some (.int m),some (.int c),s4,s5]
theorem An(F:cC K "_law_draw" "_law_draw" Dr f fd)(T:Txt mg):bu P w K mg base br 1 f fd ["script","k"] (oA K):=by
 refine F.ok pJ (λvs H Q E h=>?_) (λbV A outer s H vs Q E hr h=>?_)
 ·obtain⟨a,ns,k,rfl,_⟩:=h;rfl
 ·obtain⟨a,ns,k,rfl,hq,hz,k0,k1,q⟩:=h;have ex:(ns.map V.int).length=ns.length:=bz _;refine⟨_,bh (bY (i:=2) pJ.nd rfl (.inl rfl) (gm (OQ rfl) rfl T.max S6 (aL aU (aL (aY iZ (gm (jF K rfl) rfl T.len jG (aL (pv 0) aR)) aU) aR)))) (bh (bY (i:=3) pJ.nd rfl (.inl rfl) aU) (bh (dX (de qV (gm (jF K rfl) rfl T.len jG (aL (pv 0) aR)) aU (da _)) (bK (bY (i:=3) pJ.nd rfl (.inl rfl) (cf (e7 K rfl) (pv 0) (aY eW (aY fh aU (pv 1)) (gm (jF K rfl) rfl T.len jG (aL (pv 0) aR))) (λ_ _=>rfl)))) fg) (bh (dX (PW.pt (sV (de qV (gm (jF K rfl) rfl T.len jG (aL (pv 0) aR)) aU (da _)) (vw (de gF (aY eW (cf (e7 K rfl) (pv 0) aU (λ_ _=>rfl)) aU) aU (da _))))) (bh (bY (i:=3) pJ.nd rfl (.inl rfl) (cf (e7 K rfl) (pv 0) (aY fh aU (aY eW (pv 1) (pv 2))) (λ_ _=>rfl))) (bh (jZ kr rfl (nX rfl T.range (aL (gm (OR rfl) rfl T.min S7 (aL (aY x8 (pv 1) (pv 2)) (aL aU aR))) aR)) (cq (i:=4) pJ.nd rfl (.inl rfl)) (bK (bY (i:=3) pJ.nd rfl (.inl rfl) (aY x8 (pv 3) aU)))) (bK (cQ (aY eW (pv 3) aU))))) fg) (bh (bY (i:=5) pJ.nd rfl (.inl rfl) (aY eW (aY j5 (aY fh (aY fh (aY eW (pv 3) aU) aU) (aY j5 aU (aY x8 (pv 1) (pv 2)))) aU) aU)) (bh (bY (i:=5) pJ.nd rfl (.inl rfl) (aY eW (aY j5 (pv 5) (pv 5)) aU)) (bK (cQ (aY eW (aY j5 (pv 5) aU) aU)))))))),?_⟩;refine⟨_,rfl,a,_,rfl,.inl hq,_,_,rfl,rfl,1,_,rfl,?_⟩;have hm:(1:Int)≤(if(((ns.map V.int).length:Int)-1)>1 then(((ns.map V.int).length:Int)-1)else 1)∧(if(((ns.map V.int).length:Int)-1)>1 then(((ns.map V.int).length:Int)-1)else 1)≤63∧(1<ns.length→(if(((ns.map V.int).length:Int)-1)>1 then(((ns.map V.int).length:Int)-1)else 1)=(ns.length:Int)-1):=by
   rw[ex];split<;>lia
  dsimp only[bq];generalize (if(((ns.map V.int).length:Int)-1)>1 then(((ns.map V.int).length:Int)-1)else 1)=m at hm ⊢
  obtain⟨m0,m1,m2⟩:=hm;refine DA (λσ H'=>H'=H∧σ=[some (.ref a),some (.int k),some (.int m),some (.int 0),none,none]) (λN hN=>hN _ _ ⟨rfl,rfl⟩) (λσ0 H0 h0=>?_);obtain⟨rfl,rfl⟩:=h0;refine DA (KO a k m H0) (λN hN=>?_) (λσ1 H1 hJ=>?_)
  ·refine⟨_,rfl,a,_,rfl,.inl hq,_,_,rfl,rfl,_,rfl,j8 (λhc=>?_) (λ_=>hN _ _ ⟨rfl,_,_,_,rfl⟩)⟩;have DK:0<ns.length:=by have:=aH hc;rw[ex]at this;lia
   have KP:(0:Int)<((ns.map V.int).length:Int):=by rw[ex];lia
   have i0:0≤(1+k)%((ns.map V.int).length:Int):=jR _ (by lia);have i1:(1+k)%((ns.map V.int).length:Int)<((ns.map V.int).length:Int):=jS _ KP;obtain⟨j,ej,hj⟩:∃j:Nat,(1+k)%((ns.map V.int).length:Int)=(j:Int)∧j<ns.length:=⟨((1+k)%((ns.map V.int).length:Int)).toNat,by lia,by lia⟩;refine⟨_,rfl,_,rfl,_,_,rfl,rfl,_,rfl,a,_,rfl,.inl hq,_,_,rfl,rfl,KP,a,_,(j:Int),_,rfl,ao V.int ej,hq,cH (Es hj),hN _ _ ⟨rfl,_,_,_,rfl⟩⟩
  obtain⟨rfl,c,s4,s5,rfl⟩:=hJ;refine DA (KO a k m H1) (λN hN=>?_) (λσ2 H2 hJ=>?_)
  ·refine⟨_,rfl,a,_,rfl,.inl hq,_,_,rfl,rfl,_,rfl,j8 (λhc=>?_) (λ_=>eP (hN _ _ ⟨rfl,_,_,_,rfl⟩))⟩;have DK:1<ns.length:=by have:=aH hc;rw[ex]at this;lia
   have em:=m2 DK;refine⟨_,rfl,a,_,0,_,rfl,rfl,hq,cH (j:=0) (Es (by lia)),_,_,rfl,rfl,(by show(0:Int)<2;decide),rfl,_,rfl,j8 (λ_=>?_) (λ_=>hN _ _ ⟨rfl,_,_,_,rfl⟩)⟩;have i0:0≤k%m:=jR _ (by lia);have i1:k%m<m:=jS _ (by lia);refine⟨_,rfl,_,rfl,_,rfl,_,_,rfl,rfl,(by show(0:Int)<m;lia),_,_,rfl,rfl,a,_,((1+k%m).toNat:Int),_,rfl,ao V.int (by lia),hq,cH (Es (by lia)),?_⟩;have d0:0≤k/m:=Int.ediv_nonneg k0 (by lia);refine⟨_,rfl,_,rfl,_,_,rfl,rfl,⟨by show(0:Int)<m;lia,by show m<1073741824;lia⟩,_,60,rfl,?_⟩;have Vh:0≤(if(60:Int)<k/m then 60 else k/m)∧(if(60:Int)<k/m then 60 else k/m)≤60:=by split<;>lia
   obtain⟨r,jw⟩:∃r:Int,(if(60:Int)<k/m then 60 else k/m)=r:=⟨_,rfl⟩
   rw[jw]at Vh;refine⟨r,ao (λz=>[V.int z]) jw,by lia,by lia,qU (n:=r.toNat) (λi σ H'=>H'=H1∧∃c' st,σ=[some (.ref a),some (.int k),some (.int m),some (.int c'),st,s5]) ⟨rfl,ns.getD (1+k%m).toNat 0,s4,rfl⟩ ?_ ?_⟩
   ·rintro i σ H' hi ⟨rfl,c',st,rfl⟩;exact⟨_,rfl,_,_,rfl,rfl,⟨by decide,by decide⟩,rfl,_,_,rfl⟩
   ·rintro σ H' ⟨rfl,c',st,rfl⟩;refine⟨_,rfl,_,_,rfl,rfl,(by show(0:Int)<1000003;decide),q _ (jR _ (by decide)) ?_⟩
    have:=jS c' (show(0:Int)<1000003 by decide)
    lia
  obtain⟨rfl,c,s4,s5,rfl⟩:=hJ;refine⟨_,rfl,_,_,rfl,rfl,(by show(0:Int)<2147483629;decide),_,_,rfl,rfl,_,rfl,_,rfl,_,_,rfl,rfl,⟨by show(0:Int)<m;lia,by show m<1073741824;lia⟩,_,_,rfl,rfl,.inl ⟨by decide,by decide⟩,_,_,rfl,rfl,_,_,rfl,rfl,.inr ⟨by decide,by decide⟩,_,_,rfl,rfl,(by show(0:Int)<2147483629;decide),?_⟩;have y0:0≤(c%2147483629+11+75577*(k/m))*62233%2147483629:=jR _ (by decide);have y1:(c%2147483629+11+75577*(k/m))*62233%2147483629<2147483629:=jS _ (by decide);dsimp only;generalize (c%2147483629+11+75577*(k/m))*62233%2147483629=y at y0 y1 ⊢;refine⟨_,rfl,_,rfl,_,_,rfl,rfl,.inl ⟨by lia,by lia⟩,_,_,rfl,rfl,(by show(0:Int)<2147483587;decide),?_⟩;dsimp only;generalize y*y%2147483587=y2;refine⟨_,rfl,_,_,rfl,rfl,.inr ⟨by decide,by decide⟩,_,_,rfl,rfl,(by show(0:Int)<2147483579;decide),q _ (jR _ (by decide)) ?_⟩
  have:=jS (y2*40487) (show(0:Int)<2147483579 by decide)
  lia
noncomputable def L6:List Int:=[2,3,5,7,11,97]
theorem Vi:∀j:Nat,j<6→∃q,L6[j]?=some q∧q∈c7:=by decide +kernel
def Ao(K:Frag):Sp:=λvs H Q _=>∃(a:Addr)(ns:List Int),vs=[.ref a]∧cM K H a (ns.map V.int)∧ns.length≤63∧∀p H',p∈c7→aM H H'→Q (.int p) H'
theorem Vj:c8 ["script"] ["script"] (bx Ds):=dJ rfl rfl rfl (by decide +kernel) rfl
theorem Vk{fD:Addr}{fH:FuncData}(F:cC K "_law_prime" "_law_prime" Ds f fd)
  (GD:bu P w K mg base br 1 fD fH ["script","k"] (oA K)) (kD:Kp K fD) (bD:Binds K fH ["script","k"] []) (mD:Mg mg "_law_draw" fD):bu P w K mg base br 2 f fd ["script"] (Ao K):=by
 refine F.ok Vj (λvs H Q E h=>?_) (λbV A outer s H vs Q E hr h=>?_)
 ·obtain⟨a,ns,rfl,_⟩:=h;rfl
 ·obtain⟨a,ns,rfl,hq,hz,q⟩:=h;refine⟨_,bK (cQ (cf (e7 K rfl) (gk (aL aU (aL aU (aL aU (aL aU (aL aU (aL aU aR))))))) (aY eW (cT GD hr rfl mD kD bD .nil cU (aL (pv 0) (aL aU aR))) aU) (λ_ _=>rfl))),?_⟩;refine⟨(by show 6≤sizeLine;decide),λl hl=>⟨_,rfl,a,ns,0,rfl,(aM.upd hl).seq hq,hz,by decide,by decide,λd d0 d1=>?_⟩⟩;have e0:0≤d%6:=jR _ (by decide);have e1:d%6<6:=jS _ (by decide);obtain⟨pr,h1,h2⟩:=Vi (d%6).toNat (by lia);refine⟨_,_,rfl,rfl,(by show(0:Int)<6;decide),l,L6.map V.int,((d%6).toNat:Int),.int pr,rfl,ao V.int (by lia),.of aX,cH ?_,q _ _ h2 (.upd hl)⟩;rw[eI,h1];rfl
noncomputable def Ap(n k:Nat):List Int:=List.replicate k 0++[1]++List.replicate (n-k-1) 0
def KQ(K:Frag):Sp:=λvs H Q _=>∃(n k:Nat)(i j:Int),vs=[.int i,.int j]∧i=n∧j=k∧k<n∧n≤900∧jD K H ((Ap n k).map V.int) Q
theorem Vl:c8 ["length","at"] ["length","at"] (bx Dw):=dJ rfl rfl rfl (by decide +kernel) rfl
theorem KR(n:Nat):(List.replicate n [V.int 0]).flatten=(List.replicate n (0:Int)).map V.int:=by rw[JH,List.map_replicate]
theorem Vm(F:cC K "_law_unit" "_law_unit" Dw f fd):bu P w K mg base br 1 f fd ["length","at"] (KQ K):=by
 refine F.ok Vl (λvs H Q E h=>?_) (λbV A outer s H vs Q E hr h=>?_)
 ·obtain⟨n,k,i,j,rfl,_⟩:=h;rfl
 ·obtain⟨n,k,i,j,rfl,rfl,rfl,hk,hn,q⟩:=h;have nk:(1000:Nat)≤sizeLine:=by decide
  refine⟨_,bK (cQ (aY (dY K rfl) (aY (dY K rfl) (aY (lP K rfl) (cB (aL aU aR)) (pv 1)) (cB (aL aU aR))) (aY (lP K rfl) (cB (aL aU aR)) (aY iZ (aY iZ (pv 0) (pv 1)) aU)))),?_⟩;refine⟨by decide,λt1 h1=>⟨_,rfl,t1,(k:Int),_,rfl,rfl,.of aX,by simp,by lia,by lia,(by show 1*((k:Nat):Int).toNat≤sizeLine;lia),λt2 H2 s2 fI=>?_⟩⟩;rw[Int.toNat_natCast,KR]at fI;refine⟨by decide,λt3 h3=>⟨t2,t3,_,_,rfl,rfl,(aM.upd h3).bE fI,.of aX,?_,λt4 H4 s4 uf=>?_⟩⟩
  ·rw[bz,ee];show k+1≤sizeLine;lia
  refine⟨by decide,λt5 h5=>⟨_,rfl,_,rfl,_,_,rfl,rfl,_,_,rfl,rfl,t5,(n:Int)-(k:Int)-1,_,rfl,rfl,.of aX,by simp,by lia,by lia,(by show 1*((n:Int)-(k:Int)-1).toNat≤sizeLine;lia),λt6 H6 s6 wJ=>?_⟩⟩;have e:((n:Int)-(k:Int)-1).toNat=n-k-1:=by lia
  rw[e,KR]at wJ;refine⟨t4,t6,_,_,rfl,rfl,((aM.upd h5).trans s6).bE uf,wJ,?_,λt7 H7 s7 Er=>?_⟩
  ·simp only[bQ,bz,ee,eF,pU];lia
  refine q t7 H7 (((aM.upd h1).trans s2).trans ((aM.upd h3).trans (s4.trans ((aM.upd h5).trans (s6.trans s7))))) ?_;unfold Ap;rw[cW,cW];exact Er
end S21
namespace L2
open PySem PySem.Spec PyProof.Rows
noncomputable def KS(b:Bool)(K:Frag)(a:Addr):It:=match b with
 |true=>mE K a
 |false=>nV K a
def Vn(b:Bool)(K:Frag)(tl:TE):TI:=λσ H R=>tl σ H λx H1=>∃a,x=.ref a∧(∃xs,Sq b K H1 a xs)∧R (KS b K a) H1
theorem Vo{X:Cx}(K:Frag)(hK:X.K=K)(b:Bool){tg l:Expr}{tl:TE}(hl:PE X l tl):PI X tg l (Vn b K tl):=by
 cases b with
 |true=>exact ja K hK hl
 |false=>exact lQ K hK hl
theorem Vp{b:Bool}{K:Frag}{H1:Hp}{a:Addr}{xs:List V}{tt:TT}{te:TE}{Q:VK}{cp:St}(Pv:Nat→Hp→List V→Prop)(hq:Sq b K H1 a xs)(hz:xs.length≤sizeLine)(h0:Pv 0 H1 [])(cA:∀i H zs,Pv i H zs→zs.length≤i)
  (step:∀i x H zs,xs[i]?=some x→aM H1 H→Pv i H zs→tt (some x::cp) H λc H4=>if c=true then te (some x::cp) H4 λv H5=>kc 1 cp H1 (Pv (i+1)) (some x::cp) H5 (zs++[v])else kc 1 cp H1 (Pv (i+1)) (some x::cp) H4 zs)
  (done:∀H zs,aM H1 H→Pv xs.length H zs→∀p,H p=none→Q (.ref p) (upd H p (.lst zs))) :
  ∃W:Nat→Nat→St→Hp→List V→Prop,(∃m,W 0 m (List.replicate 1 none++cp) H1 [])∧jo (KS b K a) (bq 0) tt te Q W:=by
 cases b with
 |true=>exact p8 Pv hq hz h0 cA step done
 |false=>exact vQ Pv hq hz h0 cA step done
end L2
namespace S21
open PySem L2 Bw
variable{a:Int}{b bp c j m:Nat}{f g u v y:Fn}{s:List Int}
theorem KU:(["row"]:List Str).Nodup:=by decide +kernel
theorem Vq:(["k","at","head","p","row"]:List Str).Nodup:=by decide +kernel
def Et(K:Frag):Sp:=λvs H Q _=>∃(p:Int)(a b:Addr)(x h:List Int)(n j:Nat)(i:Int),vs=[.int p,.ref a,.ref b,.int i]∧i=j∧2≤p∧p≤97∧n≤900∧j<n∧H a=some (.lst (x.map V.int))∧H b=some (.lst (h.map V.int))∧Rw p n x∧Rw p n h∧
 ∀l H',aM H H'→H l=none→H' l=some (.lst ((kY p j h x).map V.int))→Q (.ref l) H'
theorem Vr:c8 ["p","row","head","at"] ["p","row","head","at"] (bx zA):=dJ rfl rfl rfl (by decide +kernel) rfl
theorem Vs{f:Addr}{fd:FuncData}(F:cC K "_law_less" "_law_less" zA f fd)(T:Txt mg):bu P w K mg base br 1 f fd ["p","row","head","at"] (Et K):=by
 refine F.ok Vr (λvs H Q E h=>?_) (λbV A outer s H vs Q E hr h=>?_)
 ·obtain⟨p,a,b,x,h,n,j,i,rfl,_⟩:=h;rfl
 ·obtain⟨p,a,b,x,h,n,j,i,rfl,rfl,p2,cX,hn,hj,ga,gb,hx,hh,k⟩:=h;have nk:(1000:Nat)≤sizeLine:=by decide
  refine⟨_,bK (cQ (i9 (N:=["k","at","head","p","row"]) (own:=1) (caps:=[3,2,0,1]) rfl (nX rfl T.range (aL (gm (jF K rfl) rfl T.len jG (aL (pv 1) aR)) aR)) (show du ["p","row","head","at"] (bx zA) ["k","at","head","p","row"] 1 [3,2,0,1] _ from .mk' (by decide +kernel)) (λ_ _ _ _ _=>cq (i:=0) Vq rfl (.inl rfl)) (λ_ _ _ _ _=>gG) (λ_ _ _ _ _=>aY eW (aY iZ (cf (e7 K rfl) (pv 4) (pv 0) (λ_ _=>rfl)) (aY j5 (cf (e7 K rfl) (pv 4) (pv 1) (λ_ _=>rfl)) (cf (e7 K rfl) (pv 2) (pv 0) (λ_ _=>rfl)))) (pv 3)))),?_⟩
  have ex:(x.map V.int).length=n:=by rw[bz,hx.1]
  have hxj:=hx.at (by lia) j;refine⟨_,rfl,a,_,rfl,.inl (.of ga),(((x.map V.int).length:Nat):Int),rfl,by lia,by rw[ex];lia,yM (n:=(x.map V.int).length) (lo:=0) (cp:=[some (.int (j:Int)),some (.ref b),some (.int p),some (.ref a)]) (λi H' zs=>zs=((kY p j h x).take i).map V.int) (by rw[ex];lia) rfl (λi H' zs e=>by rw[e,bz];exact ve _ _) ?_ ?_⟩
  ·rintro i H1 zs hi sm rfl;rw[ex]at hi;rw[oQ];have yC:i<x.length:=by rw[hx.1];exact hi
   have KW:i<h.length:=by rw[hh.1];exact hi
   refine kN ⟨_,rfl,_,rfl,a,_,(i:Int),_,rfl,rfl,.of (sm _ _ ga),cH (px yC),_,rfl,_,rfl,a,_,(j:Int),_,rfl,rfl,.of (sm _ _ ga),cH (px (by rw[hx.1];exact hj)),_,rfl,_,rfl,b,_,(i:Int),_,rfl,rfl,.of (sm _ _ gb),cH (px KW),_,_,rfl,rfl,.inl ⟨by lia,by lia⟩,_,_,rfl,rfl,_,rfl,_,_,rfl,rfl,(by show(0:Int)<p;lia),⟨[_],rfl,rfl⟩,sm,?_⟩;have e3:(kY p j h x)[i]?=some ((x.getD i 0-x.getD j 0*h.getD i 0)%p):=by
    unfold kY fk;rw[List.getElem?_zipWith,we yC,we KW];show some ((x.getD i 0 + -(x.getD j 0)*h.getD i 0)%p)=_;rw[Int.neg_mul,← Int.sub_eq_add_neg]
   rw[gq,e3];simp
  ·rintro H1 zs sm rfl lq wK;rw[ex,nQ (by unfold kY fk;rw[List.length_zipWith,hx.1,hh.1];lia)];exact k lq _ (sm.trans (.upd wK)) (t8 sm wK) aX
theorem Vt:(["k","at","left"]:List Str).Nodup:=by decide +kernel
theorem Vu:(["k","at","head","p"]:List Str).Nodup:=by decide +kernel
theorem Vv:(["number","p","turn"]:List Str).Nodup:=by decide +kernel
theorem KY:(["row","at","head","p"]:List Str).Nodup:=by decide +kernel
theorem KZ{H:Hp}{la lh:Addr}{LS:List V}{L:LL}{p:Int}{n k:Nat}{h:List Int}{N:Addr→Prop}{Q:VK}{te:TE}(p2:2≤p)(cX:p≤97)(hn:n≤900)(hk:k<n)(g:H la=some (.lst LS))(hL:LR N H LS L)(hR:cj p n L)(gh:H lh=some (.lst (h.map V.int)))(hh:Rw p n h)(hz:LS.length≤1000)
  (DH:∀(x:Addr)(H1:Hp)(R:VK),Et K [.int p,.ref x,.ref lh,.int (k:Int)] H1 R (λ_ _ _=>False)→te [some (.ref x),some (.int (k:Int)),some (.ref lh),some (.int p)] H1 R)
  (done:∀H' MS,aM H H'→LR (λa=>H a=none) H' MS (L.map (kY p k h))→∀l,H' l=none→Q (.ref l) (upd H' l (.lst MS))) :
  ∃W:Nat→Nat→St→Hp→List V→Prop,(∃m,W 0 m (List.replicate 1 none++[some (.int (k:Int)),some (.ref lh),some (.int p)]) H [])∧jo (mE K la) (bq 0) i8 te Q W:=by
 refine p8 (xs:=LS) (cp:=[some (.int (k:Int)),some (.ref lh),some (.int p)]) (λi H' zs=>LR (λa=>H a=none) H' zs ((L.take i).map (kY p k h))) (.of g) (oO (yv hz)) LR.nil
  (λi H' zs h=>by rw[h.1,bz];exact ve _ _) ?_ ?_
 ·rintro i x H' zs hU sm h';obtain⟨a,r,rfl,hr,_,ga⟩:=hL.get hU;have DN:=hR r (gj hr);refine kN (DH a H' _ ⟨p,a,lh,r,h,n,k,(k:Int),rfl,rfl,p2,cX,hn,hk,sm _ _ ga,sm _ _ gh,DN,hh,λl H2 s2 Vw gl=>?_⟩);refine⟨⟨[_],rfl,rfl⟩,sm.trans s2,?_⟩;rw[gq,hr];show LR _ H2 _ ((L.take i++[r]).map (kY p k h));rw[cW];exact(h'.mono s2).snoc (t8 sm Vw) gl
 ·rintro H' zs sm h' l hl;rw[hL.1,kq]at h';exact done H' zs sm h' l hl
def Aq(K:Frag):Sp:=λvs H Q _=>∃(p:Int)(a:Addr)(b:Bool)(XS:List V)(rs:LL)(n:Nat)(m:Int),vs=[.int p,.ref a,.int m]∧m=n∧p∈c7∧Sq b K H a XS∧bG K H XS (rs.map cG)∧rs.length≤1000∧n≤900∧cj p n rs∧
 ∀t H' DS,aM H H'→aZ K H' t DS→bG K H' DS ((dw p rs).map cG)→Q (.ref t) H'
noncomputable abbrev rN:List Str:=["p","rows","width","left","done","at","some","head","turn"]
theorem oB:c8 ["p","rows","width","left","done","at","some","head","turn"] ["p","rows","width"] (bx oj):=dJ rfl rfl rfl (by decide +kernel) rfl
theorem Vx{f fL:Addr}{fd jI:FuncData}(F:cC K "_law_reduced" "_law_reduced" oj f fd)(T:Txt mg)
  (GL:bu P w K mg base br 1 fL jI ["p","row","head","at"] (Et K)) (kL:Kp K fL) (bL:Binds K jI ["p","row","head","at"] []) (mL:Mg mg "_law_less" fL) :
  bu P w K mg base br 2 f fd ["p","rows","width"] (Aq K):=by
 refine F.ok oB (λvs H Q E h=>?_) (λbV A outer s H vs Q E hr h=>?_)
 ·obtain⟨p,a,b,XS,rs,n,m,rfl,_⟩:=h;rfl
 ·obtain⟨p,a,b,XS,rs,n,m,rfl,rfl,pp,hq,hA,hz,hn,hR,q⟩:=h;obtain⟨p2,cX⟩:=gI p pp;have p0:0<p:=by lia
  have nk:(1000:Nat)≤sizeLine:=by decide
  have Vy:=fQ hA;refine⟨_,bh (bY (i:=3) oB.nd rfl (Or.inr rfl) (i9 (N:=["row"]) (own:=1) (caps:=[]) rfl (Vo K rfl b (pv 1)) (show du rN (bx oj) ["row"] 1 [] _ from .mk' (by decide +kernel)) (λ_ _ _ _ _=>cq (i:=0) KU rfl (.inl rfl)) (λ_ _ _ _ _=>gG) (λ_ _ _ _ _=>j6 (CV K rfl) rfl T.list CW (aL (pv 0) aR)))) (bh (bY (i:=4) oB.nd rfl (.inl rfl) (gk aR)) (bh (jZ kr rfl (nX rfl T.range (aL (pv 2) aR)) (cq (i:=5) oB.nd rfl (Or.inr rfl)) (bh (mY (i:=6) (N:=["k","at","left"]) (own:=1) (caps:=[5,3]) rfl oB.nd rfl rfl (nX rfl T.range (aL (gm (jF K rfl) rfl T.len jG (aL (pv 3) aR)) aR)) (show du rN (bx oj) ["k","at","left"] 1 [5,3] _ from .mk' (by decide +kernel)) (λ_ _ _ _ _=>cq (i:=0) Vt rfl (.inl rfl)) (λ_ _ _ _ _=>tH (de B4 (cf (e7 K rfl) (cf (e7 K rfl) (pv 2) (pv 0) (λ_ _=>rfl)) (pv 1) (λ_ _=>rfl)) aU (da _))) (λ_ _ _ _ _=>pv 0)) (bK (dX (de qV (gm (jF K rfl) rfl T.len jG (aL (pv 6) aR)) aU (da _)) (bh (bY (i:=7) oB.nd rfl (Or.inr rfl) (i5 ji BH BI yr (pv 3) (aL (cf (e7 K rfl) (pv 6) aU (λ_ _=>rfl)) aR))) (bh (bY (i:=8) oB.nd rfl (Or.inr rfl) (cf (e7 K rfl) (i9 (N:=["k","at","head","p"]) (own:=1) (caps:=[5,7,0]) rfl (OH rfl T.range (aL aU (aL (pv 0) aR))) (show du rN (bx oj) ["k","at","head","p"] 1 [5,7,0] _ from .mk' (by decide +kernel)) (λ_ _ _ _ _=>cq (i:=0) Vu rfl (.inl rfl)) (λ_ _ _ _ _=>tH (de gF (aY eW (aY j5 (pv 0) (cf (e7 K rfl) (pv 2) (pv 1) (λ_ _=>rfl))) (pv 3)) aU (da _))) (λ_ _ _ _ _=>pv 0)) aU (λ_ _=>rfl))) (bh (bY (i:=7) oB.nd rfl (Or.inr rfl) (i9 (N:=["number","p","turn"]) (own:=1) (caps:=[0,8]) rfl (ja K rfl (pv 7)) (show du rN (bx oj) ["number","p","turn"] 1 [0,8] _ from .mk' (by decide +kernel)) (λ_ _ _ _ _=>cq (i:=0) Vv rfl (.inl rfl)) (λ_ _ _ _ _=>gG) (λ_ _ _ _ _=>aY eW (aY j5 (pv 0) (pv 2)) (pv 1)))) (bh (bY (i:=3) oB.nd rfl (Or.inr rfl) (i9 (N:=["row","at","head","p"]) (own:=1) (caps:=[5,7,0]) rfl (ja K rfl (pv 3)) (show du rN (bx oj) ["row","at","head","p"] 1 [5,7,0] _ from .mk' (by decide +kernel)) (λ_ _ _ _ _=>cq (i:=0) KY rfl (.inl rfl)) (λ_ _ _ _ _=>gG) (λ_ _ _ _ _=>cT GL hr rfl mL kL bL .nil cU (aL (pv 3) (aL (pv 0) (aL (pv 2) (aL (pv 1) aR))))))) (bK (bY (i:=4) oB.nd rfl (.inl rfl) (aY n8 (i9 (N:=["row","at","head","p"]) (own:=1) (caps:=[5,7,0]) rfl (ja K rfl (pv 4)) (show du rN (bx oj) ["row","at","head","p"] 1 [5,7,0] _ from .mk' (by decide +kernel)) (λ_ _ _ _ _=>cq (i:=0) KY rfl (.inl rfl)) (λ_ _ _ _ _=>gG) (λ_ _ _ _ _=>cT GL hr rfl mL kL bL .nil cU (aL (pv 3) (aL (pv 0) (aL (pv 2) (aL (pv 1) aR)))))) (gk (aL (pv 7) aR)))))))))
     fg)))) (bK (cQ (j6 (ph K rfl) rfl T.tuple mZ (aL (i9 (N:=["row"]) (own:=1) (caps:=[]) rfl (ja K rfl (pv 4)) (show du rN (bx oj) ["row"] 1 [] _ from .mk' (by decide +kernel)) (λ_ _ _ _ _=>cq (i:=0) KU rfl (.inl rfl)) (λ_ _ _ _ _=>gG) (λ_ _ _ _ _=>j6 (ph K rfl) rfl T.tuple mZ (aL (pv 0) aR))) aR)))))),?_⟩
  refine⟨_,rfl,a,rfl,⟨_,hq⟩,Vp (b:=b) (cp:=[]) (λi H' zs=>LR (λ_=>True) H' zs (rs.take i)) hq (by lia) LR.nil (λi H' zs h=>by rw[h.1];exact ve _ _) ?_ ?_⟩
  ·rintro i x H1 zs hx sm h1;obtain⟨r,ra,lZ,rfl,dy⟩:=om hA hx;refine kN ⟨_,rfl,ra,_,rfl,.inr (sm.bE dy),λl hl=>⟨⟨[_],rfl,rfl⟩,sm.trans (.upd hl),?_⟩⟩;rw[gq,lZ];exact(h1.mono (.upd hl)).snoc trivial aX
  rintro H1 LS ke tQ ll oC;rw[Vy,kq]at tQ;refine⟨by decide,λld rC=>?_⟩;have wL:ld≠ll:=λz=>by rw[z,aX]at rC;cases rC
  have tY:aM H (upd (upd H1 ll (.lst LS)) ld (.lst [])):=(ke.trans (.upd oC)).trans (.upd rC);refine⟨_,rfl,(n:Int),rfl,by lia,by lia,qU (n:=n) (λk σ H'=>aM H H'∧∃(ll ld:Addr)(LS DS:List V)(L D:LL)(s5 s6 s7 s8:Option V),σ=[some (.int p),some (.ref a),some (.int (n:Int)),some (.ref ll),some (.ref ld),s5,s6,s7,s8]∧H ll=none∧ld≠ll∧H' ll=some (.lst LS)∧LR (·≠ll) H' LS L∧H' ld=some (.lst DS)∧LR (·≠ll) H' DS D∧iL p n rs k (D,L)∧L.length≤1000) ⟨tY,ll,ld,LS,[],rs,[],_,_,_,_,rfl,t8 ke oC,wL,aM.upd rC _ _ aX,(tQ.fresh oC).mono (.upd rC),aX,LR.nil,.start hR,hz⟩ ?_ ?_⟩
  ·rintro k σ H2 hk ⟨sm,ll,ld,LS,DS,L,D,s5,s6,s7,s8,rfl,Eu,wL,gL,hL,gD,hD,RO,K0⟩;rw[oQ];have Ew:cj p n L:=RO.r;have K1:cj p n D:=RO.d;have uB:=hL.1;have K2:=hD.1;have Vz:=RO.len (oO hk);refine⟨_,rfl,ll,_,rfl,.inl (.of gL),(LS.length:Int),rfl,by lia,by lia,yM (n:=LS.length) (lo:=0) (cp:=[some (.int (k:Int)),some (.ref ll)]) (λj H' zs=>zs=((List.range j).filter λu=>(L.map λr=>r.getD k 0).getD u 0≠0).map λ(u:Nat)=>V.int u) (by lia) rfl (λj H' zs e=>by rw[e,bz];exact ft (BJ _ _) (by rw[ml];exact ck _)) ?_ ?_⟩
   ·rintro j H' zs hj iy rfl;rw[oQ];have Ex:j<L.length:=by lia
    obtain⟨ra,dy,_,gr⟩:=hL.at (cE Ex);have VA:k<(L[j]).length:=by rw[(Ew _ (jh Ex)).1];exact hk
    have ec:(L.map λr=>r.getD k 0).getD j 0=(L[j]).getD k 0:=by rw[cF,eI,cE Ex];rfl
    refine⟨_,rfl,_,rfl,ll,_,(j:Int),.ref ra,rfl,rfl,.of (iy _ _ gL),cH dy,_,rfl,ra,_,(k:Int),_,rfl,rfl,.of (iy _ _ gr),cH (px VA),rfl,_,rfl,Dz (λdQ=>?_) (λheq=>?_)⟩
    ·have wm:(L.map λr=>r.getD k 0).getD j 0≠0:=λz=>dQ (ao V.int (ec▸z));refine⟨_,rfl,⟨[_],rfl,rfl⟩,iy,?_⟩;rw[List.range_succ,sN,xN (by simpa using wm),sO,cW];rfl
    ·have wo:(L.map λr=>r.getD k 0).getD j 0=0:=ec.trans (V.int.inj heq);refine⟨⟨[_],rfl,rfl⟩,iy,?_⟩;rw[List.range_succ,sN,BG (by simpa using wo),sO,gY]
   rintro H3 zs nj ez ls VC;have ez:zs=(oa (L.map λr=>r.getD k 0)).map λ(u:Nat)=>V.int u:=by
    unfold oa;rw[bz,← uB];exact ez
   have jJ:aM H2 (upd H3 ls (.lst zs)):=nj.trans (.upd VC);have g4:(upd H3 ls (.lst zs)) ls=some (.lst zs):=aX;generalize upd H3 ls (.lst zs)=H4 at jJ g4 ⊢;subst ez;have Ey:=jJ _ _ gL;have yz:=jJ _ _ gD;have Ez:=hL.mono jJ;have K3:=hD.mono jJ;refine⟨_,rfl,ls,_,rfl,.inl (.of g4),_,_,rfl,rfl,_,rfl,j8 (λhc=>?_) (λhc=>?_)⟩
   ·cases jl:oa (L.map λr=>r.getD k 0) with
    |nil=>
     rw[jl]at hc;exact absurd (aH hc) (by simp)
    |cons i tl=>
     obtain⟨c1,c2,c3⟩:=RL jl;rw[bz]at c1;have hi:=cE c1;have ec:∀{j:Nat}{r:List Int},L[j]?=some r→(L.map λr=>r.getD k 0).getD j 0=r.getD k 0:=λe=>by rw[cF,eI,e];rfl
     rw[ec hi]at c2;have hf:∀j r,j<i→L[j]?=some r→r.getD k 0=0:=λj r hj e=>by rw[← ec e];exact c3 j hj
     have lW:Rw p n L[i]:=Ew _ (jh c1);have Ar:=RO.head pp hk hi c2 hf;obtain⟨ha,ic,VD,gh⟩:=Ez.at hi;generalize L[i]=h at hi c2 lW Ar gh;rw[jl]at g4;refine⟨_,rfl,.inl ⟨rfl,_,cM.of Ey⟩,_,rfl,ls,_,0,.int (i:Int),rfl,rfl,.of g4,cH (j:=0) rfl,ll,LS,(i:Int),i,.ref ha,rfl,rfl,Ey,by lia,by lia,?_,ic,?_⟩
     ·unfold seqIndex?;simp;lia
     have qd:aM H (upd H4 ll (.lst (LS.eraseIdx i))):=(sm.trans jJ).write Eu;have gA:(upd H4 ll (.lst (LS.eraseIdx i))) ll=some (.lst (LS.eraseIdx i)):=aX;have As:(upd H4 ll (.lst (LS.eraseIdx i))) ha=some (.lst (h.map V.int)):=by rw[cn VD];exact gh
     have K4:LR (·≠ll) (upd H4 ll (.lst (LS.eraseIdx i))) (LS.eraseIdx i) (L.eraseIdx i):=(Ez.erase i).wr;have K5:LR (·≠ll) (upd H4 ll (.lst (LS.eraseIdx i))) DS D:=K3.wr;have EA:(upd H4 ll (.lst (LS.eraseIdx i))) ld=some (.lst DS):=by rw[cn wL];exact yz
     generalize upd H4 ll (.lst (LS.eraseIdx i))=H5 at qd gA As K4 K5 EA ⊢;have VE:k<h.length:=by rw[lW.1];exact hk
     have VF:=lW.at p0 k;have vB:=vT (n:=h.getD k 0) pp (by lia) VF.2;refine⟨_,rfl,1,p,rfl,⟨by decide,by decide,by lia,by lia⟩,yM (n:=(p-1).toNat) (lo:=1) (cp:=[some (.int (k:Int)),some (.ref ha),some (.int p)]) (λj H' zs=>zs=((List.range j).filter λ(u:Nat)=>(1+(u:Int))*h.getD k 0%p=1).map λ(u:Nat)=>V.int (1+(u:Int))) (by lia) rfl (λj H' zs e=>by rw[e,bz];exact ft (BJ _ _) (by rw[ml];exact ck _)) ?_ ?_⟩
     ·rintro j H' zs hj iy rfl;refine⟨_,rfl,_,rfl,_,rfl,ha,_,(k:Int),_,rfl,rfl,.of (iy _ _ As),cH (px VE),_,_,rfl,rfl,.inl ⟨by lia,by lia⟩,_,rfl,_,_,rfl,rfl,(by show(0:Int)<p;lia),rfl,_,rfl,j8 (λheq=>?_) (λdQ=>?_)⟩
      ·have wo:(1+(j:Int))*h.getD k 0%p=1:=V.int.inj (aH heq);refine⟨_,rfl,⟨[_],rfl,rfl⟩,iy,?_⟩;rw[List.range_succ,sN,xN (by simpa using wo),sO,cW];rfl
      ·have wm:¬(1+(j:Int))*h.getD k 0%p=1:=λz=>dQ (aE (ao V.int z));refine⟨⟨[_],rfl,rfl⟩,iy,?_⟩;rw[List.range_succ,sN,BG (by simpa using wm),sO,gY]
     rintro H8 zs zL K6 lc wF;have K7:(dM p (h.getD k 0)-1).toNat∈(List.range (p-1).toNat).filter λ(u:Nat)=>(1+(u:Int))*h.getD k 0%p=1:=by
      refine lD.mpr ⟨nK.mpr (by lia),?_⟩
      have:(1:Int)+((dM p (h.getD k 0)-1).toNat:Int)=dM p (h.getD k 0):=by lia
      simp only[this,aG];exact vB.2.2
     cases rB:(List.range (p-1).toNat).filter λ(u:Nat)=>(1+(u:Int))*h.getD k 0%p=1 with
     |nil=>rw[rB]at K7;cases K7
     |cons u us=>
      have rG:u∈(List.range (p-1).toNat).filter λ(u:Nat)=>(1+(u:Int))*h.getD k 0%p=1:=by rw[rB];exact cZ
      have wM:=lD.mp rG;have K8:(1+(u:Int))*h.getD k 0%p=1:=by simpa using wM.2
      have hu4:=nK.mp wM.1;rw[rB]at K6;have pC:aM H5 (upd H8 lc (.lst zs)):=zL.trans (.upd wF);have g9:(upd H8 lc (.lst zs)) lc=some (.lst zs):=aX;generalize upd H8 lc (.lst zs)=H9 at pC g9 ⊢;subst K6;refine⟨lc,_,0,.int (1+(u:Int)),rfl,rfl,.of g9,cH (j:=0) rfl,?_⟩;have K9:1≤1+(u:Int):=by lia
      have La:1+(u:Int)<p:=by lia
      generalize 1+(u:Int)=cu at K8 K9 La ⊢;have VG:=Tb pp lW c2 K9 La K8;refine⟨_,rfl,ha,rfl,⟨_,.of (pC _ _ As)⟩,p8 (cp:=[some (.int p),some (.int cu)]) (λj H' zs=>zs=((h.take j).map λy=>y*cu%p).map V.int) (.of (pC _ _ As)) (by rw[bz,lW.1];lia) rfl (λj H' zs e=>by rw[e,bz,bz];exact ve _ _) ?_ ?_⟩
      ·rintro j y H' zs hy iy rfl;rw[eI]at hy;cases f1:h[j]? with
       |none=>rw[f1]at hy;cases hy
       |some y'=>
        rw[f1]at hy;cases hy;refine kN ⟨_,rfl,_,rfl,_,_,rfl,rfl,.inr ⟨by lia,by lia⟩,_,rfl,_,_,rfl,rfl,(by show(0:Int)<p;lia),⟨[_],rfl,rfl⟩,iy,?_⟩;rw[gq,f1];simp
      rintro HA zs VH rfl lh zJ;rw[bz,kq,VG];have iw:=vW (place:=k) p0 lW;have lX:aM H5 (upd HA lh (.lst ((dh p n h k).map V.int))):=(pC.trans VH).trans (.upd zJ);have gC:(upd HA lh (.lst ((dh p n h k).map V.int))) lh=some (.lst ((dh p n h k).map V.int)):=aX;generalize upd HA lh (.lst ((dh p n h k).map V.int))=HC at lX gC ⊢;generalize dh p n h k=hd at iw gC Ar;have Lb:∀{M:LL},cj p n M→M.map (dv p hd k)=M.map (kY p k hd):=λhM=>List.map_congr_left λr hr=>(S9 p0 iw (hM r hr)).symm;have Lc:cj p n (L.eraseIdx i):=λr hr=>Ew r (List.mem_of_mem_eraseIdx hr);rw[Lb K1,Lb Lc]at Ar;refine⟨_,rfl,ll,rfl,⟨_,.of (lX _ _ gA)⟩,KZ p2 cX hn hk (lX _ _ gA) (K4.mono lX) Lc gC iw (by rw[List.length_eraseIdx];split<;>lia) (λx H1 R z=>⟨_,rfl,_,rfl,_,rfl,_,rfl,z⟩) ?_⟩
      rintro HD MS wN hM lm p9;have wO:aM H5 (upd HD lm (.lst MS)):=(lX.trans wN).trans (.upd p9);have gE:(upd HD lm (.lst MS)) lm=some (.lst MS):=aX;have EB:(upd HD lm (.lst MS)) lh=some (.lst (hd.map V.int)):=aM.upd p9 _ _ (wN _ _ gC);have Ld:LR (·≠lm) (upd HD lm (.lst MS)) MS ((L.eraseIdx i).map (kY p k hd)):=hM.fresh p9;have VI:H lm=none:=t8 ((qd.trans lX).trans wN) p9;have VJ:lh≠lm:=λz=>by
       have:=wN _ _ gC
       rw[z,p9]at this;cases this
      have aag:∀{x:Addr}{o:HO},H5 x=some o→x≠lm:=λe z=>by
       have:=(lX.trans wN) _ _ e
       rw[z,p9]at this;cases this
      generalize upd HD lm (.lst MS)=HE at wO gE EB Ld ⊢;refine⟨_,rfl,ld,rfl,⟨_,.of (wO _ _ EA)⟩,KZ p2 cX hn hk (wO _ _ EA) (K5.mono wO) K1 EB iw (by lia) (λx H1 R z=>⟨_,rfl,_,rfl,_,rfl,_,rfl,z⟩) ?_⟩;rintro HF NS Le hN l1 h1;have VL:=hN.1;rw[bz]at VL;refine⟨_,rfl,(by show 1≤sizeLine;lia),λl2 h2=>⟨l1,l2,NS,[.ref lh],rfl,rfl,aM.upd h2 _ _ aX,aX,by show NS.length+1≤sizeLine;lia,λl3 h3=>?_⟩⟩;have Au:aM HE (upd (upd (upd HF l1 (.lst NS)) l2 (.lst [.ref lh])) l3 (.lst (NS++[.ref lh]))):=(Le.trans (.upd h1)).trans ((aM.upd h2).trans (.upd h3));have VM:=wO.trans Au;have VN:l3≠lm:=λz=>by
       have:=((Le.trans (aM.upd h1 (o:=.lst NS))).trans (aM.upd h2 (o:=.lst [.ref lh]))) _ _ gE
       rw[z]at h3;rw[h3]at this;cases this
      have VO:LR (·≠lm) HF NS (D.map (kY p k hd)):=⟨hN.1,λi v r e1 e2=>by
       obtain⟨x,e,hx,gx⟩:=hN.2 i v r e1 e2;have nx:x≠lm:=λz=>by rw[z,gE]at hx;cases hx
       exact⟨x,e,nx,gx⟩⟩
      refine⟨qd.trans VM,lm,l3,MS,NS++[.ref lh],_,_,_,_,_,_,rfl,VI,VN,Au _ _ gE,Ld.mono Au,aX,?_,Ar,by rw[bz,List.length_eraseIdx];split<;>lia⟩
      exact(VO.mono ((aM.upd h1).trans ((aM.upd h2).trans (.upd h3)))).snoc VJ (Au _ _ EB)
   ·have VP:oa (L.map λr=>r.getD k 0)=[]:=by
     cases jl:oa (L.map λr=>r.getD k 0) with
     |nil=>rfl
     |cons i tl=>rw[jl]at hc;exact absurd (aE (by simp)) hc
    refine⟨sm.trans jJ,ll,ld,LS,DS,L,D,_,_,_,_,rfl,Eu,wL,Ey,Ez,yz,K3,RO.skip λr hr=>?_,K0⟩;obtain⟨j,hj,rfl⟩:=sM.mp hr
    have:=RK VP j (by rw[bz];exact hj)
    rwa[cF,eI,cE hj]at this
  ·rintro σ H2 ⟨sm,ll,ld,LS,DS,L,D,s5,s6,s7,s8,rfl,Eu,wL,gL,hL,gD,hD,RO,K0⟩;have eD:=RO.done pp hR;have Vz:=RO.len (ck n);have K2:=hD.1;refine⟨_,rfl,ld,rfl,⟨_,.of gD⟩,p8 (cp:=[]) (λi H' zs=>bG K H' zs ((D.take i).map cG)) (.of gD) (by lia) .nil (λi H' zs h=>by rw[fQ h];exact ve _ _) ?_ ?_⟩
   ·rintro i x H3 zs hx nj h3;obtain⟨ra,r,rfl,jw,_,gr⟩:=hD.get hx;refine kN ⟨_,rfl,ra,_,rfl,.inl ⟨.of (nj _ _ gr),λt ht=>⟨⟨[_],rfl,rfl⟩,nj.trans (.upd ht),?_⟩⟩⟩;rw[gq,jw];show bG K _ _ ((D.take i++[r]).map cG);rw[cW];exact(h3.mono (.upd ht)).append (.cons (jE (.of aX)) .nil)
   ·rintro H3 TS nj h3 lt cN;rw[K2,kq,eD]at h3;refine⟨lt,_,rfl,.inl ⟨.of aX,λt ht=>q t _ TS ((sm.trans nj).trans ((aM.upd cN).trans (.upd ht))) (.of aX) (h3.mono ((aM.upd cN).trans (.upd ht)))⟩⟩
section
variable{p:Int}{f:Fn}
theorem jt:Sp p (RS []) f↔∀j,p∣f j:=by
 constructor
 ·intro h j;exact Em (λr hr=>absurd hr (by simp)) h
 ·intro h;refine .cD .zero λj=>?_
  have:=Int.dvd_neg.mpr (h j)
  show p∣0-f j;rwa[show(0:Int)-f j=-f j by lia]
theorem kd{r:List Int}{L:LL}:Sp p (RS (r::L)) f↔∃c:Int,Sp p (RS L) (λj=>f j-c*fn r j):=by
 constructor
 ·intro h;obtain⟨u,v,hu,hv,e⟩:=(Ej (L:=[r]) (L':=L)).mp h;have h1:∃c:Int,dR p (λj=>c*fn r j) u:=by
   clear e hv h;induction hu with
   |zero=>exact⟨0,λj=>⟨0,by simp⟩⟩
   | @add v q c _ hq ih=>
    obtain⟨c0,h0⟩:=ih;obtain⟨q,hq,rfl⟩:=hq;rw[dI.mp hq];refine⟨c0+c,λj=>?_⟩
    have:=h0 j
    dsimp only at this ⊢;rwa[show(c0+c)*fn r j-(v j+c*fn r j)=c0*fn r j-v j by rw[Int.add_mul];lia]
   |cD _ e ih=>
    obtain⟨c0,h0⟩:=ih;exact⟨c0,h0.trans e⟩
  obtain⟨c,hc⟩:=h1;refine⟨c,.cD hv λj=>?_⟩
  have:=oR (e j) (hc j)
  dsimp only at this ⊢;rwa[show u j+v j-f j+(c*fn r j-u j)=v j-(f j-c*fn r j) by lia]at this
 ·rintro⟨c,h⟩;have h1:Sp p (RS (r::L)) (λj=>f j-c*fn r j):=oi (λq hq=>pq (fu _ hq)) h;exact(h1.add c ⟨r,cZ,rfl⟩).of_eq λj=>by lia
def Nil(p:Int)(f:Fn)(n:Nat):Prop:=∀j,n≤j→p∣f j
theorem EC:Sp p (RS [[1,1]]) f↔p∣f 1-f 0∧Nil p f 2:=by
 rw[kd];constructor
 ·rintro⟨c,h⟩;have h:=jt.mp h;have h0:=h 0;have h1:=h 1;simp only[fn,xO,xP]at h0 h1;refine⟨?_,λj hj=>?_⟩
  ·have:=jT h1 h0
   rwa[show f 1-c*1-(f 0-c*1)=f 1-f 0 by lia]at this
  ·have:=h j
   have e:fn [1,1] j=0:=by unfold fn;rw[cF,iV (by simpa using hj)];rfl
   rw[e]at this;simpa using this
 ·rintro⟨h,hn⟩;refine⟨f 0,jt.mpr λj=>?_⟩
  match j with
  |0=>simp[fn]
  |1=>simpa[fn]using h
  |j+2=>simpa[fn]using hn (j+2) (by lia)
theorem VQ{n:Int}:Sp p (RS [[1,n]]) f↔p∣f 1-n*f 0∧Nil p f 2:=by
 rw[kd];constructor
 ·rintro⟨c,h⟩;have h:=jt.mp h;have h0:=h 0;have h1:=h 1;simp only[fn,xO,xP]at h0 h1;refine⟨?_,λj hj=>?_⟩
  ·have:=jT h1 (vd (b:=n) h0)
   rwa[show f 1-c*n-n*(f 0-c*1)=f 1-n*f 0 by rw[Int.mul_sub,Int.mul_one,mj n c];lia]at this
  ·have:=h j
   have e:fn [1,n] j=0:=by unfold fn;rw[cF,iV (by simpa using hj)];rfl
   rw[e]at this;simpa using this
 ·rintro⟨h,hn⟩;refine⟨f 0,jt.mpr λj=>?_⟩
  match j with
  |0=>simp[fn]
  |1=>simpa[fn,mj]using h
  |j+2=>simpa[fn]using hn (j+2) (by lia)
theorem VR:Sp p (RS [[1]]) f↔Nil p f 1:=by
 rw[kd];constructor
 ·rintro⟨c,h⟩ j hj
  have:=jt.mp h j
  have e:fn [1] j=0:=by unfold fn;rw[cF,iV (by simpa using hj)];rfl
  rw[e]at this;simpa using this
 ·intro hn;refine⟨f 0,jt.mpr λj=>?_⟩
  match j with
  |0=>simp[fn]
  |j+1=>simpa[fn]using hn (j+1) (by lia)
theorem VT:Sp p (RS [[1,1,1]]) f↔p∣f 1-f 0∧p∣f 2-f 0∧Nil p f 3:=by
 rw[kd];constructor
 ·rintro⟨c,h⟩;have h:=jt.mp h;have h0:=h 0;have h1:=h 1;have h2:=h 2;simp only[fn,xO,xP]at h0 h1 h2;refine⟨?_,?_,λj hj=>?_⟩
  ·have:=jT h1 h0
   rwa[show f 1-c*1-(f 0-c*1)=f 1-f 0 by lia]at this
  ·have:=jT h2 h0
   rwa[show f 2-c*1-(f 0-c*1)=f 2-f 0 by lia]at this
  ·have:=h j
   have e:fn [1,1,1] j=0:=by unfold fn;rw[cF,iV (by simpa using hj)];rfl
   rw[e]at this;simpa using this
 ·rintro⟨h1,h2,hn⟩;refine⟨f 0,jt.mpr λj=>?_⟩
  match j with
  |0=>simp[fn]
  |1=>simpa[fn]using h1
  |2=>simpa[fn]using h2
  |j+3=>simpa[fn]using hn (j+3) (by lia)
theorem VU:Sp p (RS [[1,0,1],[0,1,1]]) f↔p∣f 2-(f 0+f 1)∧Nil p f 3:=by
 rw[kd];constructor
 ·rintro⟨c,h⟩;obtain⟨d,h⟩:=kd.mp h;have h:=jt.mp h;have h0:=h 0;have h1:=h 1;have h2:=h 2;simp only[fn,xO,xP]at h0 h1 h2;refine⟨?_,λj hj=>?_⟩
  ·have:=jT (jT h2 h0) h1
   rwa[show f 2-c*1-d*1-(f 0-c*1-d*0)-(f 1-c*0-d*1)=f 2-(f 0+f 1) by lia]at this
  ·have:=h j
   have e1:fn [1,0,1] j=0:=by unfold fn;rw[cF,iV (by simpa using hj)];rfl
   have e2:fn [0,1,1] j=0:=by unfold fn;rw[cF,iV (by simpa using hj)];rfl
   rw[e1,e2]at this;simpa using this
 ·rintro⟨h,hn⟩;refine⟨f 0,kd.mpr ⟨f 1,jt.mpr λj=>?_⟩⟩
  match j with
  |0=>simp[fn]
  |1=>simp[fn]
  |2=>
   simp only[fn,xO,xP];rwa[show f 2-f 0*1-f 1*1=f 2-(f 0+f 1) by lia]
  |j+3=>simpa[fn]using hn (j+3) (by lia)
theorem VV:Sp p (RS [[1,0,0,1],[0,1,1,0]]) f↔p∣f 3-f 0∧p∣f 2-f 1∧Nil p f 4:=by
 rw[kd];constructor
 ·rintro⟨c,h⟩;obtain⟨d,h⟩:=kd.mp h;have h:=jt.mp h;have h0:=h 0;have h1:=h 1;have h2:=h 2;have h3:=h 3;simp only[fn,xO,xP]at h0 h1 h2 h3;refine⟨?_,?_,λj hj=>?_⟩
  ·have:=jT h3 h0
   rwa[show f 3-c*1-d*0-(f 0-c*1-d*0)=f 3-f 0 by lia]at this
  ·have:=jT h2 h1
   rwa[show f 2-c*0-d*1-(f 1-c*0-d*1)=f 2-f 1 by lia]at this
  ·have:=h j
   have e1:fn [1,0,0,1] j=0:=by unfold fn;rw[cF,iV (by simpa using hj)];rfl
   have e2:fn [0,1,1,0] j=0:=by unfold fn;rw[cF,iV (by simpa using hj)];rfl
   rw[e1,e2]at this;simpa using this
 ·rintro⟨h3,h2,hn⟩;refine⟨f 0,kd.mpr ⟨f 1,jt.mpr λj=>?_⟩⟩
  match j with
  |0=>simp[fn]
  |1=>simp[fn]
  |2=>simpa[fn]using h2
  |3=>simpa[fn]using h3
  |j+4=>simpa[fn]using hn (j+4) (by lia)
end
noncomputable def sh(n:Nat)(f:Fn):Fn:=λj=>f (n+j)
def TR(p:Int):Drw→Fn→Fn→Fn→Fn→Prop
 | .box n l r aQ,x,k,y,a=>if n=Str.ofString "late" then p∣y 0-k 0∧p∣a 0-x 0 else Sp p (RS aQ) (λj=>if j<l then x j else if j<l+r then y (j-l)else 0)
 | .times n,x,_,y,_=>p∣y 0-n*x 0
 | .back d,x,k,y,a=>TR p d y k x a
 | .dO d e,x,k,y,a=>TR p d x k y a∧TR p e (sh d.aK x) (sh d.aJ k) (sh d.aN y) (sh d.aJ a)
 | .bj d e,x,k,y,a=>∃m,TR p d x k m a∧TR p e m (sh d.aJ k) y (sh d.aJ a)
section
variable{p:Int}
theorem pK{e b:Int}(h:p∣a)(k:p∣b)(E:e=a+b):p∣e:=by rw[E];exact oR h k
theorem g8{e b:Int}(h:p∣a)(k:p∣b)(E:e=a-b):p∣e:=by rw[E];exact jT h k
theorem cK{b:Int}(E:a=b):p∣a-b:=⟨0,by rw[E];lia⟩
theorem ED{b:Int}(h:p∣a-b):p∣b-a:=by
 have:=Int.dvd_neg.mpr h
 rwa[show -(a-b)=b-a by lia]at this
def Cg(p:Int)(n:Nat)(f g:Fn):Prop:=∀j,j<n→p∣f j-g j
theorem Cg.refl(n:Nat)(f:Fn):Cg p n f f:=λj _=>cK rfl
theorem Cg.symm{n:Nat}(h:Cg p n f g):Cg p n g f:=λj hj=>ED (h j hj)
theorem Cg.sh{n m:Nat}{f g:Fn}(h:Cg p (n+m) f g):Cg p m (S21.sh n f) (S21.sh n g):=λj hj=>h (n+j) (by lia)
theorem Cg.le{n:Nat}(h:Cg p n f g)(hm:m≤n):Cg p m f g:=λj hj=>h j (by lia)
theorem TR.cD:∀{d:Drw}{x x' k k' y y' a a':Fn},d.eQ p→Cg p d.aK x x'→Cg p d.aJ k k'→Cg p d.aN y y'→Cg p d.aJ a a'→TR p d x k y a→TR p d x' k' y' a'
 | .box n l r aQ,x,x',k,k',y,y',a,a',hd,hx,hk,hy,ha,h=>by
  rcases hd with hd|⟨rfl,rfl,rfl⟩
  ·unfold TR at h ⊢;rw[ah (ql _ hd)]at h ⊢;refine .cD h λj=>?_;by_cases h1:j<l
   ·rw[ae h1,ae h1];exact hx j h1
   ·rw[ah h1,ah h1];by_cases h2:j<l+r
    ·rw[ae h2,ae h2];exact hy (j-l) (by show j-l<r;lia)
    ·rw[ah h2,ah h2];exact cK rfl
  ·unfold TR at h ⊢;rw[ae rfl]at h ⊢;have hx:=hx 0 (by show 0<1;decide);have hk:=hk 0 (by show 0<1;decide);have hy:=hy 0 (by show 0<1;decide);have ha:=ha 0 (by show 0<1;decide);exact⟨pK (g8 h.1 hy rfl) hk (by lia),pK (g8 h.2 ha rfl) hx (by lia)⟩
 | .times n,x,x',k,k',y,y',a,a',hd,hx,hk,hy,ha,h=>by
  have hx:=hx 0 (by show 0<1;decide);have hy:=hy 0 (by show 0<1;decide);have h:p∣y 0-n*x 0:=h;show p∣y' 0-n*x' 0;have hx:=vd (b:=n) hx;exact pK (g8 h hy rfl) hx (by rw[Int.mul_sub];lia)
 | .back d,x,x',k,k',y,y',a,a',hd,hx,hk,hy,ha,h=>TR.cD (d:=d) hd hy hk hx ha h
 | .dO d e,x,x',k,k',y,y',a,a',hd,hx,hk,hy,ha,h=>⟨TR.cD (d:=d) hd.1 (hx.le (oP ..)) (hk.le (oP ..)) (hy.le (oP ..)) (ha.le (oP ..)) h.1,TR.cD (d:=e) hd.2 (Cg.sh hx) (Cg.sh hk) (Cg.sh hy) (Cg.sh ha) h.2⟩
 | .bj d e,x,x',k,k',y,y',a,a',hd,hx,hk,hy,ha,h=>by
  obtain⟨m,h1,h2⟩:=h;exact⟨m,TR.cD (d:=d) hd.1 hx (hk.le (oP ..)) (.refl _ _) (ha.le (oP ..)) h1,TR.cD (d:=e) hd.2.1 (.refl _ _) (Cg.sh hk) hy (Cg.sh ha) h2⟩
theorem Lf{la ra lb rb:Nat}:dR p (λj=>bt (iA la ra lb rb) u j+bt (iB la ra lb) v j) f ↔
  (∀j,j<la→p∣u j-f j)∧(∀j,j<lb→p∣v j-f (la+j))∧(∀j,j<ra→p∣u (la+j)-f (la+lb+j))∧(∀j,j<rb→p∣v (lb+j)-f (la+lb+(ra+j)))∧∀s,p∣u (la+ra+s)+v (lb+rb+s)-f (la+lb+(ra+rb)+s):=by
 have e1:∀j,j<la→bt (iA la ra lb rb) u j+bt (iB la ra lb) v j=u j:=λj hj=>by
  unfold bt iA iB;simp only[hj,if_true];lia
 have e2:∀j,j<lb→bt (iA la ra lb rb) u (la+j)+bt (iB la ra lb) v (la+j)=v j:=λj hj=>by
  unfold bt iA iB;simp only[show ¬la+j<la by lia,show la+j<la+lb by lia,if_true,if_false,show la+j-la=j by lia];lia
 have e3:∀j,j<ra→bt (iA la ra lb rb) u (la+lb+j)+bt (iB la ra lb) v (la+lb+j)=u (la+j):=λj hj=>by
  unfold bt iA iB;simp only[show ¬la+lb+j<la by lia,show ¬la+lb+j<la+lb by lia,show la+lb+j<la+lb+ra by lia,if_true,if_false,show la+lb+j-lb=la+j by lia];lia
 have e4:∀j,j<rb→bt (iA la ra lb rb) u (la+lb+(ra+j))+bt (iB la ra lb) v (la+lb+(ra+j))=v (lb+j):=λj hj=>by
  unfold bt iA iB;simp only[show ¬la+lb+(ra+j)<la by lia,show ¬la+lb+(ra+j)<la+lb by lia,show ¬la+lb+(ra+j)<la+lb+ra by lia,show la+lb+(ra+j)<la+lb+ra+rb by lia,if_true,if_false,show la+lb+(ra+j)-la-ra=lb+j by lia];lia
 have e5:∀s,bt (iA la ra lb rb) u (la+lb+(ra+rb)+s)+bt (iB la ra lb) v (la+lb+(ra+rb)+s)=u (la+ra+s)+v (lb+rb+s):=λs=>by
  unfold bt iA iB;simp only[show ¬la+lb+(ra+rb)+s<la by lia,show ¬la+lb+(ra+rb)+s<la+lb by lia,show ¬la+lb+(ra+rb)+s<la+lb+ra by lia,show ¬la+lb+(ra+rb)+s<la+lb+ra+rb by lia,if_false,show la+lb+(ra+rb)+s-la-ra=lb+rb+s by lia,show la+lb+(ra+rb)+s-lb-rb=la+ra+s by lia];lia
 constructor
 ·intro h;refine⟨λj hj=>?_,λj hj=>?_,λj hj=>?_,λj hj=>?_,λs=>?_⟩
  ·have:=h j;dsimp only at this;rwa[e1 j hj]at this
  ·have:=h (la+j);dsimp only at this;rwa[e2 j hj]at this
  ·have:=h (la+lb+j);dsimp only at this;rwa[e3 j hj]at this
  ·have:=h (la+lb+(ra+j));dsimp only at this;rwa[e4 j hj]at this
  ·have:=h (la+lb+(ra+rb)+s);dsimp only at this;rwa[e5 s]at this
 ·rintro⟨h1,h2,h3,h4,h5⟩ j;dsimp only;by_cases k1:j<la
  ·rw[e1 j k1];exact h1 j k1
  by_cases k2:j<la+lb
  ·obtain⟨i,rfl⟩:∃i,j=la+i:=⟨j-la,by lia⟩;rw[e2 i (by lia)];exact h2 i (by lia)
  by_cases k3:j<la+lb+ra
  ·obtain⟨i,rfl⟩:∃i,j=la+lb+i:=⟨j-(la+lb),by lia⟩;rw[e3 i (by lia)];exact h3 i (by lia)
  by_cases k4:j<la+lb+(ra+rb)
  ·obtain⟨i,rfl⟩:∃i,j=la+lb+(ra+i):=⟨j-(la+lb+ra),by lia⟩;rw[e4 i (by lia)];exact h4 i (by lia)
  ·obtain⟨i,rfl⟩:∃i,j=la+lb+(ra+rb)+i:=⟨j-(la+lb+(ra+rb)),by lia⟩;rw[e5 i];exact h5 i
theorem Lg{l r':Nat}:dR p (λj=>bt (gM l m r') u (m+j)+bt (gN l m) v (m+j)) f ↔
  (∀j,j<l→p∣u j-f j)∧(∀j,j<r'→p∣v (m+j)-f (l+j))∧∀s,p∣u (l+m+s)+v (m+r'+s)-f (l+r'+s):=by
 have e1:∀j,j<l→bt (gM l m r') u (m+j)+bt (gN l m) v (m+j)=u j:=λj hj=>by
  unfold bt gM gN;simp only[show ¬m+j<m by lia,show m+j<m+l by lia,if_true,if_false,show m+j-m=j by lia];lia
 have e2:∀j,j<r'→bt (gM l m r') u (m+(l+j))+bt (gN l m) v (m+(l+j))=v (m+j):=λj hj=>by
  unfold bt gM gN;simp only[show ¬m+(l+j)<m by lia,show ¬m+(l+j)<m+l by lia,show m+(l+j)<m+l+r' by lia,if_true,if_false,show m+(l+j)-l=m+j by lia];lia
 have e3:∀s,bt (gM l m r') u (m+(l+r'+s))+bt (gN l m) v (m+(l+r'+s))=u (l+m+s)+v (m+r'+s):=λs=>by
  unfold bt gM gN;simp only[show ¬m+(l+r'+s)<m by lia,show ¬m+(l+r'+s)<m+l by lia,show ¬m+(l+r'+s)<m+l+r' by lia,if_false,show m+(l+r'+s)-l=m+r'+s by lia,show m+(l+r'+s)-r'=l+m+s by lia];lia
 constructor
 ·intro h;refine⟨λj hj=>?_,λj hj=>?_,λs=>?_⟩
  ·have:=h j;dsimp only at this;rwa[e1 j hj]at this
  ·have:=h (l+j);dsimp only at this;rwa[e2 j hj]at this
  ·have:=h (l+r'+s);dsimp only at this;rwa[e3 s]at this
 ·rintro⟨h1,h2,h3⟩ j;dsimp only;by_cases k1:j<l
  ·rw[e1 j k1];exact h1 j k1
  by_cases k2:j<l+r'
  ·obtain⟨i,rfl⟩:∃i,j=l+i:=⟨j-l,by lia⟩;rw[e2 i (by lia)];exact h2 i (by lia)
  ·obtain⟨i,rfl⟩:∃i,j=l+r'+i:=⟨j-(l+r'),by lia⟩;rw[e3 i];exact h3 i
end
section
variable{p:Int}
def Out(p:Int)(b w c n:Nat)(f:Fn):Prop:=∀s,¬(c≤s∧s<c+n)→¬(w+c≤s∧s<w+c+n)→p∣f (b+s)
def iD(w c n s:Nat):Prop:=(c≤s∧s<c+n)∨(w+c≤s∧s<w+c+n)
instance (w c n s:Nat):Decidable (iD w c n s):=by unfold iD;infer_instance
theorem Lh(row:List Int)(k j:Nat):fn (row++List.replicate k 0) j=fn row j:=by
 unfold fn;rw[cF,cF];by_cases h:j<row.length
 ·rw[gz h]
 ·rw[gZ (by lia),iV (l:=row) (by lia),vc];split<;>rfl
theorem Li{aQ:LL}{k:Nat}:Sp p (RS (aQ.map (·++List.replicate k 0))) f↔Sp p (RS aQ) f:=by
 constructor
 ·refine oi λr hr=>?_;obtain⟨y,hy,rfl⟩:=dU.mp hr;exact(pq hy).of_eq λj=>(Lh y k j).symm
 ·refine oi λr hr=>?_;exact(pq (dU.mpr ⟨r,hr,rfl⟩)).of_eq λj=>Lh r k j
theorem VW{aQ:LL}{l r:Nat}(hl:∀q∈aQ,q.length=l+r):Sp p (RS aQ) f↔Sp p (RS aQ) (λj=>if j<l then f j else if j<l+r then sh l f (j-l)else 0)∧∀s,p∣f (l+r+s):=by
 have e:∀(_:∀s,p∣f (l+r+s)),dR p f (λj=>if j<l then f j else if j<l+r then sh l f (j-l)else 0):=λh j=>by
  dsimp only;by_cases h1:j<l
  ·rw[ae h1];exact cK rfl
  ·rw[ah h1];by_cases h2:j<l+r
   ·rw[ae h2];unfold sh;rw[show l+(j-l)=j by lia];exact cK rfl
   ·rw[ah h2]
    have:=h (j-(l+r))
    rw[show l+r+(j-(l+r))=j by lia]at this;rwa[show f j-0=f j by lia]
 constructor
 ·intro h;have z:∀s,p∣f (l+r+s):=λs=>Em (λq hq=>by rw[cF,iV (by rw[hl q hq];lia)];rfl) h;exact⟨.cD h (e z),z⟩
 ·rintro⟨h,z⟩;exact .cD h (e z).symm
theorem Av{n i:Nat}(h:i<n):fn (dE n i) j=if j=i then 1 else 0:=by
 unfold fn dE;rw[cF];by_cases h1:j<i
 ·rw[gz (by simpa using h1),vc,ae h1,ah (by lia)];rfl
 ·rw[gZ (by simpa using h1),ee];by_cases h2:j=i
  ·subst h2;rw[Nat.sub_self,ae rfl];rfl
  ·rw[ah h2];obtain⟨k,hk⟩:∃k,j-i=k+1:=⟨j-i-1,by lia⟩;rw[hk,gZ (by simp)];show(List.replicate (n-i-1) (0:Int))[k+1-1]?.getD 0=0;rw[vc];split<;>rfl
theorem Lj(a b:Int)(r:List Int)(j:Nat):fn ([a,b]++r) (2+j)=fn r j:=by
 unfold fn;rw[qB];rfl
theorem VX{w:Nat}(hc:c+1≤w):Sp p (RS [[1,0]++dE (2*w) (w+c),[0,1]++dE (2*w) c]) f↔(p∣f 1-f (2+c)∧p∣f (2+w+c)-f 0)∧Out p 2 w c 1 f:=by
 rw[kd];have key:∀a b s,fn ([1,0]++dE (2*w) (w+c)) (2+s)*a+fn ([0,1]++dE (2*w) c) (2+s)*b=(if s=w+c then a else 0)+if s=c then b else 0:=λa b s=>by
  rw[Lj,Lj,Av (by lia),Av (by lia)];split<;>split<;>lia
 have k0:fn ([1,0]++dE (2*w) (w+c)) 0=1∧fn ([1,0]++dE (2*w) (w+c)) 1=0∧fn ([0,1]++dE (2*w) c) 0=0∧fn ([0,1]++dE (2*w) c) 1=1:=⟨rfl,rfl,rfl,rfl⟩;generalize fn ([1,0]++dE (2*w) (w+c))=g at key k0 ⊢;generalize hh:fn ([0,1]++dE (2*w) c)=h at key k0;constructor
 ·rintro⟨a,h1⟩;rw[kd,hh]at h1;obtain⟨b,h1⟩:=h1;have h1:=jt.mp h1;have z0:=h1 0;have z1:=h1 1;have zs:∀s,p∣f (2+s)-((if s=w+c then a else 0)+if s=c then b else 0):=λs=>by
   have:=h1 (2+s)
   rw[← key a b s];rwa[show f (2+s)-a*g (2+s)-b*h (2+s)=f (2+s)-(g (2+s)*a+h (2+s)*b) by rw[mj a,mj b];lia]at this
  rw[k0.1,k0.2.2.1]at z0;rw[k0.2.1,k0.2.2.2]at z1;refine⟨⟨?_,?_⟩,λs hs1 nY=>?_⟩
  ·have:=zs c
   rw[ah (by lia),ae rfl]at this;exact g8 z1 this (by lia)
  ·have:=zs (w+c)
   rw[ae rfl,ah (by lia)]at this;rw[show 2+(w+c)=2+w+c by lia]at this;exact g8 this z0 (by lia)
  ·have:=zs s
   rw[ah (by lia),ah (by lia)]at this;rwa[show f (2+s)-(0+0)=f (2+s) by lia]at this
 ·rintro⟨⟨h1,h2⟩,h3⟩;refine⟨f 0,?_⟩;rw[kd,hh];refine⟨f 1,jt.mpr λj=>?_⟩
  match j with
  |0=>rw[k0.1,k0.2.2.1];exact⟨0,by lia⟩
  |1=>rw[k0.2.1,k0.2.2.2];exact⟨0,by lia⟩
  |j+2=>
   rw[qB j 2];have e:f (2+j)-f 0*g (2+j)-f 1*h (2+j)=f (2+j)-(g (2+j)*f 0+h (2+j)*f 1):=by rw[mj (f 0),mj (f 1)];lia
   rw[e,key];by_cases e1:j=w+c
   ·subst e1;rw[ae rfl,ah (by lia),show 2+(w+c)=2+w+c by lia];rwa[Int.add_zero]
   ·rw[ah e1];by_cases e2:j=c
    ·subst e2;rw[ae rfl];exact g8 (cK (rfl:f 1=f 1)) h1 (by lia)
    ·rw[ah e2]
     have:=h3 j (by lia) (by lia)
     rwa[show f (2+j)-(0+0)=f (2+j) by lia]
end
section
variable{p:Int}
theorem Lk{ba bb w na nb:Nat}(h:∀s,p∣u (ba+s)+v (bb+s)-f (b+s))(hu:Out p ba w c na u)(hv:Out p bb w (c+na) nb v)(hw:c+(na+nb)≤w) :
  Out p b w c (na+nb) f∧(∀s,iD w c na s→p∣u (ba+s)-f (b+s))∧∀s,iD w (c+na) nb s→p∣v (bb+s)-f (b+s):=by
 refine⟨λs h1 h2=>?_,λs hs=>?_,λs hs=>?_⟩
 ·exact g8 (pK (hu s (by lia) (by lia)) (hv s (by lia) (by lia)) rfl) (h s) (by lia)
 ·unfold iD at hs;exact g8 (h s) (hv s (by lia) (by lia)) (by lia)
 ·unfold iD at hs;exact g8 (h s) (hu s (by lia) (by lia)) (by lia)
noncomputable def part(bp b w c n:Nat)(g f:Fn):Fn:=λj=>if j<bp then g j else if iD w c n (j-bp)then f (b+(j-bp))else 0
theorem qm{w n:Nat}(h:j<bp):part bp b w c n g f j=g j:=ae h
theorem uC{w n:Nat}{s:Nat}(h:iD w c n s):part bp b w c n g f (bp+s)=f (b+s):=by
 unfold part;rw[ah (by lia),show bp+s-bp=s by lia,ae h]
theorem Aw{w n:Nat}{s:Nat}(h:¬iD w c n s):part bp b w c n g f (bp+s)=0:=by
 unfold part;rw[ah (by lia),show bp+s-bp=s by lia,ah h]
theorem Ax{w n:Nat}:Out p bp w c n (part bp b w c n g f):=λs h1 h2=>by
 rw[Aw (by unfold iD;lia)];exact⟨0,by lia⟩
theorem Ll{ba bb w na nb:Nat}{g':Fn}(hf:Out p b w c (na+nb) f)(hw:c+(na+nb)≤w)(s:Nat):p∣part ba b w c na g f (ba+s)+part bb b w (c+na) nb g' f (bb+s)-f (b+s):=by
 by_cases h1:iD w c na s
 ·have h2:¬iD w (c+na) nb s:=by unfold iD at h1 ⊢;lia
  rw[uC h1,Aw h2];exact⟨0,by lia⟩
 ·rw[Aw h1];by_cases h2:iD w (c+na) nb s
  ·rw[uC h2];exact⟨0,by lia⟩
  ·rw[Aw h2];unfold iD at h1 h2
   have:=hf s (by lia) (by lia)
   have:=Int.dvd_neg.mpr this
   rwa[show 0+0-f (b+s)=- f (b+s) by lia]
theorem oD{w:Nat}:∀{d:Drw}{c:Nat},d.eQ p→c+d.aJ≤w→∀f,jd p w c d f↔TR p d f (sh (d.aK+d.aN+c) f) (sh d.aK f) (sh (d.aK+d.aN+w+c) f)∧Out p (d.aK+d.aN) w c d.aJ f
 | .box n l r aQ,c,hd,hc=>λf=>by
  rcases hd with hd|⟨rfl,rfl,rfl⟩
  ·have nb:=ql _ hd;obtain⟨_,_,_,h4⟩:=Ah _ hd;have en:(Drw.box n l r aQ).aJ=0:=ah nb;rw[en];show Sp p (RS ((Drw.box n l r aQ).dz p w c)) f↔_;unfold Drw.dz TR;rw[ah nb,ah nb,Li,VW (l:=l) (r:=r) λq hq=>(h4 q hq).1];constructor
   ·rintro⟨h,z⟩;exact⟨h,λs _ _=>z s⟩
   ·rintro⟨h,z⟩;exact⟨h,λs=>z s (by lia) (by lia)⟩
  ·have hc:c+1≤w:=hc;show Sp p (RS ((Drw.box _ 1 1 aQ).dz p w c)) f↔_;unfold Drw.dz TR;rw[ae rfl,ae rfl,VX hc];exact Iff.rfl
 | .times n,c,_,hc=>λf=>by
  show Sp p (RS ([[1,n]].map (·++List.replicate (2*w) 0))) f↔_;rw[Li,VQ];constructor
  ·rintro⟨h,z⟩;exact⟨h,λs _ _=>z (2+s) (by lia)⟩
  ·rintro⟨h,z⟩;refine⟨h,λj hj=>?_⟩
   have:=z (j-2) (by show ¬(c≤_∧_<c+0);lia) (by show ¬(_∧_<w+c+0);lia)
   have e:(Drw.times n).aK+(Drw.times n).aN+(j-2)=j:=by show 1+1+(j-2)=j;lia
   rwa[e]at this
 | .back d,c,hd,hc=>λf=>by
  have hc:c+d.aJ≤w:=hc;show jd p w c d (bt (jz d.aN d.aK) f)↔TR p d (sh d.aN f) (sh (d.aN+d.aK+c) f) f (sh (d.aN+d.aK+w+c) f)∧Out p (d.aN+d.aK) w c d.aJ f;have e1:∀j,j<d.aK→bt (jz d.aN d.aK) f j=f (d.aN+j):=λj hj=>by
   unfold bt jz;simp only[hj,if_true];lia
  have e2:∀j,j<d.aN→bt (jz d.aN d.aK) f (d.aK+j)=f j:=λj hj=>by
   unfold bt jz;simp only[show ¬d.aK+j<d.aK by lia,show d.aK+j<d.aK+d.aN by lia,if_true,if_false,show d.aK+j-d.aK=j by lia];lia
  have e3:∀s,bt (jz d.aN d.aK) f (d.aK+d.aN+s)=f (d.aN+d.aK+s):=λs=>by
   unfold bt jz;simp only[show ¬d.aK+d.aN+s<d.aK by lia,show ¬d.aK+d.aN+s<d.aK+d.aN by lia,if_false];rw[qB d.aK];lia
  rw[oD (d:=d) hd hc];generalize bt (jz d.aN d.aK) f=g at e1 e2 e3 ⊢;have c1:Cg p d.aK g (sh d.aN f):=λj hj=>cK (e1 j hj);have c2:Cg p d.aJ (sh (d.aK+d.aN+c) g) (sh (d.aN+d.aK+c) f):=λj hj=>cK (by unfold sh;have:=e3 (c+j);rw[← jV,← jV]at this;exact this);have c3:Cg p d.aN (sh d.aK g) f:=λj hj=>cK (e2 j hj);have c4:Cg p d.aJ (sh (d.aK+d.aN+w+c) g) (sh (d.aN+d.aK+w+c) f):=λj hj=>cK (by unfold sh;have:=e3 (w+c+j);rw[← jV,← jV,← jV,← jV]at this;exact this);constructor
  ·rintro⟨h,z⟩;exact⟨TR.cD hd c1 c2 c3 c4 h,λs h1 h2=>by rw[← e3 s];exact z s h1 h2⟩
  ·rintro⟨h,z⟩;exact⟨TR.cD hd c1.symm c2.symm c3.symm c4.symm h,λs h1 h2=>by rw[e3 s];exact z s h1 h2⟩
 | .dO a b,c,hd,hc=>λf=>by
  have hc:c+(a.aJ+b.aJ)≤w:=hc;show(∃u v,jd p w c a u∧jd p w (c+a.aJ) b v∧_)↔(TR p a f (sh (a.aK+b.aK+(a.aN+b.aN)+c) f) (sh (a.aK+b.aK) f) (sh (a.aK+b.aK+(a.aN+b.aN)+w+c) f)∧
   TR p b (sh a.aK f) (sh a.aJ (sh (a.aK+b.aK+(a.aN+b.aN)+c) f)) (sh a.aN (sh (a.aK+b.aK) f)) (sh a.aJ (sh (a.aK+b.aK+(a.aN+b.aN)+w+c) f)))∧Out p (a.aK+b.aK+(a.aN+b.aN)) w c (a.aJ+b.aJ) f
  constructor
  ·rintro⟨u,v,hu,hv,e⟩;obtain⟨b1,b2,b3,b4,b5⟩:=Lf.mp e;obtain⟨tu,ou⟩:=(oD (d:=a) hd.1 (by lia) u).mp hu;obtain⟨tv,ov⟩:=(oD (d:=b) hd.2 (by lia) v).mp hv;obtain⟨o1,o2,o3⟩:=Lk b5 ou ov hc;refine⟨⟨TR.cD hd.1 b1 (λj hj=>?_) b3 (λj hj=>?_) tu,TR.cD hd.2 b2 (λj hj=>?_) (λj hj=>?_) (λj hj=>?_) tv⟩,o1⟩
   ·have:=o2 (c+j) (.inl (by lia))
    unfold sh;rwa[← jV,← jV]at this
   ·have:=o2 (w+c+j) (.inr (by lia))
    unfold sh;rwa[show a.aK+a.aN+(w+c+j)=a.aK+a.aN+w+c+j by lia,show a.aK+b.aK+(a.aN+b.aN)+(w+c+j)=a.aK+b.aK+(a.aN+b.aN)+w+c+j by lia]at this
   ·have:=o3 (c+a.aJ+j) (.inl (by lia))
    unfold sh;rwa[show b.aK+b.aN+(c+a.aJ+j)=b.aK+b.aN+(c+a.aJ)+j by lia,show a.aK+b.aK+(a.aN+b.aN)+(c+a.aJ+j)=a.aK+b.aK+(a.aN+b.aN)+c+(a.aJ+j) by lia]at this
   ·have:=b4 j hj
    unfold sh;exact this
   ·have:=o3 (w+(c+a.aJ)+j) (.inr (by lia))
    unfold sh;rwa[show b.aK+b.aN+(w+(c+a.aJ)+j)=b.aK+b.aN+w+(c+a.aJ)+j by lia,show a.aK+b.aK+(a.aN+b.aN)+(w+(c+a.aJ)+j)=a.aK+b.aK+(a.aN+b.aN)+w+c+(a.aJ+j) by lia]at this
  ·rintro⟨⟨ta,tb⟩,o⟩;generalize hB:a.aK+b.aK+(a.aN+b.aN)=B at ta tb o;have u1:∀j,j<a.aK→part (a.aK+a.aN) B w c a.aJ (λj=>if j<a.aK then f j else f (a.aK+b.aK+(j-a.aK))) f j=f j:=λj hj=>by
    rw[qm (by lia),ae hj]
   have u2:∀j,j<a.aN→part (a.aK+a.aN) B w c a.aJ (λj=>if j<a.aK then f j else f (a.aK+b.aK+(j-a.aK))) f (a.aK+j)=f (a.aK+b.aK+j):=λj hj=>by
    rw[qm (by lia),ah (by lia),show a.aK+j-a.aK=j by lia]
   have v1:∀j,j<b.aK→part (b.aK+b.aN) B w (c+a.aJ) b.aJ (λj=>if j<b.aK then f (a.aK+j)else f (a.aK+b.aK+(a.aN+(j-b.aK)))) f j=f (a.aK+j):=λj hj=>by
    rw[qm (by lia),ae hj]
   have v2:∀j,j<b.aN→part (b.aK+b.aN) B w (c+a.aJ) b.aJ (λj=>if j<b.aK then f (a.aK+j)else f (a.aK+b.aK+(a.aN+(j-b.aK)))) f (b.aK+j)=f (a.aK+b.aK+(a.aN+j)):=λj hj=>by
    rw[qm (by lia),ah (by lia),show b.aK+j-b.aK=j by lia]
   have u3:∀s,iD w c a.aJ s→part (a.aK+a.aN) B w c a.aJ (λj=>if j<a.aK then f j else f (a.aK+b.aK+(j-a.aK))) f (a.aK+a.aN+s)=f (B+s):=λs hs=>uC hs
   have v3:∀s,iD w (c+a.aJ) b.aJ s→part (b.aK+b.aN) B w (c+a.aJ) b.aJ (λj=>if j<b.aK then f (a.aK+j)else f (a.aK+b.aK+(a.aN+(j-b.aK)))) f (b.aK+b.aN+s)=f (B+s):=λs hs=>uC hs
   have ou:Out p (a.aK+a.aN) w c a.aJ (part (a.aK+a.aN) B w c a.aJ (λj=>if j<a.aK then f j else f (a.aK+b.aK+(j-a.aK))) f):=Ax
   have ov:Out p (b.aK+b.aN) w (c+a.aJ) b.aJ (part (b.aK+b.aN) B w (c+a.aJ) b.aJ (λj=>if j<b.aK then f (a.aK+j)else f (a.aK+b.aK+(a.aN+(j-b.aK)))) f):=Ax
   have sm:∀s,p∣_+_-f (B+s):=Ll (ba:=a.aK+a.aN) (bb:=b.aK+b.aN) (g:=λj=>if j<a.aK then f j else f (a.aK+b.aK+(j-a.aK))) (g':=λj=>if j<b.aK then f (a.aK+j)else f (a.aK+b.aK+(a.aN+(j-b.aK)))) o hc
   generalize part (a.aK+a.aN) B w c a.aJ (λj=>if j<a.aK then f j else f (a.aK+b.aK+(j-a.aK))) f=u at u1 u2 u3 ou sm
   generalize part (b.aK+b.aN) B w (c+a.aJ) b.aJ (λj=>if j<b.aK then f (a.aK+j)else f (a.aK+b.aK+(a.aN+(j-b.aK)))) f=v at v1 v2 v3 ov sm
   refine⟨u,v,(oD (d:=a) hd.1 (by lia) u).mpr ⟨TR.cD hd.1 (λj hj=>cK (u1 j hj).symm) (λj hj=>cK ?_) (λj hj=>cK (u2 j hj).symm) (λj hj=>cK ?_) ta,ou⟩,(oD (d:=b) hd.2 (by lia) v).mpr ⟨TR.cD hd.2 (λj hj=>cK (v1 j hj).symm) (λj hj=>cK ?_) (λj hj=>cK (v2 j hj).symm) (λj hj=>cK ?_) tb,ov⟩,
    Lf.mpr ⟨λj hj=>cK (u1 j hj),λj hj=>cK (v1 j hj),λj hj=>cK (u2 j hj),λj hj=>cK (v2 j hj),λs=>by rw[hB];exact sm s⟩⟩
   ·have:=u3 (c+j) (.inl (by lia))
    unfold sh;rw[← jV,← jV]at this;exact this.symm
   ·have:=u3 (w+c+j) (.inr (by lia))
    unfold sh;rw[show a.aK+a.aN+(w+c+j)=a.aK+a.aN+w+c+j by lia,show B+(w+c+j)=B+w+c+j by lia]at this;exact this.symm
   ·have:=v3 (c+a.aJ+j) (.inl (by lia))
    unfold sh;rw[show b.aK+b.aN+(c+a.aJ+j)=b.aK+b.aN+(c+a.aJ)+j by lia,show B+(c+a.aJ+j)=B+c+(a.aJ+j) by lia]at this;exact this.symm
   ·have:=v3 (w+(c+a.aJ)+j) (.inr (by lia))
    unfold sh;rw[show b.aK+b.aN+(w+(c+a.aJ)+j)=b.aK+b.aN+w+(c+a.aJ)+j by lia,show B+(w+(c+a.aJ)+j)=B+w+c+(a.aJ+j) by lia]at this;exact this.symm
 | .bj a b,c,hd,hc=>λf=>by
  have hc:c+(a.aJ+b.aJ)≤w:=hc;have hm:a.aN=b.aK:=hd.2.2;show(∃u v,jd p w c a u∧jd p w (c+a.aJ) b v∧(∀j,j<a.aN→p∣u (a.aK+j)-v j)∧_)↔(∃m,TR p a f (sh (a.aK+b.aN+c) f) m (sh (a.aK+b.aN+w+c) f)∧
   TR p b m (sh a.aJ (sh (a.aK+b.aN+c) f)) (sh a.aK f) (sh a.aJ (sh (a.aK+b.aN+w+c) f)))∧Out p (a.aK+b.aN) w c (a.aJ+b.aJ) f
  constructor
  ·rintro⟨u,v,hu,hv,e0,e⟩;obtain⟨b1,b2,b3⟩:=Lg.mp e;obtain⟨tu,ou⟩:=(oD (d:=a) hd.1 (by lia) u).mp hu;obtain⟨tv,ov⟩:=(oD (d:=b) hd.2.1 (by lia) v).mp hv;obtain⟨o1,o2,o3⟩:=Lk (ba:=a.aK+a.aN) (bb:=b.aK+b.aN) (λs=>by rw[← hm];exact b3 s) ou ov hc;refine⟨⟨v,TR.cD hd.1 b1 (λj hj=>?_) e0 (λj hj=>?_) tu,TR.cD hd.2.1 (.refl _ _) (λj hj=>?_) (λj hj=>?_) (λj hj=>?_) tv⟩,o1⟩
   ·have:=o2 (c+j) (.inl (by lia))
    unfold sh;rwa[← jV,← jV]at this
   ·have:=o2 (w+c+j) (.inr (by lia))
    unfold sh;rwa[show a.aK+a.aN+(w+c+j)=a.aK+a.aN+w+c+j by lia,show a.aK+b.aN+(w+c+j)=a.aK+b.aN+w+c+j by lia]at this
   ·have:=o3 (c+a.aJ+j) (.inl (by lia))
    unfold sh;rwa[show b.aK+b.aN+(c+a.aJ+j)=b.aK+b.aN+(c+a.aJ)+j by lia,show a.aK+b.aN+(c+a.aJ+j)=a.aK+b.aN+c+(a.aJ+j) by lia]at this
   ·have:=b2 j hj
    unfold sh;rwa[hm]at this
   ·have:=o3 (w+(c+a.aJ)+j) (.inr (by lia))
    unfold sh;rwa[show b.aK+b.aN+(w+(c+a.aJ)+j)=b.aK+b.aN+w+(c+a.aJ)+j by lia,show a.aK+b.aN+(w+(c+a.aJ)+j)=a.aK+b.aN+w+c+(a.aJ+j) by lia]at this
  ·rintro⟨⟨m,ta,tb⟩,o⟩;have u1:∀j,j<a.aK→part (a.aK+a.aN) (a.aK+b.aN) w c a.aJ (λj=>if j<a.aK then f j else m (j-a.aK)) f j=f j:=λj hj=>by
    rw[qm (by lia),ae hj]
   have u2:∀j,j<a.aN→part (a.aK+a.aN) (a.aK+b.aN) w c a.aJ (λj=>if j<a.aK then f j else m (j-a.aK)) f (a.aK+j)=m j:=λj hj=>by
    rw[qm (by lia),ah (by lia),show a.aK+j-a.aK=j by lia]
   have v1:∀j,j<b.aK→part (b.aK+b.aN) (a.aK+b.aN) w (c+a.aJ) b.aJ (λj=>if j<b.aK then m j else f (a.aK+(j-b.aK))) f j=m j:=λj hj=>by
    rw[qm (by lia),ae hj]
   have v2:∀j,j<b.aN→part (b.aK+b.aN) (a.aK+b.aN) w (c+a.aJ) b.aJ (λj=>if j<b.aK then m j else f (a.aK+(j-b.aK))) f (b.aK+j)=f (a.aK+j):=λj hj=>by
    rw[qm (by lia),ah (by lia),show b.aK+j-b.aK=j by lia]
   have u3:∀s,iD w c a.aJ s→part (a.aK+a.aN) (a.aK+b.aN) w c a.aJ (λj=>if j<a.aK then f j else m (j-a.aK)) f (a.aK+a.aN+s)=f (a.aK+b.aN+s):=λs hs=>uC hs
   have v3:∀s,iD w (c+a.aJ) b.aJ s→part (b.aK+b.aN) (a.aK+b.aN) w (c+a.aJ) b.aJ (λj=>if j<b.aK then m j else f (a.aK+(j-b.aK))) f (b.aK+b.aN+s)=f (a.aK+b.aN+s):=λs hs=>uC hs
   have ou:Out p (a.aK+a.aN) w c a.aJ (part (a.aK+a.aN) (a.aK+b.aN) w c a.aJ (λj=>if j<a.aK then f j else m (j-a.aK)) f):=Ax
   have ov:Out p (b.aK+b.aN) w (c+a.aJ) b.aJ (part (b.aK+b.aN) (a.aK+b.aN) w (c+a.aJ) b.aJ (λj=>if j<b.aK then m j else f (a.aK+(j-b.aK))) f):=Ax
   have sm:∀s,p∣_+_-f (a.aK+b.aN+s):=Ll (ba:=a.aK+a.aN) (bb:=b.aK+b.aN) (g:=λj=>if j<a.aK then f j else m (j-a.aK)) (g':=λj=>if j<b.aK then m j else f (a.aK+(j-b.aK))) o hc
   generalize part (a.aK+a.aN) (a.aK+b.aN) w c a.aJ (λj=>if j<a.aK then f j else m (j-a.aK)) f=u at u1 u2 u3 ou sm
   generalize part (b.aK+b.aN) (a.aK+b.aN) w (c+a.aJ) b.aJ (λj=>if j<b.aK then m j else f (a.aK+(j-b.aK))) f=v at v1 v2 v3 ov sm
   refine⟨u,v,(oD (d:=a) hd.1 (by lia) u).mpr ⟨TR.cD hd.1 (λj hj=>cK (u1 j hj).symm) (λj hj=>cK ?_) (λj hj=>cK (u2 j hj).symm) (λj hj=>cK ?_) ta,ou⟩,(oD (d:=b) hd.2.1 (by lia) v).mpr ⟨TR.cD hd.2.1 (λj hj=>cK (v1 j hj).symm) (λj hj=>cK ?_) (λj hj=>cK (v2 j hj).symm) (λj hj=>cK ?_) tb,ov⟩,
    λj hj=>cK (by rw[u2 j hj,v1 j (by lia)]),Lg.mpr ⟨λj hj=>cK (u1 j hj),λj hj=>cK (by rw[hm];exact v2 j hj),λs=>by have:=sm s;rw[← hm]at this;exact this⟩⟩
   ·have:=u3 (c+j) (.inl (by lia))
    unfold sh;rw[← jV,← jV]at this;exact this.symm
   ·have:=u3 (w+c+j) (.inr (by lia))
    unfold sh;rw[show a.aK+a.aN+(w+c+j)=a.aK+a.aN+w+c+j by lia,show a.aK+b.aN+(w+c+j)=a.aK+b.aN+w+c+j by lia]at this;exact this.symm
   ·have:=v3 (c+a.aJ+j) (.inl (by lia))
    unfold sh;rw[show b.aK+b.aN+(c+a.aJ+j)=b.aK+b.aN+(c+a.aJ)+j by lia,show a.aK+b.aN+(c+a.aJ+j)=a.aK+b.aN+c+(a.aJ+j) by lia]at this;exact this.symm
   ·have:=v3 (w+(c+a.aJ)+j) (.inr (by lia))
    unfold sh;rw[show b.aK+b.aN+(w+(c+a.aJ)+j)=b.aK+b.aN+w+(c+a.aJ)+j by lia,show a.aK+b.aN+(w+(c+a.aJ)+j)=a.aK+b.aN+w+c+(a.aJ+j) by lia]at this;exact this.symm
end
section
variable{p:Int}
abbrev gU:=List Int→List Int→List Int×List Int
structure iE(p:Int)(d:Drw)(F:gU):Prop where
 wf:d.eQ p
 len:∀g k,g.length=d.aK→k.length=d.aJ→(F g k).1.length=d.aN∧(F g k).2.length=d.aJ
 tr:∀g k,g.length=d.aK→k.length=d.aJ→∀y a,TR p d (fn g) (fn k) y a↔Cg p d.aN y (fn (F g k).1)∧Cg p d.aJ a (fn (F g k).2)
theorem jO{r:List Int}(h:j<r.length):fn (r++s) j=fn r j:=by
 unfold fn;rw[cF,cF,gz h]
theorem EE{r:List Int}{n:Nat}(h:r.length=n):sh n (fn (r++s))=fn s:=by
 funext j
 unfold sh fn;rw[cF,cF,gZ (by lia),show n+j-r.length=j by lia]
theorem je{r:List Int}{n:Nat}(h:j<n):fn (r.take n) j=fn r j:=by
 unfold fn;rw[cF,cF,List.getElem?_take_of_lt h]
theorem pL(r:List Int)(n:Nat):sh n (fn r)=fn (r.drop n):=by
 funext j
 unfold sh fn;rw[cF,cF,List.getElem?_drop]
theorem EF{n:Nat}{r:List Int}(h:r.length=n):Cg p (n+m) y (fn (r++s))↔Cg p n y (fn r)∧Cg p m (sh n y) (fn s):=by
 constructor
 ·intro z;refine⟨λj hj=>?_,?_⟩
  ·have:=z j (by lia)
   rwa[jO (by lia)]at this
  ·have:=Cg.sh z
   rwa[EE h]at this
 ·rintro⟨z1,z2⟩ j hj;by_cases hn:j<n
  ·rw[jO (by lia)];exact z1 j hn
  ·have:=z2 (j-n) (by lia)
   rw[← EE (s:=s) h]at this;unfold sh at this;rwa[show n+(j-n)=j by lia]at this
theorem Cg.trans{n:Nat}{h:Fn}(a:Cg p n f g)(b:Cg p n g h):Cg p n f h:=λj hj=>pK (a j hj) (b j hj) (by lia)
noncomputable def oE(la na:Nat)(F G:gU):gU:=λg k=>((F (g.take la) (k.take na)).1++(G (g.drop la) (k.drop na)).1,(F (g.take la) (k.take na)).2++(G (g.drop la) (k.drop na)).2)
noncomputable def qo(na:Nat)(F G:gU):gU:=λg k=>((G (F g (k.take na)).1 (k.drop na)).1,(F g (k.take na)).2++(G (F g (k.take na)).1 (k.drop na)).2)
theorem iE.VY{a b:Drw}{F G:gU}(ha:iE p a F)(hb:iE p b G):iE p (.dO a b) (oE a.aK a.aJ F G):=by
 have sub:∀g k:List Int,g.length=a.aK+b.aK→k.length=a.aJ+b.aJ→((g.take a.aK).length=a.aK∧(k.take a.aJ).length=a.aJ)∧(g.drop a.aK).length=b.aK∧(k.drop a.aJ).length=b.aJ:=λg k hg hk=>by
  simp only[cV,eJ];lia
 refine⟨⟨ha.wf,hb.wf⟩,λg k hg hk=>?_,λg k hg hk y a'=>?_⟩
 ·obtain⟨⟨s1,s2⟩,s3,s4⟩:=sub g k hg hk;obtain⟨l1,l2⟩:=ha.len _ _ s1 s2;obtain⟨l3,l4⟩:=hb.len _ _ s3 s4;unfold oE;exact⟨by rw[bQ,l1,l3];rfl,by rw[bQ,l2,l4];rfl⟩
 ·obtain⟨⟨s1,s2⟩,s3,s4⟩:=sub g k hg hk;obtain⟨l1,l2⟩:=ha.len _ _ s1 s2;show TR p a (fn g) (fn k) y a'∧TR p b (sh a.aK (fn g)) (sh a.aJ (fn k)) (sh a.aN y) (sh a.aJ a')↔Cg p (a.aN+b.aN) y (fn (_++_))∧Cg p (a.aJ+b.aJ) a' (fn (_++_));rw[EF l1,EF l2,pL,pL,hb.tr _ _ s3 s4];have e:TR p a (fn g) (fn k) y a'↔TR p a (fn (g.take a.aK)) (fn (k.take a.aJ)) y a':=by
   have c1:Cg p a.aK (fn g) (fn (g.take a.aK)):=λj hj=>cK (je hj).symm;have c2:Cg p a.aJ (fn k) (fn (k.take a.aJ)):=λj hj=>cK (je hj).symm;exact⟨TR.cD ha.wf c1 c2 (.refl _ _) (.refl _ _),TR.cD ha.wf c1.symm c2.symm (.refl _ _) (.refl _ _)⟩
  rw[e,ha.tr _ _ s1 s2];constructor
  ·rintro⟨⟨h1,h2⟩,h3,h4⟩;exact⟨⟨h1,h3⟩,h2,h4⟩
  ·rintro⟨⟨h1,h3⟩,h2,h4⟩;exact⟨⟨h1,h2⟩,h3,h4⟩
theorem iE.bj{a b:Drw}{F G:gU}(hm:a.aN=b.aK)(ha:iE p a F)(hb:iE p b G):iE p (.bj a b) (qo a.aJ F G):=by
 have sub:∀k:List Int,k.length=a.aJ+b.aJ→(k.take a.aJ).length=a.aJ∧(k.drop a.aJ).length=b.aJ:=λk hk=>by
  simp only[cV,eJ];lia
 refine⟨⟨ha.wf,hb.wf,hm⟩,λg k hg hk=>?_,λg k hg hk y a'=>?_⟩
 ·obtain⟨s2,s4⟩:=sub k hk;obtain⟨l1,l2⟩:=ha.len _ _ hg s2;obtain⟨l3,l4⟩:=hb.len _ _ (l1.trans hm) s4;unfold qo;exact⟨l3,by rw[bQ,l2,l4];rfl⟩
 ·obtain⟨s2,s4⟩:=sub k hk;obtain⟨l1,l2⟩:=ha.len g _ hg s2;show(∃m,TR p a (fn g) (fn k) m a'∧TR p b m (sh a.aJ (fn k)) y (sh a.aJ a'))↔Cg p b.aN y (fn _)∧Cg p (a.aJ+b.aJ) a' (fn (_++_));rw[EF l2,pL];have c2:Cg p a.aJ (fn k) (fn (k.take a.aJ)):=λj hj=>cK (je hj).symm;constructor
  ·rintro⟨m,h1,h2⟩;obtain⟨h3,h4⟩:=(ha.tr g _ hg s2 m a').mp (TR.cD ha.wf (.refl _ _) c2 (.refl _ _) (.refl _ _) h1);obtain⟨h5,h6⟩:=(hb.tr _ _ (l1.trans hm) s4 y _).mp (TR.cD hb.wf (hm▸h3) (.refl _ _) (.refl _ _) (.refl _ _) h2);exact⟨h5,h4,h6⟩
  ·rintro⟨h5,h4,h6⟩;exact⟨fn (F g (k.take a.aJ)).1,TR.cD ha.wf (.refl _ _) c2.symm (.refl _ _) (.refl _ _) ((ha.tr g _ hg s2 _ a').mpr ⟨.refl _ _,h4⟩),(hb.tr _ _ (l1.trans hm) s4 y _).mpr ⟨h5,h6⟩⟩
end
inductive Bx where
 |add|swap|copy|times (n:Int)|dg|id|none|fin
namespace Bx
noncomputable def cm:Bx→Drw
 |add=>.box "add" 2 1 [[1,0,1],[0,1,1]]
 |swap=>.box "swap" 2 2 [[1,0,0,1],[0,1,1,0]]
 |copy=>.box "copy" 1 2 [[1,1,1]]
 |times n=>.times n
 |dg=>.box "late" 1 1 []
 |id=>.box "id" 1 1 [[1,1]]
 |none=>.box "none" 0 1 []
 |fin=>.box "end" 1 0 [[1]]
noncomputable def run(p:Int):Bx→gU
 |add=>λg _=>([(fn g 0+fn g 1)%p],[])
 |swap=>λg _=>([fn g 1,fn g 0],[])
 |copy=>λg _=>([fn g 0,fn g 0],[])
 |times n=>λg _=>([fn g 0*n%p],[])
 |dg=>λg k=>([fn k 0],[fn g 0])
 |id=>λg _=>([fn g 0],[])
 |none=>λ_ _=>([0],[])
 |fin=>λ_ _=>([],[])
def wf(p:Int):Bx→Prop
 |times n=>0≤n∧n<p
 |_=>True
end Bx
section
variable{p:Int}
theorem oF{z:Fn}:Cg p 0 y z:=λj hj=>absurd hj (Nat.not_lt_zero j)
theorem uD{u:Int}:Cg p 1 y (fn [u])↔p∣y 0-u:=by
 constructor
 ·intro h;exact h 0 (by decide)
 ·intro h j hj;obtain rfl:j=0:=by lia
  exact h
theorem Lm{u v:Int}:Cg p 2 y (fn [u,v])↔p∣y 0-u∧p∣y 1-v:=by
 constructor
 ·intro h;exact⟨h 0 (by decide),h 1 (by decide)⟩
 ·rintro⟨h,h'⟩ j hj
  match j,hj with
  |0,_=>exact h
  |1,_=>exact h'
  |j+2,hj=>lia
theorem qp{n:Str}{l r:Nat}{aQ:LL}{x k a:Fn}(h:(n,l,r,aQ)∈fV):TR p (.box n l r aQ) x k y a↔Sp p (RS aQ) (λj=>if j<l then x j else if j<l+r then y (j-l)else 0):=by
 unfold TR;rw[ah (ql _ h)]
theorem l7{n:Str}{l r:Nat}{aQ:LL}(h:(n,l,r,aQ)∈fV):(Drw.box n l r aQ).aJ=0:=ah (ql _ h)
theorem rO{n:Nat}(h:∀j,n≤j→f j=0):Nil p f n:=λj hj=>by rw[h j hj];exact⟨0,by lia⟩
theorem Ln(a b:Int):p∣a-b%p↔p∣a-b:=by
 have h:=n9 p b;constructor
 ·intro z;exact pK z h (by lia)
 ·intro z;exact g8 z h (by lia)
theorem wQ(b:Bx)(hb:b.wf p):iE p b.cm (b.run p):=by
 cases b with
 |add=>
  have m:(("add":Str),2,1,[[1,0,1],[0,1,1]])∈fV:=by decide +kernel
  refine⟨.inl m,λg k _ _=>⟨rfl,(l7 m).symm⟩,λg k _ _ y a=>?_⟩;show TR p (.box _ _ _ _) _ _ _ _↔Cg p 1 y (fn [_])∧Cg p (Drw.box _ _ _ _).aJ a (fn []);rw[qp m,l7 m,VU,uD,Ln];exact⟨λh=>⟨h.1,oF⟩,λh=>⟨h.1,rO λj hj=>by rw[ah (by lia),ah (by lia)]⟩⟩
 |swap=>
  have m:(("swap":Str),2,2,[[1,0,0,1],[0,1,1,0]])∈fV:=by decide +kernel
  refine⟨.inl m,λg k _ _=>⟨rfl,(l7 m).symm⟩,λg k _ _ y a=>?_⟩;show TR p (.box _ _ _ _) _ _ _ _↔Cg p 2 y (fn [_,_])∧Cg p (Drw.box _ _ _ _).aJ a (fn []);rw[qp m,l7 m,VV,Lm];exact⟨λh=>⟨⟨h.2.1,h.1⟩,oF⟩,λh=>⟨h.1.2,h.1.1,rO λj hj=>by rw[ah (by lia),ah (by lia)]⟩⟩
 |copy=>
  have m:(("copy":Str),1,2,[[1,1,1]])∈fV:=by decide +kernel
  refine⟨.inl m,λg k _ _=>⟨rfl,(l7 m).symm⟩,λg k _ _ y a=>?_⟩;show TR p (.box _ _ _ _) _ _ _ _↔Cg p 2 y (fn [_,_])∧Cg p (Drw.box _ _ _ _).aJ a (fn []);rw[qp m,l7 m,VT,Lm];exact⟨λh=>⟨⟨h.1,h.2.1⟩,oF⟩,λh=>⟨h.1.1,h.1.2,rO λj hj=>by rw[ah (by lia),ah (by lia)]⟩⟩
 |times n=>
  refine⟨hb,λg k _ _=>⟨rfl,rfl⟩,λg k _ _ y a=>?_⟩;show p∣y 0-n*fn g 0↔Cg p 1 y (fn [_])∧Cg p 0 a (fn []);rw[uD,Ln,mj];exact⟨λh=>⟨h,oF⟩,λh=>h.1⟩
 |dg=>
  refine⟨.inr ⟨rfl,rfl,rfl⟩,λg k _ _=>⟨rfl,rfl⟩,λg k _ _ y a=>?_⟩;show(if _ then _ else _)↔Cg p 1 y (fn [_])∧Cg p 1 a (fn [_])
  rw[ae rfl,uD,uD]
 |id=>
  have m:(("id":Str),1,1,[[1,1]])∈fV:=by decide +kernel
  refine⟨.inl m,λg k _ _=>⟨rfl,(l7 m).symm⟩,λg k _ _ y a=>?_⟩;show TR p (.box _ _ _ _) _ _ _ _↔Cg p 1 y (fn [_])∧Cg p (Drw.box _ _ _ _).aJ a (fn []);rw[qp m,l7 m,EC,uD];exact⟨λh=>⟨h.1,oF⟩,λh=>⟨h.1,rO λj hj=>by rw[ah (by lia),ah (by lia)]⟩⟩
 |none=>
  have m:(("none":Str),0,1,[])∈fV:=by decide +kernel
  refine⟨.inl m,λg k _ _=>⟨rfl,(l7 m).symm⟩,λg k _ _ y a=>?_⟩;show TR p (.box _ _ _ _) _ _ _ _↔Cg p 1 y (fn [_])∧Cg p (Drw.box _ _ _ _).aJ a (fn []);rw[qp m,l7 m,jt,uD,qG];refine⟨λh=>⟨h 0,oF⟩,λh j=>?_⟩;by_cases hj:j<1
  ·obtain rfl:j=0:=by lia
   exact h.1
  ·rw[ah (by lia),ah (by lia)];exact⟨0,by lia⟩
 |fin=>
  have m:(("end":Str),1,0,[[1]])∈fV:=by decide +kernel
  refine⟨.inl m,λg k _ _=>⟨rfl,(l7 m).symm⟩,λg k _ _ y a=>?_⟩;show TR p (.box _ _ _ _) _ _ _ _↔Cg p 0 y (fn [])∧Cg p (Drw.box _ _ _ _).aJ a (fn []);rw[qp m,l7 m,VR];exact⟨λ_=>⟨oF,oF⟩,λ_=>rO λj hj=>by rw[ah (by lia),ah (by lia)]⟩
end
end S21
namespace S21
open PySem L2 Bw
variable{D:Ends}{F:gU}{H:Hp}{L i:Nat}{W d:Drw}{a x y:Fn}{aw:Addr}{g row:List Int}{p:Int}{t:Itm}
noncomputable abbrev Bx.l(b:Bx):Nat:=b.cm.aK
noncomputable abbrev Bx.r(b:Bx):Nat:=b.cm.aN
noncomputable abbrev Bx.n(b:Bx):Nat:=b.cm.aJ
noncomputable def bN:List Bx→Drw
 | []=>Bx.id.cm
 | [b]=>b.cm
 |b::c::bs=>.dO b.cm (bN (c::bs))
noncomputable def fZ(p:Int):List Bx→gU
 | []=>Bx.id.run p
 | [b]=>b.run p
 |b::c::bs=>oE b.l b.n (b.run p) (fZ p (c::bs))
noncomputable def e9:List (List Bx)→Drw
 | []=>Bx.id.cm
 | [x]=>bN x
 |x::y::xs=>.bj (bN x) (e9 (y::xs))
noncomputable def jf(p:Int):List (List Bx)→gU
 | []=>Bx.id.run p
 | [x]=>fZ p x
 |x::y::xs=>qo (bN x).aJ (fZ p x) (jf p (y::xs))
def Met:List (List Bx)→Prop
 |x::y::xs=>(bN x).aN=(bN y).aK∧Met (y::xs)
 |_=>True
theorem Lo:∀(x:List Bx)(xs:List (List Bx)),(e9 (x::xs)).aK=(bN x).aK
 |x,[]=>rfl
 |x,y::ys=>rfl
section
variable{p:Int}
theorem uE:∀{bs:List Bx},(∀b∈bs,b.wf p)→iE p (bN bs) (fZ p bs)
 | [],_=>wQ .id trivial
 | [b],h=>wQ b (h b cZ)
 |b::c::bs,h=>iE.VY (wQ b (h b cZ)) (uE λx hx=>h x (fu _ hx))
theorem Lp:∀{ls:List (List Bx)},(∀bs∈ls,∀b∈bs,b.wf p)→Met ls→iE p (e9 ls) (jf p ls)
 | [],_,_=>wQ .id trivial
 | [x],h,_=>uE (h x cZ)
 |x::y::xs,h,m=>iE.bj (by rw[Lo];exact m.1) (uE (h x cZ)) (Lp (λz hz=>h z (fu _ hz)) m.2)
noncomputable abbrev jP:Drw:=.box "cup" 0 2 [[1,1]]
noncomputable def cg:Nat→List Bx:=λn=>List.replicate n .id
noncomputable def qr(l r:Nat)(W:Drw):Drw:=.bj (.dO jP (bN (cg l))) (.bj (.dO Bx.id.cm W) (.dO (.back jP) (bN (cg r))))
noncomputable def wR(F:gU):gU:=λg k=>((F (k.getLastD 0::g) k).1.drop 1,(F (k.getLastD 0::g) k).2)
theorem VZ{k:Fn}:TR p jP x k y a↔p∣y 1-y 0:=by
 have m:(("cup":Str),0,2,[[1,1]])∈fV:=by decide +kernel
 rw[qp m,EC];exact⟨λh=>h.1,λh=>⟨h,rO λj hj=>by rw[ah (by lia),ah (by lia)]⟩⟩
theorem l8:∀n,1≤n→(bN (cg n)).dD=(n,n)∧(bN (cg n)).aJ=0
 |0,h=>by lia
 |1,_=>⟨rfl,by decide +kernel⟩
 |n+2,_=>by
  have ih:=l8 (n+1) (by lia);show((1+(bN (cg (n+1))).dD.1,1+(bN (cg (n+1))).dD.2):Nat×Nat)=_∧Bx.id.cm.aJ+(bN (cg (n+1))).aJ=0;rw[ih.1,ih.2];exact⟨by rw[show 1+(n+1)=n+2 by lia],by decide +kernel⟩
theorem Lq:∀n (g:List Int),1≤n→g.length=n→(fZ p (cg n) g []).1=g
 |0,_,h,_=>by lia
 |1,g,_,hg=>by
  match g,hg with
  | [x],_=>rfl
 |n+2,g,_,hg=>by
  match g,hg with
  |x::g,hg=>
   have hg:g.length=n+1:=by simpa using hg
   have ih:=Lq (n+1) g (by lia) hg;have e:(([]:List Int).drop (Bx.n .id))=[]:=List.drop_nil;show[x]++(fZ p (cg (n+1)) g (([]:List Int).drop (Bx.n .id))).1=_;rw[e,ih];rfl
theorem Lr{n:Nat}(h:1≤n){k:Fn}:TR p (bN (cg n)) x k y a↔Cg p n y x:=by
 have wf:∀b∈cg n,b.wf p:=λb hb=>by rw[vg hb];trivial
 obtain⟨e1,e2⟩:=l8 n h;have el:(bN (cg n)).aK=n:=ao Prod.fst e1;have er:(bN (cg n)).aN=n:=ao Prod.snd e1;have ok:=uE wf;have hg:((List.range n).map x).length=n:=by rw[bz,ml]
 have t:=ok.tr ((List.range n).map x) [] (by rw[el];exact hg) (by rw[e2];rfl) y a;rw[Lq n _ h hg,e2,er]at t;have fx:Cg p n (fn ((List.range n).map x)) x:=λj hj=>cK (by
  unfold fn;rw[cF,eI,List.getElem?_range hj];rfl)
 have c1:Cg p (bN (cg n)).aK (fn ((List.range n).map x)) x:=by rw[el];exact fx
 have c2:∀u v:Fn,Cg p (bN (cg n)).aJ u v:=λu v=>by rw[e2];exact oF
 constructor
 ·intro z;exact(t.mp (TR.cD ok.wf c1.symm (c2 _ _) (.refl _ _) (c2 _ _) z)).1.trans fx
 ·intro z;exact TR.cD ok.wf c1 (c2 _ _) (.refl _ _) (c2 _ _) (t.mpr ⟨z.trans fx.symm,oF⟩)
end
section
variable{p:Int}
theorem V0(f:Fn):sh 0 f=f:=by funext j;unfold sh;rw[Nat.zero_add]
theorem Ls:jP.aJ=0:=by decide +kernel
theorem Lu:Bx.id.cm.aJ=0:=by decide +kernel
theorem V1{k:Fn}:TR p Bx.id.cm x k y a↔p∣y 0-x 0:=by
 have m:(("id":Str),1,1,[[1,1]])∈fV:=by decide +kernel
 show TR p (.box _ _ _ _) _ _ _ _↔_;rw[qp m,EC];exact⟨λh=>h.1,λh=>⟨h,rO λj hj=>by rw[ah (by lia),ah (by lia)]⟩⟩
theorem V2{l r:Nat}(hl:1≤l)(hr:1≤r){k:Fn}:TR p (qr l r W) x k y a ↔
  ∃m1,(p∣m1 1-m1 0∧Cg p l (sh 2 m1) x)∧∃m2,(p∣m2 0-m1 0∧TR p W (sh 1 m1) k (sh 1 m2) a)∧p∣m2 1-m2 0∧Cg p r y (sh 2 m2):=by
 have i1:=(l8 l hl).2;have z1:(Drw.dO jP (bN (cg l))).aJ=0:=by show jP.aJ+(bN (cg l)).aJ=0;rw[Ls,i1]
 show(∃m1,(TR p jP x k m1 a∧TR p (bN (cg l)) (sh 0 x) (sh jP.aJ k) (sh 2 m1) (sh jP.aJ a))∧
  ∃m2,(TR p Bx.id.cm m1 (sh _ k) m2 (sh _ a)∧TR p W (sh 1 m1) (sh Bx.id.cm.aJ (sh (Drw.dO jP (bN (cg l))).aJ k)) (sh 1 m2) (sh Bx.id.cm.aJ (sh (Drw.dO jP (bN (cg l))).aJ a)))∧(TR p jP y _ m2 _∧TR p (bN (cg r)) (sh 2 m2) _ (sh 0 y) _))↔_
 rw[z1,Lu];simp only[V0,VZ,Lr hl,Lr hr,V1]
theorem Lv{l r:Nat}(hl:1≤l)(hr:1≤r):(qr l r W).aJ=W.aJ:=by
 show jP.aJ+(bN (cg l)).aJ+(Bx.id.cm.aJ+W.aJ+(jP.aJ+(bN (cg r)).aJ))=_;rw[Ls,Lu,(l8 l hl).2,(l8 r hr).2];lia
theorem Lw{l r:Nat}(hl:1≤l)(hr:1≤r):(qr l r W).aK=l∧(qr l r W).aN=r:=by
 constructor
 ·show 0+(bN (cg l)).dD.1=l;rw[(l8 l hl).1];show 0+l=l;lia
 ·show 0+(bN (cg r)).dD.2=r;rw[(l8 r hr).1];show 0+r=r;lia
theorem V3{l r n:Nat}(hl:1≤l)(hr:1≤r)(ok:iE p W F)(wl:W.aK=l+1)(wr:W.aN=r+1)(wn:W.aJ=n)
  (h0:∀s g k,g.length=l→k.length=n→fn (F (s::g) k).1 0=k.getLastD 0):iE p (qr l r W) (wR F):=by
 obtain⟨sl,sr⟩:=Lw (W:=W) hl hr;have sn:=Lv (W:=W) hl hr;have cw:∀m,1≤m→(bN (cg m)).eQ p:=λm hm=>(uE λb hb=>by rw[vg hb];trivial).wf;have cu:jP.eQ p:=.inl (by decide +kernel);refine⟨⟨⟨cu,cw l hl⟩,⟨⟨(wQ .id trivial).wf,ok.wf⟩,⟨cu,cw r hr⟩,?_⟩,?_⟩,λg k hg hk=>?_,λg k hg hk y a=>?_⟩
 ·show 1+W.aN=2+(bN (cg r)).dD.1;rw[(l8 r hr).1,wr];show _=2+r;lia
 ·show 2+(bN (cg l)).dD.2=1+W.aK;rw[(l8 l hl).1,wl];show 2+l=_;lia
 ·rw[sl]at hg;rw[sn]at hk;obtain⟨l1,l2⟩:=ok.len (k.getLastD 0::g) k (by rw[wl,eF,hg]) hk;rw[sr,sn];unfold wR;exact⟨by rw[eJ,l1,wr];lia,l2⟩
 ·rw[sl]at hg;rw[sn]at hk;have gl:∀s:Int,(s::g).length=W.aK:=λs=>by rw[wl,eF,hg]
  rw[sr,sn,V2 hl hr];unfold wR;generalize hs:k.getLastD 0=s;obtain⟨l1,l2⟩:=ok.len (s::g) k (gl s) hk;have cx:∀(m1:Fn)(t:Int),p∣m1 1-t→Cg p l (sh 2 m1) (fn g)→Cg p W.aK (sh 1 m1) (fn (t::g)):=λm1 t h1 h2=>by
   rw[wl];intro j hj
   match j,hj with
   |0,_=>exact h1
   |j+1,hj=>
    have:=h2 j (by lia)
    unfold sh at this ⊢;rw[show 1+(j+1)=2+j by lia];exact this
  constructor
  ·rintro⟨m1,⟨h1,h2⟩,m2,⟨h3,h4⟩,h5,h6⟩;obtain⟨t1,_⟩:=(ok.tr _ _ (gl (m1 1)) hk _ _).mp (TR.cD ok.wf (cx m1 (m1 1) (cK rfl) h2) (.refl _ _) (.refl _ _) (.refl _ _) h4);have t2:=t1 0 (by rw[wr];lia);rw[h0 _ g k hg (hk.trans wn),hs]at t2;have t2:p∣m2 1-s:=t2;have t3:p∣m1 1-s:=pK (g8 (pK h1 (ED h3) rfl) h5 rfl) t2 (by lia);obtain⟨t4,t5⟩:=(ok.tr _ _ (gl s) hk _ _).mp (TR.cD ok.wf (cx m1 s t3 h2) (.refl _ _) (.refl _ _) (.refl _ _) h4);refine⟨λj hj=>?_,t5⟩;have t6:=t4 (1+j) (by rw[wr];lia);have t7:=h6 j hj;rw[← pL];unfold sh at t6 t7 ⊢;rw[show 1+(1+j)=2+j by lia]at t6;exact pK t7 t6 (by lia)
  ·rintro⟨t1,t2⟩;have t0:=h0 s g k hg (hk.trans wn);rw[hs]at t0;refine⟨fn (s::s::g),⟨cK rfl,λj hj=>cK (by unfold sh fn;rw[qB];rfl)⟩,fn (s::(F (s::g) k).1),⟨cK rfl,?_⟩,?_,λj hj=>?_⟩
   ·have e1:sh 1 (fn (s::s::g))=fn (s::g):=by funext j;unfold sh fn;rw[qB];rfl
    have e2:sh 1 (fn (s::(F (s::g) k).1))=fn (F (s::g) k).1:=by funext j;unfold sh fn;rw[qB];rfl
    rw[e1,e2];exact(ok.tr _ _ (gl s) hk _ _).mpr ⟨.refl _ _,t2⟩
   ·exact cK t0
   ·have:=t1 j hj
    rw[← pL]at this;have e:sh 2 (fn (s::(F (s::g) k).1)) j=sh 1 (fn (F (s::g) k).1) j:=by unfold sh fn;rw[show 2+j=1+j+1 by lia];rfl
    rw[e];exact this
end
inductive rP(K:Frag)(p:Int)(w c:Nat)(x:Str)(ps:List V)(H:Hp)(Q:VK):Prop where
 |dg (hx:x="late") (hc:c<w) (q:∀v H',aM H H'→di K H' v 1 1 [[1,0]++dE (2*w) (w+c),[0,1]++dE (2*w) c]→Q (.ref v) H'):rP K p w c x ps H Q
 |box (l r:Nat) (aQ:LL) (hx:(x,l,r,aQ)∈fV) (q:∀v H',aM H H'→di K H' v l r (aQ.map (·++List.replicate (2*w) 0))→Q (.ref v) H'):rP K p w c x ps H Q
 |times (n:Int) (hx:x="times") (hp:ps=[.int n]) (q:∀v H',aM H H'→di K H' v 1 1 [[1,n]++List.replicate (2*w) 0]→Q (.ref v) H'):rP K p w c x ps H Q
 |made (hx:x="back"∨x="beside"∨x="then") (h:pI K p x ps H Q):rP K p w c x ps H Q
def Lx(K:Frag):Sp:=λvs H Q _=>∃(p:Int)(aw pa:Addr)(ws ps:List V)(i:Nat)(x:Str),vs=[.int p,.ref aw,.int i,.ref pa]∧p∈c7∧H aw=some (.tup ws)∧ws.all lu=true∧ws[i]?=some (.str x)∧H pa=some (.lst ps)∧cO "late" ws≤40∧
 rP K p (cO "late" ws) (cO "late" (ws.take i)) x ps H Q
abbrev Ly(j:Nat):TE:=bI (rI pY λi j=>.int (i*j)) (tC (.int 2)) (aO j)
abbrev Lz(i j:Int):TE:=eB (aW (tC (.int i)) (aW (tC (.int j)) bo))
def LA(K:Frag):TE:=uz uA (gu (yk K) (aO 1) iq (fi (aO 2))) (aW (tC (.str "late")) bo)
def LB(K:Frag):TE:=fw (Ep K) [] E0 (aW (Ly 5) bo)
def Ay(K:Frag):TE:=eB (aW (tC (.int 1)) (aW (tC (.int 1)) (aW (eB (aW (gv K (Lz 1 0) (bI (n5 K) (aO 7) (e8 (aO 5) (aO 6)))) (aW (gv K (Lz 0 1) (bI (n5 K) (aO 7) (aO 6))) bo))) bo)))
def Az(K:Frag):TS:=bZ (cy (LA K) (bq 6)) (bZ (cy (LB K) (bq 7)) (eA (Ay K)))
def EG(K:Frag):TE:=gv K (aO 0) (rK K (Ly 1))
def wU(K:Frag):TE:=gv K (gu (ia K) (aO 8) iq (fi (tC (.int 2)))) (eB (aW (fE (uo K) (aW (j9 (nW K (df K 8 2)) 1 [5] (bq 0) i8 (EG K)) bo)) bo))
def LC(K:Frag):TE:=fw (Ec K) [] E0 (aW (aO 0) (aW (aO 4) (aW (aO 3) bo)))
def AA(K:Frag)(aS:Addr):TS:=bZ (cy (bI (kH K) (aO 1) (aO 2)) (bq 4)) (bZ (cy (uz uA (aO 1) (aW (tC (.str "late")) bo)) (bq 5)) (bZ (eU (gs (bI lJ (aO 4) (tC (.str "late")))) (Az K) gR) (bZ (cy (LC K) (bq 8)) (bZ (eU (tB (JD aS (ib K aS) (aO 4) (tC (.ref aS)))) (eA (wU K)) gR) (eA (aO 8))))))
noncomputable abbrev LD:List Str:=["p","words","place","parts","word","waiting","count","states","told"]
theorem V4:(["row","waiting"]:List Str).Nodup:=by decide +kernel
theorem uF:c8 LD ["p","words","place","parts"] (bx zt):=dJ rfl rfl rfl (by decide +kernel) rfl
theorem V5{xs:List V}{k:Nat}(h:k≤xs.length):ir xs none (some (k:Int))=xs.take k:=by
 unfold ir;rw[HT.sZ,HT.yh,List.drop_zero,Nat.sub_zero,vf h]
theorem V6{n k:Nat}(h:k<n):¬(HT.cz n 0 none=0∧HT.cz n n (some (k:Int))=n):=λz=>by
 have e:=z.2;rw[HT.sZ]at e;lia
theorem V7{pa:Addr}{ws:List V}{x:Str}(ma:H aw=some (.tup ws))(uG:ws.all lu=true)(hi:i<ws.length)(hw:cO "late" ws≤40)(hc:cO "late" (ws.take i)<cO "late" ws)
  (q:∀v H',aM H H'→di K H' v 1 1 [[1,0]++dE (2*cO "late" ws) (cO "late" ws+cO "late" (ws.take i)),[0,1]++dE (2*cO "late" ws) (cO "late" (ws.take i))]→D.rt (.ref v) H') :
  Az K D [some (.int p),some (.ref aw),some (.int (i:Int)),some (.ref pa),some (.str x),some (.int (cO "late" ws:Nat)),none,none,none] H:=by
 unfold Az;refine⟨_,rfl,_,rfl,(i:Int),rfl,aw,ws,rfl,.of ma,V6 hi,λt ht=>?_⟩;rw[V5 (oO hi)];generalize cO "late" ws=w at hw hc q ⊢;have s1:=aM.upd (o:=.tup (ws.take i)) ht;refine⟨⟨t,_,rfl,aX⟩,t,_,"late",rfl,rfl,aX,?_,?_⟩
 ·exact qE.mpr λv hv=>qE.mp uG v (jU hv)
 generalize cO "late" (ws.take i)=c at hc q ⊢;refine⟨_,rfl,2,(w:Int),rfl,rfl,.inl ⟨by decide,by decide⟩,2*w,_,rfl,by lia,by lia,λl LS H2 s2 hl hL=>?_⟩;have len:(wI (2*w)).length=2*w:=by unfold wI;rw[bz,ml]
 have at_:∀k (hk:k<2*w),∃ra,LS[k]?=some (.ref ra)∧aZ K H2 ra ((dE (2*w) k).map V.int):=λk hk=>by
  obtain⟨ra,h1,h2⟩:=bG.at hL (i:=k) (by rw[len];exact hk);refine⟨ra,h1,?_⟩;have e:(wI (2*w))[k]'(by rw[len];exact hk)=dE (2*w) k:=by unfold wI;simp
  rw[e]at h2;exact h2
 obtain⟨r1,e1,h1⟩:=at_ (w+c) (by lia);obtain⟨r2,e2,h2⟩:=at_ c (by lia);have u1:∀k,k<2*w→(dE (2*w) k).length≤80:=λk hk=>by rw[(ux (p:=2) (by decide) hk).1];lia
 have aah:(100:Nat)≤sizeLine:=by decide
 unfold Ay;refine⟨by decide,λa1 g1=>?_⟩;have s3:=aM.upd (o:=.tup [.int 1,.int 0]) g1;refine⟨_,rfl,_,rfl,_,rfl,(w:Int),(c:Int),rfl,rfl,l,LS,_,.ref r1,rfl,rfl,.of (s3 _ _ hl),(by rw[show(w:Int)+c=((w+c:Nat):Int) by lia];exact cH e1),?_⟩;refine⟨a1,r1,[.int 1,.int 0],_,rfl,rfl,.of aX,s3.bE h1,?_,λt1 H4 s4 oq=>?_⟩
 ·have:=u1 (w+c) (by lia)
  rw[bz];show 2+_≤sizeLine;lia
 refine⟨by decide,λa2 g2=>?_⟩;have s5:=aM.upd (o:=.tup [.int 0,.int 1]) g2;have ue:=s3.trans (s4.trans s5);refine⟨_,rfl,_,rfl,l,LS,_,.ref r2,rfl,rfl,.of (ue _ _ hl),cH e2,?_⟩;refine⟨a2,r2,[.int 0,.int 1],_,rfl,rfl,.of aX,ue.bE h2,?_,λt2 H6 s6 fI=>?_⟩
 ·have:=u1 c (by lia)
  rw[bz];show 2+_≤sizeLine;lia
 refine⟨by show 2≤sizeLine;decide,λt3 g3=>⟨by show 3≤sizeLine;decide,λt4 g4=>?_⟩⟩;have s7:=aM.upd (o:=.tup [.ref t1,.ref t2]) g3;have s8:=aM.upd (o:=.tup [.int 1,.int 1,.ref t3]) g4;refine q t4 _ (s1.trans (s2.trans (ue.trans (s6.trans (s7.trans s8))))) ⟨t3,[.ref t1,.ref t2],.of aX,.of (s8 _ _ aX),?_⟩;have f1:aZ K (upd (upd H6 t3 (.tup [.ref t1,.ref t2])) t4 (.tup [.int 1,.int 1,.ref t3])) t1 ((([1,0]:List Int)++dE (2*w) (w+c)).map V.int):=by
  rw[cW];exact(s5.trans (s6.trans (s7.trans s8))).bE oq
 have f2:aZ K (upd (upd H6 t3 (.tup [.ref t1,.ref t2])) t4 (.tup [.int 1,.int 1,.ref t3])) t2 ((([0,1]:List Int)++dE (2*w) c).map V.int):=by
  rw[cW];exact(s7.trans s8).bE fI
 exact .cons (jE f1) (.cons (jE f2) .nil)
theorem LF{R:VK}{σ:St}{a:Addr}{l r w:Nat}{aQ:LL}(h8:σ[8]?=some (some (.ref a)))(h5:σ[5]?=some (some (.int (w:Int))))(hw:w≤40)(hf:di K H a l r aQ)(hz:aQ.length≤400)(hl:∀x∈aQ,x.length≤200)
  (q:∀v H',aM H H'→di K H' v l r (aQ.map (·++List.replicate (2*w) 0))→R (.ref v) H'):wU K σ H R:=by
 obtain⟨t,RS,g1,g2,g3⟩:=hf;have nk:(1000:Nat)≤sizeLine:=by decide
 unfold wU;refine⟨_,h8,2,rfl,a,_,rfl,g1,λa1 H1 s1 EH=>?_⟩;have EH:aZ K H1 a1 [.int (l:Int),.int (r:Int)]:=EH;unfold fE;refine⟨_,h8,a,_,2,_,rfl,rfl,s1.bE g1,cH (j:=2) rfl,t,rfl,⟨_,s1.bE g2⟩,?_⟩;have eb:mV 1 [5] σ=List.replicate 1 none++[some (.int (w:Int))]:=by simp[mV,h5]
 rw[eb];refine uj (f:=(·++List.replicate (2*w) 0)) (cp:=[some (.int (w:Int))]) (s1.bE g2) (g3.mono s1) (by lia) (λrow ra H2 iQ s2 dy=>?_) ?_
 ·unfold EG
  have:=hl row iQ
  refine jx (jc rfl dy) (rJ (k:=2*w) (λH3 s3 R' q'=>⟨_,rfl,2,(w:Int),rfl,rfl,.inl ⟨by decide,by decide⟩,?_⟩) (by lia)) (by rw[ee];lia);rw[show((2*w:Nat):Int)=2*(w:Int) by lia]at q';exact q'
 ·intro H2 ZS s2 hZ lz l5;refine⟨lz,_,rfl,.inl ⟨.of aX,λtz V8=>⟨by show 1≤sizeLine;decide,λa2 LG=>?_⟩⟩⟩;have s3:=(aM.upd (o:=.lst ZS) l5).trans ((aM.upd (o:=.tup ZS) V8).trans (aM.upd (o:=.tup [.ref tz]) LG));refine⟨a1,a2,_,_,rfl,rfl,(s2.trans s3).bE EH,.of aX,by show 2+1≤sizeLine;decide,λv H4 s4 hv=>q v H4 (s1.trans (s2.trans (s3.trans s4))) ⟨tz,ZS,hv,?_,hZ.mono (s3.trans s4)⟩⟩;exact .of (((aM.upd (o:=.tup [.ref tz]) LG).trans s4) _ _ aX)
theorem pI.mono{x:Str}{ps:List V}{Q Q':VK}(h:pI K p x ps H Q)(z:∀v H',Q v H'→Q' v H'):pI K p x ps H Q':=by
 cases h with
 |old h=>
  cases h with
  |back a l r e aQ hx hp hf hl hr he hz hR q=>exact .old (.back a l r e aQ hx hp hf hl hr he hz hR λv H' s hv=>z _ _ (q v H' s hv))
  |times n hx hp q=>exact .old (.times n hx hp λv H' s hv=>z _ _ (q v H' s hv))
  |box l r aQ hx q=>exact .old (.box l r aQ hx λv H' s hv=>z _ _ (q v H' s hv))
 |dO a b l r aQ l' r' bJ e hx hp hf eX b1 b2 b3 b4 he z1 z2 hR fo q=>exact .dO a b l r aQ l' r' bJ e hx hp hf eX b1 b2 b3 b4 he z1 z2 hR fo λv H' s hv=>z _ _ (q v H' s hv)
 |bj a b l m aQ r' bJ e hx hp hf eX b1 b2 b4 he z1 z2 hR fo q=>exact .bj a b l m aQ r' bJ e hx hp hf eX b1 b2 b4 he z1 z2 hR fo λv H' s hv=>z _ _ (q v H' s hv)
theorem AB:("times":Str) ≠ "late"∧("back":Str) ≠ "late"∧("beside":Str) ≠ "late"∧("then":Str) ≠ "late":=by decide +kernel
theorem V9{aS aB:Addr}{pa:Addr}{ws ps:List V}{x:Str}(B:lY K mg aS aB)(M:uy K aS=true)(pp:p∈c7)(ma:H aw=some (.tup ws))(uG:ws.all lu=true)(hi:ws[i]?=some (.str x))(iz:H pa=some (.lst ps))(hw:cO "late" ws≤40)
  (A:rP K p (cO "late" ws) (cO "late" (ws.take i)) x ps H D.rt):AA K aS D [some (.int p),some (.ref aw),some (.int (i:Int)),some (.ref pa),none,none,none,none,none] H:=by
 obtain⟨⟨tt,Wa,Km⟩,eb,es,et⟩:=Vc M;have il:i<ws.length:=(gi.mp hi).1;unfold AA;refine⟨_,rfl,_,rfl,aw,ws,(i:Int),.str x,rfl,rfl,.of ma,cH hi,?_⟩;refine⟨_,rfl,⟨aw,ws,rfl,ma⟩,aw,ws,"late",rfl,rfl,ma,uG,?_⟩;refine⟨_,rfl,rfl,_,rfl,?_⟩;cases A with
 |dg hx hc q=>
  subst hx;exact pG (V7 ma uG il hw hc q)
 |box l r aQ hx q=>
  obtain⟨⟨t,e,ht⟩,_⟩:=B.at_ hx;refine kg (ql _ hx) ?_;refine⟨_,rfl,_,rfl,_,rfl,p,x,pa,ps,rfl,pp,iz,.old (.box _ _ _ hx λv H3 s3 hv=>?_)⟩;refine⟨_,rfl,_,rfl,rfl,_,rfl,?_⟩;rw[e];obtain⟨b1,b2,b3,b4⟩:=Ah _ hx;refine i7 (LF rfl rfl hw hv (ft b3 (by decide)) (λy hy=>?_) λv' H4 s4 wV=>q v' H4 (s3.trans s4) wV);rw[(b4 y hy).1];lia
 |times n hx hp q=>
  subst hx;refine kg AB.1 ?_;refine⟨_,rfl,_,rfl,_,rfl,p,_,pa,ps,rfl,pp,iz,.old (.times n rfl hp λv H3 s3 hv=>?_)⟩;refine⟨_,rfl,_,rfl,rfl,_,rfl,?_⟩;rw[Wa];refine i7 (LF rfl rfl hw hv (by show 1≤400;decide) (λy hy=>?_) λv' H4 s4 wV=>q v' H4 (s3.trans s4) wV);rw[dI.mp hy];show 2≤200;decide
 |made hx h=>
  have nl:x ≠ "late":=by rcases hx with rfl|rfl|rfl;exact AB.2.1;exact AB.2.2.1;exact AB.2.2.2
  have ne:PyProof.Rows.KTD.datumAt x (ib K aS)=none:=by rcases hx with rfl|rfl|rfl;exact eb;exact es;exact et
  refine kg nl ?_;refine⟨_,rfl,_,rfl,_,rfl,p,_,pa,ps,rfl,pp,iz,h.mono λv H3 hv=>?_⟩;refine⟨_,rfl,_,rfl,rfl,_,rfl,?_⟩;rw[ne];exact eP ⟨_,rfl,hv⟩
theorem Wb{aS aB f fO fM:Addr}{fd LH pE:FuncData}(F:cC K "tick_form" "tick_form" zt f fd)(T:Txt mg)(B:lY K mg aS aB)(M:uy K aS=true)
  (GO:bu P w K mg base br 1 fO LH ["count"] (Ep K)) (kO:Kp K fO) (bO:Binds K LH ["count"] []) (mO:Mg mg "ones" fO)
  (GM:bu P w K mg base br 6 fM pE ["p","word","parts"] (Ec K)) (kM:Kp K fM) (bM:Binds K pE ["p","word","parts"] []) (mM:Mg mg "form" fM) :
  bu P w K mg base br 7 f fd ["p","words","place","parts"] (Lx K):=by
 refine F.ok uF (λvs H Q E h=>?_) (λbV A outer s H vs Q E hr h=>?_)
 ·obtain⟨p,aw,pa,ws,ps,i,x,rfl,_⟩:=h;rfl
 ·obtain⟨p,aw,pa,ws,ps,i,x,rfl,pp,ma,uG,hi,iz,hw,A⟩:=h;have iN:dt 1 _:=hr.mono (by decide);refine⟨AA K aS,?_,?_⟩
  ·unfold AA;refine bh ?_ ?_
   ·exact bY (i:=4) (te:=bI (kH K) (aO 1) (aO 2)) uF.nd rfl (.inl rfl) (cf (cJ K rfl) (pv 1) (pv 2) (λ_ _=>rfl))
   refine bh ?_ ?_
   ·exact bY (i:=5) (te:=uz uA (aO 1) (aW (tC (.str "late")) bo)) uF.nd rfl (Or.inr rfl) (En PySem.F.slot_tuple_count PySem.F.type_tuple_count Eo (pv 1) (aL cP aR))
   refine bh ?_ ?_
   ·refine dX ?_ ?_ fg
    ·exact de gF (pv 4) cP (da _)
    ·unfold Az;refine bh ?_ ?_
     ·unfold LA;exact bY (i:=6) (te:=uz uA (gu (yk K) (aO 1) iq (fi (aO 2))) (aW (tC (.str "late")) bo)) uF.nd rfl (.inl rfl) (En PySem.F.slot_tuple_count PySem.F.type_tuple_count Eo (eN (Rr K rfl) (pv 1) gn (dP (pv 2))) (aL cP aR))
     refine bh ?_ ?_
     ·exact bY (i:=7) (te:=LB K) uF.nd rfl (.inl rfl) (cT GO iN rfl mO kO bO .nil cU (aL (aY j5 aU (pv 5)) aR))
     refine bK ?_;refine cQ (te:=Ay K) ?_;unfold Ay;refine cB ?_;refine aL aU ?_ ?_
     ·refine aL aU ?_ ?_
      ·refine aL ?_ aR ?_
       ·refine cB ?_;refine aL ?_ ?_ ?_
        ·refine aY (dY K rfl) ?_ ?_
         ·exact cB (aL aU (aL aU aR))
         ·exact cf (e7 K rfl) (pv 7) (aY fh (pv 5) (pv 6)) (λ_ _=>rfl)
        ·refine aL ?_ aR ?_
         ·refine aY (dY K rfl) ?_ ?_
          ·exact cB (aL aU (aL aU aR))
          ·exact cf (e7 K rfl) (pv 7) (pv 6) (λ_ _=>rfl)
         ·rfl
        ·rfl
       ·rfl
      ·exact ug
     ·exact ug
   refine bh ?_ ?_
   ·exact bY (i:=8) (te:=LC K) uF.nd rfl (.inl rfl) (cT GM hr rfl mM kM bM .nil cU (aL (pv 0) (aL (pv 4) (aL (pv 3) aR))))
   refine bh ?_ ?_
   ·refine dX ?_ ?_ fg
    ·exact Gf (JE B.tabS (pv 4) (sT (v:=.ref _) rfl B.DW rfl)) rfl
    ·refine bK ?_;refine cQ (te:=wU K) ?_;unfold wU;refine aY (dY K rfl) ?_ ?_
     ·exact eN (fN K rfl) (pv 8) gn (dP aU)
     ·refine cB ?_;refine aL ?_ aR ?_
      ·refine j6 (ph K rfl) rfl T.tuple mZ ?_;refine aL ?_ aR ?_
       ·refine i9 (N:=["row","waiting"]) (own:=1) (caps:=[5]) rfl ?_ ?_ ?_ ?_ ?_
        ·exact lQ K rfl (cf (cJ K rfl) (pv 8) aU (λ_ _=>rfl))
        ·exact(show du LD (bx zt) ["row","waiting"] 1 [5] _ from .mk' (by decide +kernel))
        ·exact λ_ _ _ _ _=>cq (i:=0) V4 rfl (.inl rfl)
        ·exact λ_ _ _ _ _=>gG
        ·intro _ _ _ _ _;unfold EG;exact aY (dY K rfl) (pv 0) (aY (lP K rfl) (cB (aL aU aR)) (aY j5 aU (pv 1)))
       ·rfl
      ·rfl
   refine bK ?_;exact cQ (te:=aO 8) (pv 8)
  ·exact V9 B M pp ma uG hi iz hw A
noncomputable def Itm.aJ:Itm→Nat
 | .num _=>0
 | .cm d=>d.aJ
def Itm.eQ(p:Int):Itm→Prop
 | .num _=>True
 | .cm d=>d.eQ p∧d.sm
theorem AD(z:Str)(v:V)(xs:List V):cO z (v::xs)=cO z xs+if hI v (.str z)=true then 1 else 0:=by unfold cO;rw[List.countP_cons]
theorem wW(z:Str)(xs ys:List V):cO z (xs++ys)=cO z xs+cO z ys:=by unfold cO;rw[List.countP_append]
theorem Wc:∀e∈fV,hI (.str e.1) (.str "late")=false:=by decide +kernel
theorem wX:hI (.str "back") (.str "late")=false∧hI (.str "beside") (.str "late")=false∧hI (.str "then") (.str "late")=false∧hI (.str "times") (.str "late")=false∧hI (.str "late") (.str "late")=true:=by decide +kernel
theorem LI(n:Int):hI (.int n) (.str "late")=false:=rfl
theorem rQ{v:V}{xs:List V}(h:hI v (.str "late")=false):cO "late" (v::xs)=cO "late" xs:=by rw[AD,h];rfl
theorem oG{p:Int}:∀{d:Drw},d.eQ p→cO "late" d.bc=d.aJ
 | .box x l r aQ,h=>by
  rcases h with h|⟨rfl,rfl,rfl⟩
  ·show cO "late" [.str x]=if _ then 1 else 0
   rw[rQ (Wc _ h),ah (ql _ h)];rfl
  ·show cO "late" [.str "late"]=if _ then 1 else 0
   rw[AD,wX.2.2.2.2,ae rfl,ae rfl];rfl
 | .times n,_=>by
  show cO "late" [.str "times",.int n]=0;rw[rQ wX.2.2.2.1,rQ (LI n)];rfl
 | .back d,h=>by
  show cO "late" (.str "back"::d.bc)=d.aJ;rw[rQ wX.1,oG (d:=d) h]
 | .dO a b,h=>by
  show cO "late" (.str "beside"::(a.bc++b.bc))=a.aJ+b.aJ;rw[rQ wX.2.1,wW,oG (d:=a) h.1,oG (d:=b) h.2]
 | .bj a b,h=>by
  show cO "late" (.str "then"::(a.bc++b.bc))=a.aJ+b.aJ;rw[rQ wX.2.2.1,wW,oG (d:=a) h.1,oG (d:=b) h.2.1]
theorem rR:∀d:Drw,d.bc.all lu=true
 | .box ..=>rfl
 | .times _=>rfl
 | .back d=>by
  show(lu _&&d.bc.all lu)=true;rw[rR d];rfl
 | .dO a b=>by
  show(lu _&&(a.bc++b.bc).all lu)=true;rw[List.all_append,rR a,rR b];rfl
 | .bj a b=>by
  show(lu _&&(a.bc++b.bc).all lu)=true;rw[List.all_append,rR a,rR b];rfl
theorem Itm.cnt(h:t.eQ p):cO "late" t.bc=t.aJ:=by
 cases t with
 |num n=>exact rQ (xs:=[]) (LI n)
 |cm d=>exact oG h.1
noncomputable def oH(ts:List Itm):Nat:=(ts.map Itm.aJ).sum
theorem EI{p:Int}:∀{ts:List Itm},(∀t∈ts,t.eQ p)→cO "late" (ts.flatMap Itm.bc)=oH ts
 | [],_=>rfl
 |t::ts,h=>by
  rw[List.flatMap_cons,wW,Itm.cnt (h t cZ),EI (ts:=ts) λu hu=>h u (fu _ hu)];rfl
theorem Itm.LJ(h:t.eQ p):∀u∈t.kids,u.eQ p:=by
 cases t with
 |num n=>intro u hu;cases hu
 |cm d=>
  obtain⟨h1,h2⟩:=h;cases d with
  |box=>intro u hu;cases hu
  |times n=>intro u hu;rw[dI.mp hu];exact True.intro
  |back d=>
   intro u hu;rw[dI.mp hu];exact⟨h1,h2⟩
  |dO a b=>
   intro u hu;rcases(dS.mp hu)with z|z
   ·rw[z];exact⟨h1.1,h2.1⟩
   ·rw[dI.mp z];exact⟨h1.2,h2.2.1⟩
  |bj a b=>
   intro u hu;rcases(dS.mp hu)with z|z
   ·rw[z];exact⟨h1.1,h2.1⟩
   ·rw[dI.mp z];exact⟨h1.2.1,h2.2⟩
theorem EJ{p:Int}:∀(i:Nat){ts:List Itm},(∀t∈ts,t.eQ p)→∀t∈fY ts i,t.eQ p
 |0,ts,h=>h
 |i+1,[],h=>by intro t ht;rw[Eg]at ht;cases ht
 |i+1,t::ts,h=>EJ i (ts:=t.kids++ts) λu hu=>by
  rcases(dZ.mp hu)with z|z
  ·exact Itm.LJ (h t cZ) u z
  ·exact h u (fu _ z)
theorem Wd{ts:List Itm}(h:∀t∈ts,t.eQ p)(i:Nat):cO "late" ((ts.flatMap Itm.bc).take i)+oH (fY ts i)=cO "late" (ts.flatMap Itm.bc):=by
 rw[← EI (EJ i h),wG,← wW,List.take_append_drop]
def wY(K:Frag)(p:Int)(w c:Nat)(H:Hp):Itm→V→Prop
 | .num n,v=>v=.int n
 | .cm d,v=>∃a,v=.ref a∧di K H a d.aK d.aN (d.dz p w c)
inductive gw(K:Frag)(p:Int)(w:Nat)(H:Hp):Nat→List Itm→List V→Prop where
 |nil {c:Nat}:gw K p w H c [] []
 |cons {c:Nat} {t:Itm} {ts:List Itm} {v:V} {vs:List V} (h:wY K p w c H t v) (r:gw K p w H (c+t.aJ) ts vs):gw K p w H c (t::ts) (v::vs)
section
variable{K:Frag}{p:Int}{w:Nat}{H H':Hp}
theorem wY.tup{c:Nat}{t:Itm}{v:V}(h:wY K p w c H t v)(s:eC H H'):wY K p w c H' t v:=by
 cases t with
 |num n=>exact h
 |cm d=>
  obtain⟨a,e,hf⟩:=h;exact⟨a,e,hf.tup s⟩
theorem gw.tup{c:Nat}{ts:List Itm}{vs:List V}(h:gw K p w H c ts vs)(s:eC H H'):gw K p w H' c ts vs:=by
 induction h with
 |nil=>exact .nil
 |cons h r ih=>exact .cons (h.tup s) ih
theorem gw.len{c:Nat}{ts:List Itm}{vs:List V}(h:gw K p w H c ts vs):vs.length=ts.length:=by
 induction h with
 |nil=>rfl
 |cons h r ih=>rw[eF,eF,ih]
theorem gw.split:∀{ts us:List Itm}{c:Nat}{vs:List V},gw K p w H c (ts++us) vs→∃xs ys,vs=xs++ys∧gw K p w H c ts xs∧gw K p w H (c+oH ts) us ys
 | [],us,c,vs,h=>⟨[],vs,rfl,.nil,h⟩
 |t::ts,us,c,_,.cons h r=>by
  obtain⟨xs,ys,e,h1,h2⟩:=gw.split (ts:=ts) r;refine⟨_::xs,ys,by rw[e];rfl,.cons h h1,?_⟩;rw[jV]at h2;exact h2
end
theorem Itm.We(h:t.eQ p):t.aJ=(if hI t.head (.str "late")=true then 1 else 0)+oH t.kids:=by
 have e1:=Itm.cnt h;have e2:=EI (Itm.LJ h);rw[← e1,← e2,Itm.Ai,AD,qB]
noncomputable def Wf(st:Stmt)(i:Nat):Expr:=match(j7 st).getD i (.Pass ⟨0,0,0,0⟩) with
 | .Assign _ (.Call _ [_,e] _ _) _=>e
 |_=>.Constant .none 0 ⟨0,0,0,0⟩
noncomputable abbrev oI:Expr:=Wf iM 1
noncomputable abbrev wZ:Str := "ticks"++".<locals>."++"<lambda>"
noncomputable def uH(L:Nat)(x:Str):Addr:=((cellsFrom (L+1) (bx iM).names []).lookup x).getD 0
noncomputable abbrev w6(L:Nat):List (Str×Addr):=[("words",uH L "words"),("p",uH L "p")]
theorem Wg{L f:Addr}{bV:Value}:closureFor (zT oI) (PyProof.Rows.envOfC "ticks" (bx iM) L f bV)=pure (w6 L):=rfl
theorem EK{x:Str}(h:(bx iM).names.lookup x=some .cell):(cellsFrom (L+1) (bx iM).names []).lookup x=some (uH L x):=by
 obtain⟨c,hc⟩:=B9 (n:=L+1) h;unfold uH;rw[hc];rfl
theorem LK{y:Str}{c:Addr}(h:(w6 L).lookup y=some c):y∈(["p","words"]:List Str):=by
 rcases(dS.mp (nM h))with e|e
 ·cases e;exact fu _ cZ
 ·rcases(dS.mp e)with e|e
  ·cases e;exact cZ
  ·cases e
theorem LM{y:Str}{c:Addr}(h:(w6 L).lookup y=some c):(cellsFrom (L+1) (bx iM).names []).lookup y=some c:=by
 have hy:=LK h;rcases(dS.mp hy)with rfl|hy
 ·rw[EK rfl];exact h
 ·rw[dI.mp hy]at h ⊢;rw[EK rfl];exact h
theorem Wh(Wi:∀y z c,(cellsFrom (L+1) (bx iM).names []).lookup y=some c→(cellsFrom (L+1) (bx iM).names []).lookup z=some c→y=z):J7 ["place","word","parts"] ["p","words"] (zT oI) (Uh oI) (w6 L):=by
 have fr:∀y∈(["p","words"]:List Str),(zT oI).names.lookup y=some .free:=by decide +kernel
 have only:∀z∈(zT oI).names,z.2=.free→z.1∈(["p","words"]:List Str):=by decide +kernel
 refine⟨rfl,rfl,rfl,by decide +kernel,by decide +kernel,by decide +kernel,fr,λy hy=>?_,λy z c h1 h2=>Wi y z c (LM h1) (LM h2),λy c h=>LK h⟩;have hm:=only _ (nM hy) rfl;rcases(dS.mp hm)with e|hm
 ·have e:y="p":=e;exact⟨_,by rw[e];rfl⟩
 ·have e:y="words":=dI.mp hm;exact⟨_,by rw[e];rfl⟩
noncomputable def gW(l r w:Nat)(row:List Int):List Int:=row.take l++(row.drop (l+r)).take w++(row.drop l).take r++row.drop (l+r+w)
theorem EL{l r w:Nat}(h:Rw p (l+r+2*w) row):Rw p (l+r+2*w) (gW l r w row):=by
 obtain⟨h1,h2⟩:=h;refine⟨?_,λx hx=>?_⟩
 ·unfold gW;simp only[bQ,cV,eJ];lia
 ·unfold gW at hx;rcases(dZ.mp hx)with hx|hx
  ·rcases(dZ.mp hx)with hx|hx
   ·rcases(dZ.mp hx)with hx|hx
    ·exact h2 x (jU hx)
    ·exact h2 x (lE (jU hx))
   ·exact h2 x (lE (jU hx))
  ·exact h2 x (lE hx)
def AE(K:Frag)(Pt:Addr):Sp:=λvs H Q _=>∃(p:Int)(aw:Addr)(d:Drw),vs=[.int p,.ref aw]∧p∈c7∧d.eQ p∧d.sm∧d.bc.length≤900000∧d.aJ≤40∧H aw=some (.tup d.bc)∧lT H Pt (wC oI) wZ∧
 ∀v DS H',aM (del Pt H) H'→lT H' Pt (wC oI) wZ→aZ K H' v DS→bG K H' DS ((dw p ((d.dz p d.aJ 0).map (gW d.aK d.aN d.aJ))).map cG)→Q (.ref v) H'
noncomputable abbrev EN:List Str:=["p","words","waiting","whole","left","kept","onward"]
theorem Wj:(["row","kept","left","onward"]:List Str).Nodup:=by decide +kernel
theorem uI:c8 EN ["p","words"] (bx iM):=dJ rfl rfl rfl (by decide +kernel) rfl
def AF(K:Frag):TE:=gv K (gv K (gv K (gu (ia K) (aO 0) iq (fi (aO 2))) (gu (ia K) (aO 0) (fi (aO 1)) (fi (aO 3)))) (gu (ia K) (aO 0) (fi (aO 2)) (fi (aO 1)))) (gu (ia K) (aO 0) (fi (aO 3)) iq)
def EO(K:Frag):TE:=fw (pA K) [] E0 (aW (aO 0) (aW (j9 (nW K (df K 3 2)) 1 [5,4,6] (bq 0) i8 (AF K)) bo))
def LN(K:Frag):TS:=bZ (cy (df K 3 0) (bq 4)) (bZ (cy (e8 (aO 4) (df K 3 1)) (bq 5)) (bZ (cy (e8 (aO 5) (aO 2)) (bq 6)) (eA (EO K))))
theorem Wk{σ:St}{ra:Addr}{l r w:Nat}(h0:σ[0]?=some (some (.ref ra)))(h1:σ[1]?=some (some (.int ((l+r:Nat):Int))))(h2:σ[2]?=some (some (.int (l:Int))))(h3:σ[3]?=some (some (.int ((l+r+w:Nat):Int))))
  (hr:aZ K H ra (row.map V.int)) (hl:row.length=l+r+2*w) (b:row.length≤1000):jK K (AF K) σ H (gW l r w row):=by
 have e1:(row.take l).length≤1000:=by rw[cV];lia
 have e2:((row.drop (l+r)).take w).length≤1000:=by rw[cV,eJ];lia
 have e3:((row.drop l).take r).length≤1000:=by rw[cV,eJ];lia
 have e4:(row.drop (l+r+w)).length≤1000:=by rw[eJ];lia
 unfold AF;refine jx (jx (jx (jy (jc h0 hr) l6 (ie (gJ h2)) (pF (by lia))) (jy (jc h0 hr) (ie (gJ h1)) (ie (gJ h3)) (wz (by lia))) ?_) (jy (jc h0 hr) (ie (gJ h2)) (ie (gJ h1)) (wz (by lia))) ?_) (jy (jc h0 hr) (ie (gJ h3)) l6 (oo (by lia))) ?_ <;>
  (try simp only[bQ])<;>lia
theorem Wl{a:Addr}{l r w:Nat}{aQ:LL}(pp:p∈c7)(hf:di K H a l r aQ)(hz:aQ.length≤400)(hl:l≤100)(hr:r≤100)(hw:w≤40)(hR:cj p (l+r+2*w) aQ)
  (q:∀v DS H',aM H H'→aZ K H' v DS→bG K H' DS ((dw p (aQ.map (gW l r w))).map cG)→D.rt (.ref v) H') :
  LN K D [some (.int p),some (.ref aw),some (.int (w:Int)),some (.ref a),none,none,none] H:=by
 obtain⟨t,RS,g1,g2,g3⟩:=hf;unfold LN;refine gK (K:=K) (j:=0) rfl g1 rfl H (.refl _) _ ?_;refine ui (gJ rfl) (gK (K:=K) (j:=1) rfl g1 rfl) H (.refl _) _ ?_;refine ui (gJ rfl) (gJ rfl) H (.refl _) _ ?_;refine⟨_,rfl,_,rfl,a,_,2,_,rfl,rfl,g1,cH (j:=2) rfl,t,rfl,⟨_,g2⟩,?_⟩;have c1:(l:Int)+(r:Int)=((l+r:Nat):Int):=by lia
 have c2:(l:Int)+(r:Int)+(w:Int)=((l+r+w:Nat):Int):=by lia
 rw[c2,c1];refine uj (f:=gW l r w) (cp:=[some (.int ((l+r:Nat):Int)),some (.int (l:Int)),some (.int ((l+r+w:Nat):Int))]) g2 g3 (by lia) (λrow ra H2 iQ s2 dy=>Wk rfl rfl rfl rfl dy (hR row iQ).1 (by rw[(hR row iQ).1];lia)) ?_;intro H2 ZS s2 hZ lz l5;have s3:=aM.upd (o:=.lst ZS) l5;refine⟨p,lz,true,ZS,aQ.map (gW l r w),l+r+2*w,rfl,pp,.of aX,hZ.mono s3,by rw[bz];lia,by lia,λx hx=>?_,λv H3 DS s4 hv hD=>q v DS H3 (s2.trans (s3.trans s4)) hv hD⟩;obtain⟨y,hy,rfl⟩:=dU.mp hx;exact EL (hR y hy)
section
variable{p:Int}
noncomputable def rS(l r w j:Nat):Option (Int×Nat):=if j<l then some (1,j)else if j<l+w then some (1,j+r)else if j<l+w+r then some (1,j-w)else some (1,j)
theorem Wm{l r w:Nat}(h:row.length=l+r+2*w)(j:Nat):fn (gW l r w row) j=bt (rS l r w) (fn row) j:=by
 unfold gW;have e1:(row.take l).length=l:=by rw[cV];lia
 have e2:((row.drop (l+r)).take w).length=w:=by rw[cV,eJ];lia
 have e3:((row.drop l).take r).length=r:=by rw[cV,eJ];lia
 have g:∀(a b:List Int)(j:Nat),a.length≤j→fn (a++b) j=fn b (j-a.length):=λa b j hj=>by
  unfold fn;rw[cF,cF,gZ hj]
 have dr:∀(n j:Nat),fn (row.drop n) j=fn row (n+j):=λn j=>(congrFun (pL row n) j).symm;unfold bt rS;by_cases h1:j<l
 ·simp only[h1,if_true,fe];rw[dq,dq,jO (by rw[e1];exact h1),je h1]
 ·by_cases h2:j<l+w
  ·simp only[h1,h2,if_true,if_false,fe];rw[dq,dq,g _ _ j (by lia),e1,jO (by rw[e2];lia),je (by lia),dr,show l+r+(j-l)=j+r by lia]
  ·by_cases h3:j<l+w+r
   ·simp only[h1,h2,h3,if_true,if_false,fe];rw[dq,dq,g _ _ j (by lia),e1,g _ _ _ (by lia),e2,jO (by rw[e3];lia),je (by lia),dr,show l+(j-l-w)=j-w by lia]
   ·simp only[h1,h2,h3,if_false,fe];rw[dq,dq,g _ _ j (by lia),e1,g _ _ _ (by lia),e2,g _ _ _ (by lia),e3,dr,show l+r+w+(j-l-w-r)=j by lia]
noncomputable def iR(l r w:Nat)(f:Fn):Fn:=λj=>if j<l then f j else if j<l+r then f (j+w)else if j<l+r+w then f (j-r)else f j
theorem Wn{l r w:Nat}(f:Fn)(j:Nat):bt (rS l r w) (iR l r w f) j=f j:=by
 unfold bt rS iR;by_cases h1:j<l
 ·simp only[h1,if_true,fe]
 ·by_cases h2:j<l+w
  ·simp only[h1,h2,if_true,if_false,fe,show ¬j+r<l by lia,show ¬j+r<l+r by lia,show j+r<l+r+w by lia,show j+r-r=j by lia]
  ·by_cases h3:j<l+w+r
   ·simp only[h1,h2,h3,if_true,if_false,fe,show ¬j-w<l by lia,show j-w<l+r by lia,show j-w+w=j by lia]
   ·simp only[h1,h2,h3,if_false,fe,show ¬j<l+r by lia,show ¬j<l+r+w by lia]
theorem Wo{l r w:Nat}(f:Fn)(j:Nat):iR l r w (bt (rS l r w) f) j=f j:=by
 unfold bt rS iR;by_cases h1:j<l
 ·simp only[h1,if_true,fe]
 ·by_cases h2:j<l+r
  ·simp only[h1,h2,if_true,if_false,fe,show ¬j+w<l by lia,show ¬j+w<l+w by lia,show j+w<l+w+r by lia,show j+w-w=j by lia]
  ·by_cases h3:j<l+r+w
   ·simp only[h1,h2,h3,if_true,if_false,fe,show ¬j-r<l by lia,show j-r<l+w by lia,show j-r+r=j by lia]
   ·simp only[h1,h2,h3,if_false,fe,show ¬j<l+w by lia,show ¬j<l+w+r by lia]
theorem Wq{l r w:Nat}{u v:Fn}(h:dR p u v):dR p (iR l r w u) (iR l r w v):=λj=>by
 unfold iR;split
 ·exact h _
 ·split
  ·exact h _
  ·split
   ·exact h _
   ·exact h _
theorem Wr{l r w:Nat}{aQ:LL}{f:Fn}(h:cj p (l+r+2*w) aQ):Sp p (RS (aQ.map (gW l r w))) f↔Sp p (RS aQ) (iR l r w f):=by
 rw[ny (s:=rS l r w) (λq hq=>kh (Wm (h q hq).1))];constructor
 ·rintro⟨u,hu,e⟩;exact .cD hu ((kh λj=>(Wo u j).symm).trans (Wq e))
 ·intro h;exact⟨_,h,kh (Wn f)⟩
theorem AG(pp:p∈c7)(hd:d.eQ p)(hs:d.sm)(hw:d.aJ≤40){f:Fn}:Sp p (RS ((d.dz p d.aJ 0).map (gW d.aK d.aN d.aJ))) f ↔
  TR p d f (sh d.aK f) (sh (d.aK+d.aJ) f) (sh (d.aK+d.aJ+d.aN) f)∧∀s,p∣f (d.aK+d.aJ+d.aN+d.aJ+s):=by
 obtain⟨_,_,_,hR⟩:=Drw.iC pp hw (d:=d) (c:=0) hd hs (by lia);rw[Wr hR,oz pp hw hd hs (by lia),oD hd (by lia)];have c1:Cg p d.aK (iR d.aK d.aN d.aJ f) f:=λj hj=>cK (by unfold iR;rw[ae hj]);have c2:Cg p d.aJ (sh (d.aK+d.aN+0) (iR d.aK d.aN d.aJ f)) (sh d.aK f):=λj hj=>cK (by
  unfold sh iR;rw[ah (by lia),ah (by lia),ae (by lia),show d.aK+d.aN+0+j-d.aN=d.aK+j by lia])
 have c3:Cg p d.aN (sh d.aK (iR d.aK d.aN d.aJ f)) (sh (d.aK+d.aJ) f):=λj hj=>cK (by
  unfold sh iR;rw[ah (by lia),ae (by lia),show d.aK+j+d.aJ=d.aK+d.aJ+j by lia])
 have c4:Cg p d.aJ (sh (d.aK+d.aN+d.aJ+0) (iR d.aK d.aN d.aJ f)) (sh (d.aK+d.aJ+d.aN) f):=λj hj=>cK (by
  unfold sh iR;rw[ah (by lia),ah (by lia),ah (by lia),show d.aK+d.aN+d.aJ+0+j=d.aK+d.aJ+d.aN+j by lia])
 have e5:∀s,iR d.aK d.aN d.aJ f (d.aK+d.aN+(2*d.aJ+s))=f (d.aK+d.aJ+d.aN+d.aJ+s):=λs=>by
  unfold iR;rw[ah (by lia),ah (by lia),ah (by lia),show d.aK+d.aN+(2*d.aJ+s)=d.aK+d.aJ+d.aN+d.aJ+s by lia]
 constructor
 ·rintro⟨h,o⟩;exact⟨TR.cD hd c1 c2 c3 c4 h,λs=>by rw[← e5 s];exact o _ (by lia) (by lia)⟩
 ·rintro⟨h,o⟩;refine⟨TR.cD hd c1.symm c2.symm c3.symm c4.symm h,λs h1 h2=>?_⟩;obtain⟨t,rfl⟩:∃t,s=2*d.aJ+t:=⟨s-2*d.aJ,by lia⟩;rw[e5 t];exact o t
theorem LO{R:Fn→Prop}{L:LL}{n:Nat}(pos:Nat→Nat)(lS:∀r∈L,Sp p R (fn r))(Ws:∀f,Sp p R f→(∀i,i<n→p∣f (pos i))→∀j,p∣f j)(hl:L.length=n)
  (hu:∀(i j:Nat)(h:i<L.length),j<n→fn L[i] (pos j)=if i=j then 1 else 0) {f:Fn} (hf:Sp p R f):Sp p (RS L) f:=by
 have step:∀m,m≤n→∃g,Sp p (RS L) g∧Sp p R (λj=>f j-g j)∧∀i,i<m→p∣f (pos i)-g (pos i):=λm=>by
  induction m with
  |zero=>exact λ_=>⟨λ_=>0,.zero,hf.of_eq λj=>by lia,λi hi=>absurd hi (Nat.not_lt_zero i)⟩
  |succ m ih=>
   intro hm;obtain⟨g,g1,g2,g3⟩:=ih (by lia);have yZ:m<L.length:=by lia
   refine⟨λj=>g j+(f (pos m)-g (pos m))*fn L[m] j,g1.add _ ⟨L[m],jh yZ,rfl⟩,?_,λi hi=>?_⟩
   ·exact(Sp.plus (-(f (pos m)-g (pos m))) g2 (lS _ (jh yZ))).of_eq λj=>by rw[Int.neg_mul];lia
   ·show p∣f (pos i)-(g (pos i)+(f (pos m)-g (pos m))*fn L[m] (pos i));rw[hu m i yZ (by lia)];by_cases e:m=i
    ·subst e;rw[ae rfl];exact⟨0,by lia⟩
    ·rw[ah e]
     have:=g3 i (by lia)
     rwa[Int.mul_zero,Int.add_zero]
 obtain⟨g,g1,g2,g3⟩:=step n (ck n);exact .cD g1 λj=>ED (Ws _ g2 g3 j)
end
section
variable{p:Int}
def eE(p:Int)(xs:List Int):Prop:=∀x∈xs,0≤x∧x<p
def ki(p:Int)(F:gU):Prop:=∀g k,eE p g→eE p k→eE p (F g k).1∧eE p (F g k).2
noncomputable def dk(l w i:Nat):List Int:=(dE (l+w) i).take l
noncomputable def cY(l w i:Nat):List Int:=(dE (l+w) i).drop l
noncomputable def md(l w:Nat)(F:gU)(i:Nat):List Int:=dk l w i++cY l w i++(F (dk l w i) (cY l w i)).1++(F (dk l w i) (cY l w i)).2
noncomputable def me(l w:Nat)(F:gU)(i:Nat):List Int:=(F (dk l w i) (cY l w i)).1++cY l w i++dk l w i++(F (dk l w i) (cY l w i)).2
noncomputable def nA(l w:Nat)(F:gU):LL:=(List.range (l+w)).map (md l w F)
noncomputable def nB(l w:Nat)(F:gU):LL:=(List.range (l+w)).map (me l w F)
theorem pM{l w:Nat}(h:i<l+w):(dk l w i).length=l∧(cY l w i).length=w:=by
 have e:=(ux (p:=2) (by decide) h).1;unfold dk cY;rw[cV,eJ,e];lia
theorem AH(p2:2≤p){l w:Nat}(h:i<l+w):eE p (dk l w i)∧eE p (cY l w i):=by
 have e:=(ux p2 h).2;exact⟨λx hx=>e x (jU hx),λx hx=>e x (lE hx)⟩
theorem LP{l w:Nat}(h:i<l+w):(∀j,j<l→fn (dk l w i) j=if i=j then 1 else 0)∧∀j,fn (cY l w i) j=if i=l+j then 1 else 0:=by
 constructor
 ·intro j hj;unfold dk;rw[je hj,Av h];by_cases e:j=i
  ·rw[ae e,ae e.symm]
  ·rw[ah e,ah λz=>e z.symm]
 ·intro j;unfold cY;rw[← pL];show fn (dE (l+w) i) (l+j)=_;rw[Av h];by_cases e:l+j=i
  ·rw[ae e,ae e.symm]
  ·rw[ah e,ah λz=>e z.symm]
theorem pN{a b:List Int}{n:Nat}(h:a.length=n)(j:Nat):fn (a++b) (n+j)=fn b j:=congrFun (EE (s:=b) h) j
theorem LQ{a:List Int}{n:Nat}(h:a.length=n)(s:Nat):fn a (n+s)=0:=by
 unfold fn;rw[cF,iV (by lia)];rfl
theorem TR.zero(pp:p∈c7){d:Drw}(hd:d.eQ p)(hs:d.sm)(hw:d.aJ≤40):TR p d (λ_=>0) (λ_=>0) (λ_=>0) (λ_=>0):=
 ((AG pp hd hs hw).mp .zero).1
theorem LU(pp:p∈c7)(ok:iE p d F)(hs:d.sm)(hw:d.aJ≤40){k:Fn}(hx:Cg p d.aK x λ_=>0)(hk:Cg p d.aJ k λ_=>0)(h:TR p d x k y a):(Cg p d.aN y λ_=>0)∧Cg p d.aJ a λ_=>0:=by
 have z:=TR.zero pp ok.wf hs hw;have l1:(List.replicate d.aK (0:Int)).length=d.aK:=ee;have l2:(List.replicate d.aJ (0:Int)).length=d.aJ:=ee;have e:∀n,(λ_=>(0:Int))=fn (List.replicate n 0):=λn=>by
  funext j
  unfold fn;rw[cF,vc];split<;>rfl
 obtain⟨z1,z2⟩:=(ok.tr _ _ l1 l2 _ _).mp (TR.cD ok.wf (by rw[e d.aK];exact .refl _ _) (by rw[e d.aJ];exact .refl _ _) (.refl _ _) (.refl _ _) z);obtain⟨h1,h2⟩:=(ok.tr _ _ l1 l2 _ _).mp (TR.cD ok.wf (by rw[← e d.aK];exact hx) (by rw[← e d.aJ];exact hk) (.refl _ _) (.refl _ _) h);exact⟨h1.trans z1.symm,h2.trans z2.symm⟩
theorem mf{a b:List Int}(h:eE p a)(k:eE p b):eE p (a++b):=λx hx=>(dZ.mp hx).elim (h x) (k x)
theorem Wt(pp:p∈c7)(ok:iE p d F)(rg:ki p F)(hs:d.sm)(hw:d.aJ≤40) :
  dw p ((d.dz p d.aJ 0).map (gW d.aK d.aN d.aJ))=dw p (nA d.aK d.aJ F)∧cj p (d.aK+d.aN+2*d.aJ) (nA d.aK d.aJ F):=by
 obtain⟨p2,_⟩:=gI p pp;obtain⟨_,_,_,hR⟩:=Drw.iC pp hw (d:=d) (c:=0) ok.wf hs (by lia);have fo:cj p (d.aK+d.aN+2*d.aJ) ((d.dz p d.aJ 0).map (gW d.aK d.aN d.aJ)):=λx hx=>by
  obtain⟨y,hy,rfl⟩:=dU.mp hx;exact EL (hR y hy)
 have row:∀i,i<d.aK+d.aJ→Rw p (d.aK+d.aN+2*d.aJ) (md d.aK d.aJ F i):=λi hi=>by
  obtain⟨x1,x2⟩:=pM hi;obtain⟨y1,y2⟩:=ok.len _ _ x1 x2;obtain⟨n1,n2⟩:=AH p2 hi;obtain⟨n3,n4⟩:=rg _ _ n1 n2;unfold md;refine⟨?_,mf (mf (mf n1 n2) n3) n4⟩;simp only[bQ,x1,x2,y1,y2];lia
 have hL:cj p (d.aK+d.aN+2*d.aJ) (nA d.aK d.aJ F):=λx hx=>by
  obtain⟨i,hi,rfl⟩:=dU.mp hx;exact row i (nK.mp hi)
 have lS:∀r∈nA d.aK d.aJ F,Sp p (RS ((d.dz p d.aJ 0).map (gW d.aK d.aN d.aJ))) (fn r):=λr hr=>by
  obtain⟨i,hi,rfl⟩:=dU.mp hr;have hi:=nK.mp hi;obtain⟨x1,x2⟩:=pM hi;obtain⟨y1,y2⟩:=ok.len _ _ x1 x2;have e1:(dk d.aK d.aJ i++cY d.aK d.aJ i).length=d.aK+d.aJ:=by rw[bQ,x1,x2]
  have e2:(dk d.aK d.aJ i++cY d.aK d.aJ i++(F (dk d.aK d.aJ i) (cY d.aK d.aJ i)).1).length=d.aK+d.aJ+d.aN:=by rw[bQ,e1,y1]
  have t:=(ok.tr _ _ x1 x2 _ _).mpr ⟨.refl _ _,.refl _ _⟩;refine(AG pp ok.wf hs hw).mpr ⟨TR.cD ok.wf (λj hj=>cK ?_) (λj hj=>cK ?_) (λj hj=>cK ?_) (λj hj=>cK ?_) t,λs=>?_⟩
  ·unfold md;rw[dq,dq,jO (by lia)]
  ·unfold md sh;rw[dq,dq,pN x1,jO (by lia)]
  ·unfold md sh;rw[dq (dk d.aK d.aJ i++cY d.aK d.aJ i),pN e1,jO (by lia)]
  ·unfold md sh;rw[pN e2]
  ·rw[LQ (by unfold md;rw[bQ,e2,y2])];exact⟨0,by lia⟩
 refine⟨Je pp fo hL (λr hr=>LO (n:=d.aK+d.aJ) id lS (λf hf hz j=>?_) ?_ (λi j h hj=>?_) (pq hr)) lS,hL⟩
 ·obtain⟨t,o⟩:=(AG pp ok.wf hs hw).mp hf;obtain⟨q1,q2⟩:=LU pp ok hs hw (λj hj=>by rw[qG];exact hz j (by lia)) (λj hj=>by rw[qG];exact hz (d.aK+j) (by lia)) t;by_cases j1:j<d.aK+d.aJ
  ·exact hz j j1
  by_cases j2:j<d.aK+d.aJ+d.aN
  ·have:=q1 (j-(d.aK+d.aJ)) (by lia)
   unfold sh at this;rwa[qG,show d.aK+d.aJ+(j-(d.aK+d.aJ))=j by lia]at this
  by_cases j3:j<d.aK+d.aJ+d.aN+d.aJ
  ·have:=q2 (j-(d.aK+d.aJ+d.aN)) (by lia)
   unfold sh at this;rwa[qG,show d.aK+d.aJ+d.aN+(j-(d.aK+d.aJ+d.aN))=j by lia]at this
  ·have:=o (j-(d.aK+d.aJ+d.aN+d.aJ))
   rwa[show d.aK+d.aJ+d.aN+d.aJ+(j-(d.aK+d.aJ+d.aN+d.aJ))=j by lia]at this
 ·unfold nA;rw[bz,ml]
 ·have hi:i<d.aK+d.aJ:=by unfold nA at h;rwa[bz,ml]at h
  have e0:(nA d.aK d.aJ F)[i]?=some (md d.aK d.aJ F i):=by unfold nA;rw[eI,List.getElem?_range hi];rfl
  have e:(nA d.aK d.aJ F)[i]=md d.aK d.aJ F i:=dj ((cE h).symm.trans e0);obtain⟨x1,x2⟩:=pM hi;obtain⟨u1,u2⟩:=LP hi;rw[e];unfold md;show fn _ j=_;by_cases j1:j<d.aK
  ·rw[dq,dq,jO (by lia),u1 j j1]
  ·obtain⟨m,rfl⟩:∃m,j=d.aK+m:=⟨j-d.aK,by lia⟩;rw[dq,dq,pN x1,jO (by lia),u2 m]
theorem Wu(pp:p∈c7)(ok:iE p d F)(rg:ki p F)(hs:d.sm)(hw:d.aJ≤40) :
  dw p (((Drw.back d).dz p d.aJ 0).map (gW d.aN d.aK d.aJ))=dw p (nB d.aK d.aJ F)∧cj p (d.aK+d.aN+2*d.aJ) (nB d.aK d.aJ F):=by
 obtain⟨p2,_⟩:=gI p pp;have LV:∀f,Sp p (RS (((Drw.back d).dz p d.aJ 0).map (gW d.aN d.aK d.aJ))) f↔TR p d (sh (d.aN+d.aJ) f) (sh d.aN f) f (sh (d.aN+d.aJ+d.aK) f)∧∀s,p∣f (d.aN+d.aJ+d.aK+d.aJ+s):=λf=>AG pp (d:=.back d) ok.wf hs hw;obtain⟨_,_,_,hR⟩:=Drw.iC pp hw (d:=.back d) (c:=0) ok.wf hs (by show 0+d.aJ≤d.aJ;lia);have hR:cj p (d.aN+d.aK+2*d.aJ) ((Drw.back d).dz p d.aJ 0):=hR;have fo:cj p (d.aK+d.aN+2*d.aJ) (((Drw.back d).dz p d.aJ 0).map (gW d.aN d.aK d.aJ)):=λx hx=>by
  obtain⟨y,hy,rfl⟩:=dU.mp hx;rw[qB d.aK];exact EL (hR y hy)
 have row:∀i,i<d.aK+d.aJ→Rw p (d.aK+d.aN+2*d.aJ) (me d.aK d.aJ F i):=λi hi=>by
  obtain⟨x1,x2⟩:=pM hi;obtain⟨y1,y2⟩:=ok.len _ _ x1 x2;obtain⟨n1,n2⟩:=AH p2 hi;obtain⟨n3,n4⟩:=rg _ _ n1 n2;unfold me;refine⟨?_,mf (mf (mf n3 n2) n1) n4⟩;simp only[bQ,x1,x2,y1,y2];lia
 have hL:cj p (d.aK+d.aN+2*d.aJ) (nB d.aK d.aJ F):=λx hx=>by
  obtain⟨i,hi,rfl⟩:=dU.mp hx;exact row i (nK.mp hi)
 have lS:∀r∈nB d.aK d.aJ F,Sp p (RS (((Drw.back d).dz p d.aJ 0).map (gW d.aN d.aK d.aJ))) (fn r):=λr hr=>by
  obtain⟨i,hi,rfl⟩:=dU.mp hr;have hi:=nK.mp hi;obtain⟨x1,x2⟩:=pM hi;obtain⟨y1,y2⟩:=ok.len _ _ x1 x2;have e1:((F (dk d.aK d.aJ i) (cY d.aK d.aJ i)).1++cY d.aK d.aJ i).length=d.aN+d.aJ:=by rw[bQ,y1,x2]
  have e2:((F (dk d.aK d.aJ i) (cY d.aK d.aJ i)).1++cY d.aK d.aJ i++dk d.aK d.aJ i).length=d.aN+d.aJ+d.aK:=by rw[bQ,e1,x1]
  have t:=(ok.tr _ _ x1 x2 _ _).mpr ⟨.refl _ _,.refl _ _⟩;refine(LV _).mpr ⟨TR.cD ok.wf (λj hj=>cK ?_) (λj hj=>cK ?_) (λj hj=>cK ?_) (λj hj=>cK ?_) t,λs=>?_⟩
  ·unfold me sh;rw[dq ((F (dk d.aK d.aJ i) (cY d.aK d.aJ i)).1++cY d.aK d.aJ i),pN e1,jO (by lia)]
  ·unfold me sh;rw[dq,dq,pN y1,jO (by lia)]
  ·unfold me;rw[dq,dq,jO (by lia)]
  ·unfold me sh;rw[pN e2]
  ·rw[LQ (by unfold me;rw[bQ,e2,y2])];exact⟨0,by lia⟩
 refine⟨Je pp fo hL (λr hr=>LO (n:=d.aK+d.aJ) (λi=>if i<d.aK then d.aN+d.aJ+i else d.aN+(i-d.aK)) lS (λf hf hz j=>?_) ?_ (λi j h hj=>?_) (pq hr)) lS,hL⟩
 ·obtain⟨t,o⟩:=(LV _).mp hf;have zx:∀j,j<d.aK→p∣f (d.aN+d.aJ+j):=λj hj=>by
   have:=hz j (by lia)
   rwa[ae hj]at this
  have zk:∀j,j<d.aJ→p∣f (d.aN+j):=λj hj=>by
   have:=hz (d.aK+j) (by lia)
   rwa[ah (by lia),show d.aK+j-d.aK=j by lia]at this
  obtain⟨q1,q2⟩:=LU pp ok hs hw (λj hj=>by rw[qG];exact zx j hj) (λj hj=>by rw[qG];exact zk j hj) t;by_cases j1:j<d.aN
  ·have:=q1 j j1
   rwa[qG]at this
  by_cases j2:j<d.aN+d.aJ
  ·have:=zk (j-d.aN) (by lia)
   rwa[show d.aN+(j-d.aN)=j by lia]at this
  by_cases j3:j<d.aN+d.aJ+d.aK
  ·have:=zx (j-(d.aN+d.aJ)) (by lia)
   rwa[show d.aN+d.aJ+(j-(d.aN+d.aJ))=j by lia]at this
  by_cases j4:j<d.aN+d.aJ+d.aK+d.aJ
  ·have:=q2 (j-(d.aN+d.aJ+d.aK)) (by lia)
   unfold sh at this;rwa[qG,show d.aN+d.aJ+d.aK+(j-(d.aN+d.aJ+d.aK))=j by lia]at this
  ·have:=o (j-(d.aN+d.aJ+d.aK+d.aJ))
   rwa[show d.aN+d.aJ+d.aK+d.aJ+(j-(d.aN+d.aJ+d.aK+d.aJ))=j by lia]at this
 ·unfold nB;rw[bz,ml]
 ·have hi:i<d.aK+d.aJ:=by unfold nB at h;rwa[bz,ml]at h
  have e0:(nB d.aK d.aJ F)[i]?=some (me d.aK d.aJ F i):=by unfold nB;rw[eI,List.getElem?_range hi];rfl
  have e:(nB d.aK d.aJ F)[i]=me d.aK d.aJ F i:=dj ((cE h).symm.trans e0);obtain⟨x1,x2⟩:=pM hi;obtain⟨y1,y2⟩:=ok.len _ _ x1 x2;obtain⟨u1,u2⟩:=LP hi;rw[e];unfold me;have e1:((F (dk d.aK d.aJ i) (cY d.aK d.aJ i)).1++cY d.aK d.aJ i).length=d.aN+d.aJ:=by rw[bQ,y1,x2]
  by_cases j1:j<d.aK
  ·rw[ae j1,dq ((F (dk d.aK d.aJ i) (cY d.aK d.aJ i)).1++cY d.aK d.aJ i),pN e1,jO (by lia),u1 j j1]
  ·obtain⟨m,rfl⟩:∃m,j=d.aK+m:=⟨j-d.aK,by lia⟩;rw[ah j1,show d.aK+m-d.aK=m by lia,dq,dq,pN y1,jO (by lia),u2 m]
end
section
variable{p:Int}
theorem rT(p0:0<p)(h:eE p g)(j:Nat):0≤fn g j∧fn g j<p:=by
 unfold fn;rw[cF];by_cases hj:j<g.length
 ·rw[cE hj];exact h _ (jh hj)
 ·rw[iV (by lia)];exact⟨Int.le_refl 0,p0⟩
theorem oJ{a:Int}(h:0≤a∧a<p):eE p [a]:=λx hx=>by rw[dI.mp hx];exact h
theorem qt:eE p []:=λx hx=>absurd hx (by simp)
theorem LW{a b:Int}(h:0≤a∧a<p)(k:0≤b∧b<p):eE p [a,b]:=mf (oJ h) (oJ k)
theorem ER(p0:0<p)(a:Int):0≤a%p∧a%p<p:=⟨jR _ (by lia),jS _ p0⟩
theorem AI(p0:0<p)(b:Bx):ki p (b.run p):=λg k hg hk=>by
 cases b with
 |add=>exact⟨oJ (ER p0 _),qt⟩
 |swap=>exact⟨LW (rT p0 hg 1) (rT p0 hg 0),qt⟩
 |copy=>exact⟨LW (rT p0 hg 0) (rT p0 hg 0),qt⟩
 |times n=>exact⟨oJ (ER p0 _),qt⟩
 |dg=>exact⟨oJ (rT p0 hk 0),oJ (rT p0 hg 0)⟩
 |id=>exact⟨oJ (rT p0 hg 0),qt⟩
 |none=>exact⟨oJ ⟨Int.le_refl 0,p0⟩,qt⟩
 |fin=>exact⟨qt,qt⟩
theorem AJ(h:eE p g)(n:Nat):eE p (g.take n):=λx hx=>h x (jU hx)
theorem uJ(h:eE p g)(n:Nat):eE p (g.drop n):=λx hx=>h x (lE hx)
theorem Wv{G:gU}{a n:Nat}(hF:ki p F)(hG:ki p G):ki p (oE a n F G):=λg k hg hk=>by
 obtain⟨h1,h2⟩:=hF _ _ (AJ hg a) (AJ hk n);obtain⟨h3,h4⟩:=hG _ _ (uJ hg a) (uJ hk n);exact⟨mf h1 h3,mf h2 h4⟩
theorem Ww{G:gU}{n:Nat}(hF:ki p F)(hG:ki p G):ki p (qo n F G):=λg k hg hk=>by
 obtain⟨h1,h2⟩:=hF _ _ hg (AJ hk n);obtain⟨h3,h4⟩:=hG _ _ h1 (uJ hk n);exact⟨h3,mf h2 h4⟩
theorem AK(p0:0<p):∀bs:List Bx,ki p (fZ p bs)
 | []=>AI p0 .id
 | [b]=>AI p0 b
 |b::c::bs=>Wv (AI p0 b) (AK p0 (c::bs))
theorem LX(p0:0<p):∀ls:List (List Bx),ki p (jf p ls)
 | []=>AI p0 .id
 | [x]=>AK p0 x
 |x::y::xs=>Ww (AK p0 x) (LX p0 (y::xs))
theorem LY:∀(l:List Int)(a:Int),l.getLastD a∈a::l
 | [],a=>cZ
 |b::l,a=>by rw[List.getLastD_cons];exact fu _ (LY l b)
theorem LZ(p0:0<p){k:List Int}(h:eE p k):0≤k.getLastD 0∧k.getLastD 0<p:=by
 rcases dS.mp (LY k 0)with e|e
 ·rw[e];exact⟨Int.le_refl 0,p0⟩
 ·exact h _ e
theorem Wx(p0:0<p)(hF:ki p F):ki p (wR F):=λg k hg hk=>by
 obtain⟨h1,h2⟩:=hF (k.getLastD 0::g) k (mf (oJ (LZ p0 hk)) hg) hk;exact⟨uJ h1 1,h2⟩
end
end S21
namespace L2
open PySem PySem.Spec PyProof.Rows
section
variable{X:Cx}
open Classical in
def ET(K:Frag):R2:=λx y H Q=>∃d es,fj K H x d∧fj K H y (.tuple es)∧kqdOk 8 d=true∧kqdOk 8 (.tuple es)=true∧(∀e∈es,kqdOk 8 e=true)∧Q (.bl (es.any λe=>decide (e=d))) H
open Classical in
theorem L0{d:Dat}(hd:kqdOk 8 d=true):∀{es:List Dat},(∀e∈es,kqdOk 8 e=true)→(PySem.W.kqdPs es).any (λy=>PyData.eqv y (PySem.W.kqdP d))=es.any λe=>decide (e=d)
 | [],_=>rfl
 |e::es,h=>by
  rw[PySem.W.kqdPs,List.any_cons,List.any_cons,Iv (h e cZ) hd,L0 hd λx hx=>h x (fu _ hx)]
open Classical in
theorem Wy(hu:X.A.units+65<cLine):eM X (compareOp .In) (ET X.K):=by
 intro aI s σ H x y v u Q I rx ry h;obtain⟨d,es,hx,hy,hd,he,Wz,q⟩:=h;obtain⟨as,ra⟩:=hx.reads I rx;obtain⟨bs,rb⟩:=hy.reads I ry;rw[PySem.W.kqdP]at rb;have hc:SeqAt.shaped (PyData.tuple (PySem.W.kqdPs es))=true:=by
  have:=vO he
  rwa[PySem.W.kqdP]at this
 refine PySem.SeqAt.in_tuple_reads rb ra (SeqAt.canLay_of_shaped hc) (SeqAt.canLay_of_shaped (vO hd)) (room_in_shaped (vO hd) hu) ?_;rw[L0 hd Wz];exact⟨.bl _,H,I,rfl,q⟩
end
end L2
namespace S21
open PySem L2 Bw
noncomputable abbrev Bx.bc(b:Bx):List V:=b.cm.bc
def AL:Sp:=λvs H Q _=>∃(d p l:Int),vs=[.int d,.int p,.int l]∧0≤d∧d<2147483629∧2≤p∧p≤97∧1≤l∧∀(b:Bx)(a:Addr)(H':Hp),b.wf p→(b.l:Int)≤l→1≤b.l→1≤b.r→aM H H'→H' a=some (.tup b.bc)→Q (.ref a) H'
theorem WA:c8 ["draw","p","left"] ["draw","p","left"] (bx Dt):=dJ rfl rfl rfl (by decide +kernel) rfl
abbrev tW(x:Str):TE:=eB (aW (tC (.str x)) bo)
abbrev w8:TE:=bI (rI (λ_ j=>0<j) λi j=>.int (i%j)) (aO 0) (tC (.int 9))
def xa(K:Frag):TE:=bI (n5 K) (g7 (aW (tW "add") (aW (tW "swap") (aW (tW "add") bo)))) w8
def AM:TE:=eB (aW (tC (.str "times")) (aW (bI (rI (λ_ j=>0<j) λi j=>.int (i%j)) (bI (rI Gy λi j=>.int (i/j)) (aO 0) (tC (.int 9))) (aO 1)) bo))
def uK(K:Frag):TE:=bI (n5 K) (g7 (aW (tW "copy") (aW (tW "late") (aW (tW "late") (aW (tW "id") bo))))) (bI (gB λi j=>.int (i-j)) w8 (tC (.int 5)))
def L1:TT:=sU (gs (bI (gB λi j=>.bl (decide (j<i))) (aO 2) (tC (.int 1)))) (gs (bI (gB λi j=>.bl (decide (i<j))) w8 (tC (.int 3))))
def AN(K:Frag):TS:=bZ (eU L1 (eA (xa K)) gR) (bZ (eU (gs (bI (gB λi j=>.bl (decide (i<j))) w8 (tC (.int 5)))) (eA AM) gR) (eA (uK K)))
theorem WB{D:Ends}{d p l:Int}{H:Hp}(d0:0≤d)(d1:d<2147483629)(p2:2≤p)(l1:1≤l)
  (q:∀(b:Bx)(a:Addr)(H':Hp),b.wf p→(b.l:Int)≤l→1≤b.l→1≤b.r→aM H H'→H' a=some (.tup b.bc)→D.rt (.ref a) H'):AN K D [some (.int d),some (.int p),some (.int l)] H:=by
 have r0:0≤d%9:=jR _ (by decide);have r9:d%9<9:=jS _ (by decide);have ef:(bZ (eU (gs (bI (gB λi j=>.bl (decide (i<j))) w8 (tC (.int 5)))) (eA AM) gR) (eA (uK K))) D [some (.int d),some (.int p),some (.int l)] H:=by
  refine⟨_,rfl,d,9,rfl,rfl,(by show(0:Int)<9;decide),_,5,rfl,rfl,_,rfl,?_⟩;by_cases h5:d%9<5
  ·rw[aE h5];refine i7 ⟨_,rfl,d,9,rfl,rfl,?_,_,rfl,_,p,rfl,rfl,by lia,by show 2≤sizeLine;decide,λa ha=>?_⟩
   ·exact⟨by decide,by lia⟩
   ·exact q (.times (d/9%p)) a _ (ER (by lia) _) (by show((1:Nat):Int)≤l;lia) (by show 1≤1;decide) (by show 1≤1;decide) (.upd ha) aX
  ·rw[aa h5];refine eP ?_;show uK K _ _ _;unfold uK;refine⟨by show 1≤sizeLine;decide,λa1 g1=>⟨by show 1≤sizeLine;decide,λa2 g2=>⟨by show 1≤sizeLine;decide,λa3 g3=>⟨by show 1≤sizeLine;decide,λa4 g4=>⟨by show 4≤sizeLine;decide,λll hl=>?_⟩⟩⟩⟩⟩;have s1:=aM.upd (o:=.tup [.str "copy"]) g1;have s2:=aM.upd (o:=.tup [.str "late"]) g2;have s3:=aM.upd (o:=.tup [.str "late"]) g3;have s4:=aM.upd (o:=.tup [.str "id"]) g4;have s5:=aM.upd (o:=.lst [.ref a1,.ref a2,.ref a3,.ref a4]) hl;have sA:=s1.trans (s2.trans (s3.trans (s4.trans s5)));refine⟨_,rfl,d,9,rfl,rfl,(by show(0:Int)<9;decide),_,5,rfl,rfl,ll,[.ref a1,.ref a2,.ref a3,.ref a4],d%9-5,?_⟩;have hc:d%9=5∨d%9=6∨d%9=7∨d%9=8:=by lia
   rcases hc with e|e|e|e<;>rw[e]
   ·exact⟨.ref a1,rfl,rfl,.of aX,cH (j:=0) rfl,q .copy a1 _ trivial (by show((1:Nat):Int)≤l;lia) (by decide) (by decide) sA ((s2.trans (s3.trans (s4.trans s5))) _ _ aX)⟩
   ·exact⟨.ref a2,rfl,rfl,.of aX,cH (j:=1) rfl,q .dg a2 _ trivial (by show((1:Nat):Int)≤l;lia) (by decide) (by decide) sA ((s3.trans (s4.trans s5)) _ _ aX)⟩
   ·exact⟨.ref a3,rfl,rfl,.of aX,cH (j:=2) rfl,q .dg a3 _ trivial (by show((1:Nat):Int)≤l;lia) (by decide) (by decide) sA ((s4.trans s5) _ _ aX)⟩
   ·exact⟨.ref a4,rfl,rfl,.of aX,cH (j:=3) rfl,q .id a4 _ trivial (by show((1:Nat):Int)≤l;lia) (by decide) (by decide) sA (s5 _ _ aX)⟩
 unfold AN;refine⟨_,rfl,l,1,rfl,rfl,_,rfl,?_⟩;by_cases h1:1<l
 ·rw[aE h1];refine i7 ⟨_,rfl,d,9,rfl,rfl,(by show(0:Int)<9;decide),_,3,rfl,rfl,_,rfl,?_⟩;by_cases h3:d%9<3
  ·rw[aE h3];refine i7 ?_;show xa K _ _ _;unfold xa;refine⟨by show 1≤sizeLine;decide,λa1 g1=>⟨by show 1≤sizeLine;decide,λa2 g2=>⟨by show 1≤sizeLine;decide,λa3 g3=>⟨by show 3≤sizeLine;decide,λll hl=>?_⟩⟩⟩⟩;have s1:=aM.upd (o:=.tup [.str "add"]) g1;have s2:=aM.upd (o:=.tup [.str "swap"]) g2;have s3:=aM.upd (o:=.tup [.str "add"]) g3;have s5:=aM.upd (o:=.lst [.ref a1,.ref a2,.ref a3]) hl;have sA:=s1.trans (s2.trans (s3.trans s5));refine⟨_,rfl,d,9,rfl,rfl,(by show(0:Int)<9;decide),ll,[.ref a1,.ref a2,.ref a3],d%9,?_⟩;have hc:d%9=0∨d%9=1∨d%9=2:=by lia
   rcases hc with e|e|e<;>rw[e]
   ·exact⟨.ref a1,rfl,ao V.int e,.of aX,cH (j:=0) rfl,q .add a1 _ trivial (by show((2:Nat):Int)≤l;lia) (by decide) (by decide) sA ((s2.trans (s3.trans s5)) _ _ aX)⟩
   ·exact⟨.ref a2,rfl,ao V.int e,.of aX,cH (j:=1) rfl,q .swap a2 _ trivial (by show((2:Nat):Int)≤l;lia) (by decide) (by decide) sA ((s3.trans s5) _ _ aX)⟩
   ·exact⟨.ref a3,rfl,ao V.int e,.of aX,cH (j:=2) rfl,q .add a3 _ trivial (by show((2:Nat):Int)≤l;lia) (by decide) (by decide) sA (s5 _ _ aX)⟩
  ·rw[aa h3];exact eP ef
 ·rw[aa h1];exact eP (eP ef)
theorem WC{f:Addr}{fd:FuncData}(F:cC K "_law_box" "_law_box" Dt f fd):bu P w K mg base br 1 f fd ["draw","p","left"] AL:=by
 refine F.ok WA (λvs H Q E h=>?_) (λbV A outer s H vs Q E hr h=>?_)
 ·obtain⟨d,p,l,rfl,_⟩:=h;rfl
 ·obtain⟨d,p,l,rfl,d0,d1,p2,cX,l1,q⟩:=h;refine⟨AN K,?_,?_⟩
  ·unfold AN;refine bh ?_ ?_
   ·refine dX ?_ ?_ fg
    ·unfold L1;exact PW.pt (sV (de qV (pv 2) aU (da _)) (vw (de x9 (aY eW (pv 0) aU) aU (da _))))
    ·refine bK ?_;refine cQ (te:=xa K) ?_;unfold xa;refine cf (e7 K rfl) ?_ (aY eW (pv 0) aU) (λ_ _=>rfl);refine gk ?_;refine aL (cB (aL cP aR)) ?_ ?_
     ·refine aL (cB (aL cP aR)) ?_ ?_
      ·refine aL (cB (aL cP aR)) aR ?_;exact nq
      ·exact nq
     ·exact nq
   refine bh ?_ ?_
   ·refine dX ?_ ?_ fg
    ·exact de x9 (aY eW (pv 0) aU) aU (da _)
    ·refine bK ?_;refine cQ (te:=AM) ?_;unfold AM;refine cB ?_;refine aL cP ?_ ?_
     ·refine aL (aY eW (aY x8 (pv 0) aU) (pv 1)) aR ?_;rfl
     ·exact ug
   refine bK ?_;refine cQ (te:=uK K) ?_;unfold uK;refine cf (e7 K rfl) ?_ (aY iZ (aY eW (pv 0) aU) aU) (λ_ _=>rfl);refine gk ?_;refine aL (cB (aL cP aR)) ?_ ?_
   ·refine aL (cB (aL cP aR)) ?_ ?_
    ·refine aL (cB (aL cP aR)) ?_ ?_
     ·refine aL (cB (aL cP aR)) aR ?_;exact nq
     ·exact nq
    ·exact nq
   ·exact nq
  ·exact WB d0 d1 p2 l1 q
end S21
namespace L2
open PySem PySem.Spec PyProof.Rows
def rV(H:Hp)(xs:List V)(Q:VK):Prop:=∀p H',aM H H'→H' p=some (.tup xs)→Q (.ref p) H'
def pO:R2:=λx y H Q=>∃a b xs ys,x=.ref a∧y=.ref b∧H a=some (.tup xs)∧H b=some (.tup ys)∧xs.length+ys.length≤sizeLine∧rV H (xs++ys) Q
theorem nC{X:Cx}:eM X (binaryOp .Add) pO:=by
 rintro aI s σ H x y v u Q I rx ry ⟨a,b,xs,ys,rfl,rfl,ha,hb,hz,q⟩;have L3:aZ X.K H a xs:=.of ha;have lN:aZ X.K H b ys:=.of hb;by_cases hx:xs=[]
 ·subst hx;cases rx;cases ry;obtain⟨its,r1,⟨⟨c1,d1,t1,s1⟩,o1,e1,n1,f1⟩,_⟩:=I.tuple L3;obtain⟨rf,r2,⟨⟨c2,d2,t2,s2⟩,o2,e2,n2,f2⟩,_⟩:=I.tuple lN;simp only at e1 f1 e2 f2;subst e1 f1 e2 f2;cases r1;refine concat_meets ⟨_,o1,rfl⟩ ⟨_,o2,rfl⟩ noFill_tuple_add seq_tuple_add PySem.F.slot_tuple_add PySem.F.entry_tuple_add (PySem.F.args_tuple_add_2 _ _) (II a b _ _ _ _ d1 d2 s1 s2 rfl) ⟨o1,o2,?_⟩;exact⟨.ref b,H,I,rfl,q b H (.refl H) hb⟩
 ·refine Ha aI s σ H _ _ v u Q I rx ry ⟨a,b,xs,ys,rfl,rfl,L3,lN,hx,hz,λhy=>?_,λ_ p hp=>q p _ (.upd hp) aX⟩;subst hy;exact q a H (.refl H) (by rw[gY];exact ha)
end L2
namespace S21
open PySem L2 Bw
variable{D:Ends}{E:XK}{H H' H1:Hp}{L R i lp:Nat}{LS VS e vs ws xs:List V}{Pt a ac af ag ak al as c f fB fC fD fL fT fU lb ll:Addr}{Q:VK}{b:Bx}{es:List (List V)}{fd jM lj fH jI jv uL:FuncData}{g g0 ns:List Int}{ls:List (List Bx)}{o:HO}{p:Int}{ps:List Str}{s5 s6 s7:Option V}{v:V}{x:Str}{σ:St}
def cL(H:Hp)(VS:List V)(es:List (List V)):Prop:=VS.length=es.length∧∀(i:Nat)(v:V)(e:List V),VS[i]?=some v→es[i]?=some e→∃c:Addr,v=.ref c∧H c=some (.tup e)
theorem cL.mono(h:cL H VS es)(s:aM H H'):cL H' VS es:=⟨h.1,λi v e hv he=>let ⟨c,e1,e2⟩:=h.2 i v e hv he;⟨c,e1,s _ _ e2⟩⟩
theorem cL.snoc(h:cL H VS es)(hc:H c=some (.tup e)):cL H (VS++[.ref c]) (es++[e]):=by
 refine⟨by rw[bQ,bQ,h.1];rfl,λi v x hv hx=>?_⟩;by_cases hi:i<VS.length
 ·rw[gz hi]at hv;rw[gz (by rw[← h.1];exact hi)]at hx;exact h.2 i v x hv hx
 ·rw[gZ (by lia)]at hv;rw[gZ (by rw[← h.1];lia),← h.1]at hx;generalize i-VS.length=j at hv hx;cases j with
  |zero=>cases hv;cases hx;exact⟨c,rfl,hc⟩
  |succ j=>cases hv
theorem cL.nil:cL H [] []:=⟨rfl,λi v e hv=>by cases hv⟩
noncomputable def gc(z:Str)(es:List (List V)):List V:=es.flatMap λe=>.str z::e
theorem L4(z:Str)(es:List (List V))(e:List V):gc z (es++[e])=gc z es++[.str z]++e:=by
 unfold gc;rw[List.flatMap_append,List.flatMap_singleton,dq];rfl
theorem AO{z:Str}{B:Nat}:∀es:List (List V),(∀e∈es,e.length≤B)→(gc z es).length≤es.length*(B+1)
 | [],_=>mi _
 |e::es,h=>by
  have ih:=AO (z:=z) es λx hx=>h x (fu _ hx)
  have:=h e cZ
  show((.str z::e)++gc z es).length≤(es.length+1)*(B+1);rw[bQ,eF,Nat.add_mul,Nat.one_mul];lia
theorem L5(xs:List V)(v:V):ir (xs++[v]) none (some (-1))=xs:=by
 have es:HT.cz (xs++[v]).length (xs++[v]).length (some (-1))=xs.length:=by
  show(if(-1:Int)<0 then(-1+((xs++[v]).length:Int)).toNat else min (-1:Int).toNat (xs++[v]).length)=xs.length
  rw[ae (by decide),bQ];show(-1+((xs.length+1:Nat):Int)).toNat=xs.length;lia
 unfold ir;rw[es,HT.yh,List.drop_zero,Nat.sub_zero,List.take_left]
def uM:Sp:=λvs H Q _=>∃(a b:Addr)(VS:List V)(es:List (List V))(d:List V),vs=[.ref a]∧H a=some (.lst (VS++[.ref b]))∧cL H VS es∧H b=some (.tup d)∧es.length≤50∧(∀e∈es,e.length≤50)∧d.length≤50∧rV H (gc "beside" es++d) Q
theorem AQ:c8 ["parts","words","part"] ["parts"] (bx Du):=dJ rfl rfl rfl (by decide +kernel) rfl
theorem WD(F:cC K "_law_beside" "_law_beside" Du f fd):bu P w K mg base br 1 f fd ["parts"] uM:=by
 refine F.ok AQ (λvs H Q E h=>?_) (λbV A outer s H vs Q E hr h=>?_)
 ·obtain⟨a,b,VS,es,d,rfl,_⟩:=h;rfl
 ·obtain⟨a,b,VS,es,d,rfl,ga,hV,hb,le,lw,lw',q⟩:=h;have z:(10000:Nat)≤sizeLine:=by decide
  refine⟨_,bh (bY (i:=1) AQ.nd rfl (.inl rfl) (cB aR)) (bh (jZ kr rfl (ja K rfl (eN (CU K rfl) (pv 0) gn (dP (mI mJ aU)))) (cq (i:=2) AQ.nd rfl (.inl rfl)) (bK (bY (i:=1) AQ.nd rfl (.inl rfl) (aY nC (aY nC (pv 1) (cB (aL cP aR))) (pv 2))))) (bK (cQ (aY nC (pv 1) (cf (e7 K rfl) (pv 0) (mI mJ aU) (λ_ _=>rfl)))))),?_⟩;refine⟨by decide,λl0 h0=>?_⟩;have s0:aM H (upd H l0 (.tup [])):=.upd h0;have g0:(upd H l0 (.tup [])) l0=some (.tup (gc "beside" [])):=aX;generalize upd H l0 (.tup [])=H0 at s0 g0 ⊢;refine⟨_,rfl,_,rfl,_,rfl,a,_,rfl,.of (s0 _ _ ga),λl1 h1=>?_⟩;rw[show(-1:Int)=-1 from rfl,L5]
  have s1:aM H (upd H0 l1 (.lst VS)):=s0.trans (.upd h1);have g1:(upd H0 l1 (.lst VS)) l1=some (.lst VS):=aX;have xb:(upd H0 l1 (.lst VS)) l0=some (.tup (gc "beside" (es.take 0))):=aM.upd h1 _ _ g0;generalize upd H0 l1 (.lst VS)=H1 at s1 g1 xb ⊢;refine⟨l1,rfl,⟨_,.of g1⟩,x5 (xs:=VS) (λi σ H'=>aM H1 H'∧∃lp s2,σ=[some (.ref a),some (.ref lp),s2]∧H' lp=some (.tup (gc "beside" (es.take i)))) ⟨.refl _,l0,none,rfl,xb⟩ (λi σ H' _ ⟨sm,_⟩=>.of (sm _ _ g1)) ?_ ?_⟩
  ·rintro i x σ H2 hx ⟨sm,lp,s2,rfl,g⟩;have hi:i<es.length:=by
    have:=(gi.mp hx).1
    have:=hV.1
    lia
   obtain⟨e,he⟩:∃e,es[i]?=some e:=⟨_,cE hi⟩;obtain⟨c,rfl,hc⟩:=hV.2 i _ e hx he;have hw:=AO (z := "beside") (B:=50) (es.take i) λy hy=>lw _ (jU hy);have hw1:=lw e (gj he);have hl:(es.take i).length≤50:=by rw[cV];lia
   have hw:(gc "beside" (es.take i)).length≤2550:=by lia
   dsimp only[bq];refine⟨_,rfl,by show 1≤sizeLine;lia,λt ht=>⟨_,_,_,_,rfl,rfl,aM.upd ht _ _ g,aX,by show _+1≤sizeLine;lia,λt2 H3 s3 h3=>?_⟩⟩;have xf:=(aM.upd ht).trans s3;refine⟨_,rfl,_,_,_,_,rfl,rfl,h3,(s1.trans (sm.trans xf)) _ _ hc,by rw[bQ];show _+1+_≤sizeLine;lia,λt3 H4 s4 h4=>?_⟩;refine⟨sm.trans (xf.trans s4),t3,_,rfl,?_⟩;rw[h4,gq,he];show _=some (HO.tup (gc "beside" (es.take i++[e])));rw[L4]
  rintro σ H2 ⟨sm,lp,s2,rfl,g⟩;rw[hV.1,kq]at g;have hw:=AO (z := "beside") (B:=50) es lw;have hw:(gc "beside" es).length≤2550:=by lia
  have sc:=s1.trans sm;refine⟨_,rfl,_,rfl,_,rfl,a,_,-1,_,rfl,rfl,.of (sc _ _ ga),yn _ _,lp,b,_,_,rfl,rfl,g,sc _ _ hb,by lia,λc H3 s3 hc=>q c H3 (sc.trans s3) hc⟩
section
variable{p:Int}
abbrev EU:=List Int×List Int×List Int
noncomputable def rW(p:Int)(k:List Int)(s:EU)(b:Bx):EU:=(s.1.drop b.l,s.2.1++(b.run p s.1 (k.drop s.2.1.length)).2,s.2.2++(b.run p s.1 (k.drop s.2.1.length)).1)
theorem EV(b:Bx)(g k:List Int):b.run p (g.take b.l) (k.take b.n)=b.run p g k:=by
 cases b with
 |add=>show([(fn (g.take 2) 0+fn (g.take 2) 1)%p],[])=([_],_);rw[je (by decide),je (by decide)]
 |swap=>show([fn (g.take 2) 1,fn (g.take 2) 0],[])=([_,_],_);rw[je (by decide),je (by decide)]
 |copy=>show([fn (g.take 1) 0,fn (g.take 1) 0],[])=([_,_],_);rw[je (by decide)]
 |times n=>show([fn (g.take 1) 0*n%p],[])=([_],_);rw[je (by decide)]
 |dg=>show([fn (k.take 1) 0],[fn (g.take 1) 0])=([_],[_]);rw[je (by decide),je (by decide)]
 |id=>show([fn (g.take 1) 0],[])=([_],_);rw[je (by decide)]
 |none=>rfl
 |fin=>rfl
theorem xg(b:Bx)(g k:List Int):(b.run p g k).2.length=b.n:=by
 cases b<;>(first|rfl|exact(by decide +kernel))
theorem L7:∀(bs:List Bx)(g k a f:List Int),bs≠[]→(bs.foldl (rW p k) (g,a,f)).2=(a++(fZ p bs g (k.drop a.length)).2,f++(fZ p bs g (k.drop a.length)).1)
 | [],_,_,_,_,h=>absurd rfl h
 | [b],g,k,a,f,_=>rfl
 |b::c::bs,g,k,a,f,_=>by
  have ih:=L7 (c::bs) (g.drop b.l) k (a++(b.run p g (k.drop a.length)).2) (f++(b.run p g (k.drop a.length)).1) (by simp);show((c::bs).foldl (rW p k) (rW p k (g,a,f) b)).2=(a++(oE b.l b.n (b.run p) (fZ p (c::bs)) g (k.drop a.length)).2,f++(oE b.l b.n (b.run p) (fZ p (c::bs)) g (k.drop a.length)).1);have e:rW p k (g,a,f) b=(g.drop b.l,a++(b.run p g (k.drop a.length)).2,f++(b.run p g (k.drop a.length)).1):=rfl;rw[e,ih];unfold oE;rw[EV,bQ,xg,← List.drop_drop,dq,dq]
end
def rX(K:Frag):List V→Hp→VK→Prop:=λxs H Q=>∃p ys,xs=[.ref p]∧(cM K H p ys∨aZ K H p ys)∧Q (.int ys.length) H
abbrev pP(K:Frag)(x:Str):TT:=gs (bI lJ (bI (kH K) (aO 6) (tC (.int 0))) (tC (.str x)))
abbrev uN(K:Frag):TE:=iI K "list" Hl (aO 2) (aW (tC (.int 0)) bo)
abbrev xh(K:Frag)(te:TE):TS:=qR (iI K "list" i6 (aO 5) (aW te bo))
abbrev AR(te:TE):TE:=bI (rI (λ_ j=>0<j) λi j=>.int (i%j)) te (aO 0)
def L8(K:Frag):TS:=xh K (AR (e8 (aO 7) (uN K)))
def L9(K:Frag):TE:=bI n6 (aO 5) (g7 (aW (uN K) (aW (aO 7) bo)))
def Ma:TE:=bI n6 (aO 5) (g7 (aW (aO 7) (aW (aO 7) bo)))
def Mb(K:Frag):TS:=xh K (AR (bI (rI pY λi j=>.int (i*j)) (aO 7) (bI (kH K) (aO 6) (tC (.int 1)))))
def Mc(K:Frag):TS:=qR (iI K "list" i6 (aO 4) (aW (aO 7) bo))
def Md(K:Frag):TS:=xh K (bI (kH K) (aO 3) (bI (gB λi j=>.int (i-j)) (fE (rX K) (aW (aO 4) bo)) (tC (.int 1))))
def Me(K:Frag):TS:=xh K (aO 7)
def Mf(K:Frag):TS:=eU (pP K "add") (L8 K) (eU (pP K "swap") (cy (L9 K) (bq 5)) (eU (pP K "copy") (cy Ma (bq 5)) (eU (pP K "times") (Mb K) (eU (pP K "late") (bZ (Mc K) (Md K)) (eU (pP K "id") (Me K) gR)))))
def AS(K:Frag):TS:=bZ (eU (pP K "none") (bZ (xh K (tC (.int 0))) Gm) gR) (bZ (cy (uN K) (bq 7)) (Mf K))
def AU(K:Frag):TS:=bZ (cy (g7 bo) (bq 5)) (bZ (qT (mH K (aO 1)) (bq 6) (AS K)) (eA (aO 5)))
noncomputable abbrev WE:List Str:=["p","boxes","given","kept","fresh","found","box","number"]
theorem uO:c8 WE ["p","boxes","given","kept","fresh"] (bx Dv):=dJ rfl rfl rfl (by decide +kernel) rfl
noncomputable def fK(bs:List Bx):Nat:=(bs.map Bx.l).sum
noncomputable def c9(bs:List Bx):Nat:=(bs.map Bx.n).sum
theorem uP(bs:List Bx)(b:Bx):fK (bs++[b])=fK bs+b.l:=by unfold fK;rw[cW,List.sum_append];rfl
theorem AV(bs:List Bx)(b:Bx):c9 (bs++[b])=c9 bs+b.n:=by unfold c9;rw[cW,List.sum_append];rfl
theorem WG(bs:List Bx)(i:Nat):fK (bs.take i)≤fK bs∧c9 (bs.take i)≤c9 bs:=by
 have e1:fK bs=fK (bs.take i)+fK (bs.drop i):=by
  unfold fK;rw[← List.sum_append,← cW,List.take_append_drop]
 have e2:c9 bs=c9 (bs.take i)+c9 (bs.drop i):=by
  unfold c9;rw[← List.sum_append,← cW,List.take_append_drop]
 lia
noncomputable def gO(p:Int)(k g a:List Int)(bs:List Bx)(i:Nat):EU:=(bs.take i).foldl (rW p k) (g,a,[])
theorem Mh{k a:List Int}{bs:List Bx}(h:bs[i]?=some b):gO p k g a bs (i+1)=rW p k (gO p k g a bs i) b:=by
 unfold gO;rw[gq,h,List.foldl_append];rfl
theorem WH(b:Bx)(g k:List Int):(b.run p g k).1.length≤2:=by cases b<;>simp[Bx.run]
theorem Mi{p:Int}{k g a:List Int}{bs:List Bx}:∀i,i≤bs.length→(gO p k g a bs i).1=g.drop (fK (bs.take i))∧(gO p k g a bs i).2.1.length=a.length+c9 (bs.take i)∧(gO p k g a bs i).2.2.length≤2*i
 |0,_=>⟨rfl,rfl,ck _⟩
 |i+1,hi=>by
  obtain⟨h1,h2,h3⟩:=Mi (p:=p) (k:=k) (g:=g) (a:=a) (bs:=bs) i (by lia);have hb:bs[i]?=some bs[i]:=cE (by lia);have et:bs.take (i+1)=bs.take i++[bs[i]]:=by rw[gq,hb];rfl
  rw[Mh hb,et,uP,AV];unfold rW;refine⟨?_,?_,?_⟩
  ·show(gO p k g a bs i).1.drop _=_;rw[h1,List.drop_drop]
  ·show(_++_:List Int).length=_;rw[bQ,h2,xg];lia
  ·show(_++_:List Int).length≤_
   have:=WH (p:=p) bs[i] (gO p k g a bs i).1 (k.drop (gO p k g a bs i).2.1.length)
   rw[bQ];lia
noncomputable abbrev iF(ag af:Addr)(H:Hp):Hp:=del ag (del af H)
def AW(K:Frag):Sp:=λvs H Q _=>∃(p:Int)(ab ag ak af:Addr)(VS:List V)(bs:List Bx)(g k a:List Int),vs=[.int p,.ref ab,.ref ag,.ref ak,.ref af]∧2≤p∧p≤97∧H ab=some (.lst VS)∧cL H VS (bs.map Bx.bc)∧(∀b∈bs,b.wf p)∧
 H ag=some (.lst (g.map V.int))∧aZ K H ak (k.map V.int)∧H af=some (.lst (a.map V.int))∧ag≠af∧ab≠ag∧ab≠af∧bs.length≤50∧eE p g∧g.length≤100∧fK bs≤g.length∧a.length+c9 bs≤k.length∧k.length≤100∧
 ∀l H',aM (iF ag af H) H'→H l=none→H' af=some (.lst ((gO p k g a bs bs.length).2.1.map V.int))→H' l=some (.lst ((gO p k g a bs bs.length).2.2.map V.int))→Q (.ref l) H'
theorem aM.put{B:Hp}(h:aM B H')(hc:B c=none):aM B (upd H' c o):=λb x e=>by
 have:b≠c:=λz=>by rw[z,hc]at e;cases e
 rw[cn this];exact h b x e
theorem WI:iF ag af H ag=none:=ae rfl
theorem WJ:iF ag af H af=none:=by
 unfold iF del;split
 ·rfl
 ·exact ae rfl
theorem WK(h:H c=none):iF ag af H c=none:=by
 unfold iF del;split
 ·rfl
 ·split
  ·rfl
  ·exact h
theorem xi(h:H c=some o)(h1:c≠ag)(h2:c≠af):iF ag af H c=some o:=by
 unfold iF del;rw[ah h1,ah h2];exact h
theorem uQ{b:Addr}(h:H a=some (.lst xs))(k:H b=some o)(n:∀ys,o≠.lst ys):b≠a:=λz=>by
 rw[z,h]at k;exact n _ (dj k).symm
theorem WL{ys zs:List V}(h1:H ag=some (.lst xs))(h2:H af=some (.lst ys))(h:aZ K H c zs):aZ K (iF ag af H) c zs:=by
 rcases h with(h|⟨o,h⟩)|h
 ·exact .inl (.inl (xi h (uQ h1 h λ_ z=>nomatch z) (uQ h2 h λ_ z=>nomatch z)))
 ·exact .inl (.inr ⟨o,xi h (uQ h1 h λ_ z=>nomatch z) (uQ h2 h λ_ z=>nomatch z)⟩)
 ·exact .inr h
theorem fb{nm:Str}{t u:TS}(h6:σ[6]?=some (some (.ref c)))(hc:H c=some (.tup (.str nm::ws)))(n:nm≠x)(h:u D σ H):eU (pP K x) t u D σ H:=
 ⟨_,h6,c,_,0,.str nm,rfl,rfl,.of hc,cH (j:=0) rfl,rfl,_,rfl,kg n h⟩
theorem rY{t u:TS}(h6:σ[6]?=some (some (.ref c)))(hc:H c=some (.tup (.str x::ws)))(h:t D σ H):eU (pP K x) t u D σ H:=
 ⟨_,h6,c,_,0,.str x,rfl,rfl,.of hc,cH (j:=0) rfl,rfl,_,rfl,pG h⟩
theorem WM:("add":Str) ≠ "none"∧("swap":Str) ≠ "none"∧("copy":Str) ≠ "none"∧("times":Str) ≠ "none"∧("late":Str) ≠ "none"∧("id":Str) ≠ "none"∧("end":Str) ≠ "none" ∧
 ("swap":Str) ≠ "add"∧("copy":Str) ≠ "add"∧("times":Str) ≠ "add"∧("late":Str) ≠ "add"∧("id":Str) ≠ "add"∧("end":Str) ≠ "add" ∧
 ("copy":Str) ≠ "swap"∧("times":Str) ≠ "swap"∧("late":Str) ≠ "swap"∧("id":Str) ≠ "swap"∧("end":Str) ≠ "swap" ∧
 ("times":Str) ≠ "copy"∧("late":Str) ≠ "copy"∧("id":Str) ≠ "copy"∧("end":Str) ≠ "copy" ∧
 ("late":Str) ≠ "times"∧("id":Str) ≠ "times"∧("end":Str) ≠ "times"∧("id":Str) ≠ "late"∧("end":Str) ≠ "late"∧("end":Str) ≠ "id":=by decide +kernel
theorem pQ{x:Int}{G:List Int}{R:VK}(h2:σ[2]?=some (some (.ref ag)))(hG:H ag=some (.lst ((x::G).map V.int)))(q:R (.int x) (upd H ag (.lst (G.map V.int)))):uN K σ H R:=by
 refine⟨_,h2,.inl ⟨rfl,_,.of hG⟩,ag,_,0,0,.int x,rfl,rfl,hG,by decide,by decide,?_,rfl,q⟩;show seqIndex? 0 (G.map V.int).length.succ=some 0;unfold seqIndex?;simp
structure fq(B:Hp)(ag af lf:Addr)(G A F:List Int)(H:Hp):Prop where
 sm:aM B H
 g:H ag=some (.lst (G.map V.int))
 a:H af=some (.lst (A.map V.int))
 f:H lf=some (.lst (F.map V.int))
 bg:B ag=none
 ba:B af=none
 bf:B lf=none
 n1:ag≠af
 n2:lf≠ag
 n3:lf≠af
section
variable{B H:Hp}{ag af lf:Addr}{G A F:List Int}
theorem fq.setG(h:fq B ag af lf G A F H)(G':List Int):fq B ag af lf G' A F (upd H ag (.lst (G'.map V.int))):=⟨h.sm.put h.bg,aX,by rw[cn h.n1.symm];exact h.a,by rw[cn h.n2];exact h.f,h.bg,h.ba,h.bf,h.n1,h.n2,h.n3⟩
theorem fq.WN(h:fq B ag af lf G A F H)(A':List Int):fq B ag af lf G A' F (upd H af (.lst (A'.map V.int))):=⟨h.sm.put h.ba,by rw[cn h.n1];exact h.g,aX,by rw[cn h.n3];exact h.f,h.bg,h.ba,h.bf,h.n1,h.n2,h.n3⟩
theorem fq.xj(h:fq B ag af lf G A F H)(F':List Int):fq B ag af lf G A F' (upd H lf (.lst (F'.map V.int))):=⟨h.sm.put h.bf,by rw[cn h.n2.symm];exact h.g,by rw[cn h.n3.symm];exact h.a,aX,h.bg,h.ba,h.bf,h.n1,h.n2,h.n3⟩
theorem fq.new(h:fq B ag af lf G A F H)(hc:H c=none):fq B ag af lf G A F (upd H c o):=⟨h.sm.trans (.upd hc),aM.upd hc _ _ h.g,aM.upd hc _ _ h.a,aM.upd hc _ _ h.f,h.bg,h.ba,h.bf,h.n1,h.n2,h.n3⟩
theorem fq.vM(h:fq B ag af lf G A F H)(hc:H c=none)(F':List Int):fq B ag af c G A F' (upd H c (.lst (F'.map V.int))):=by
 have e:=h.new (o:=.lst (F'.map V.int)) hc;refine⟨e.sm,e.g,e.a,aX,h.bg,h.ba,?_,h.n1,λz=>?_,λz=>?_⟩
 ·cases hB:B c with
  |none=>rfl
  |some o=>have:=h.sm _ _ hB;rw[hc]at this;cases this
 ·rw[z,h.g]at hc;cases hc
 ·rw[z,h.a]at hc;cases hc
end
theorem uR(F:List Int)(y:Int):F.map V.int++[V.int y]=(F++[y]).map V.int:=by rw[cW];rfl
theorem Mj(F:List Int)(y z:Int):F.map V.int++[V.int y,V.int z]=(F++[y,z]).map V.int:=by rw[cW];rfl
theorem WO{ab lf:Addr}{G A F k:List Int}{B:Hp}(p2:2≤p)(cX:p≤97)(hb:b.wf p)(hc:B c=some (.tup b.bc))(h:fq B ag af lf G A F H)(hk:aZ K B ak (k.map V.int))
  (lG:b.l≤G.length) (iG:eE p G) (lk:A.length+b.n≤k.length) (lF:F.length≤200) (lA:A.length≤200)
  (q:∀rZ r6 H2,fq B ag af rZ (G.drop b.l) (A++(b.run p G (k.drop A.length)).2) (F++(b.run p G (k.drop A.length)).1) H2→
   D.nx [some (.int p),some (.ref ab),some (.ref ag),some (.ref ak),some (.ref af),some (.ref rZ),some (.ref c),r6] H2∧D.ct [some (.int p),some (.ref ab),some (.ref ag),some (.ref ak),some (.ref af),some (.ref rZ),some (.ref c),r6] H2) :
  AS K D [some (.int p),some (.ref ab),some (.ref ag),some (.ref ak),some (.ref af),some (.ref lf),some (.ref c),s7] H:=by
 obtain⟨m1,m2,m3,m4,m5,m6,m7,a1,a2,a3,a4,a5,a6,w1,w2,w3,w4,w5,y1,y2,y3,y4,t1,t2,t3,l1,l2,i1⟩:=WM;have z:(1000:Nat)≤sizeLine:=by decide
 have lz:∀{m:Nat},m≤999→m<sizeLine:=λhm=>by lia
 have xk:(F.map V.int).length≤999:=by rw[bz];lia
 have WQ:(A.map V.int).length≤999:=by rw[bz];lia
 have Mk:(F.map V.int).length+2≤sizeLine:=by rw[bz];lia
 unfold AS;cases b with
 |none=>
  refine rY (ws:=[]) rfl (h.sm _ _ hc) ⟨_,rfl,.inl ⟨rfl,_,.of h.f⟩,lf,_,.int 0,rfl,rfl,h.f,lz xk,?_⟩;rw[uR];refine(q lf s7 _ ?_).2;show fq B ag af lf G (A++[]) (F++[0]) _;rw[gY];exact h.xj _
 |add=>
  match G,lG,h,iG,q with
  |x::y::G',_,h,iG,q=>
   refine fb (ws:=[]) rfl (h.sm _ _ hc) m1 (pQ rfl h.g ?_);have h1:=h.setG (y::G');refine rY (ws:=[]) rfl (h1.sm _ _ hc) ?_;have h2:=h1.setG G';refine⟨_,rfl,.inl ⟨rfl,_,.of h1.f⟩,_,rfl,pQ rfl h1.g ⟨x,y,rfl,rfl,_,rfl,_,p,rfl,rfl,by lia,lf,_,.int ((x+y)%p),rfl,rfl,h2.f,lz xk,?_⟩⟩;rw[uR];refine(q lf _ _ ?_).1;show fq B ag af lf G' (A++[]) (F++[(x+y)%p]) _;rw[gY];exact h2.xj _
 |swap=>
  match G,lG,h,iG,q with
  |x::y::G',_,h,iG,q=>
   refine fb (ws:=[]) rfl (h.sm _ _ hc) m2 (pQ rfl h.g ?_);have h1:=h.setG (y::G');refine fb (ws:=[]) rfl (h1.sm _ _ hc) a1 (rY (ws:=[]) rfl (h1.sm _ _ hc) ?_);have h2:=h1.setG G';refine⟨_,rfl,pQ rfl h1.g ⟨_,rfl,by show 2≤sizeLine;lia,λt ht=>?_⟩⟩;have h3:=h2.new (o:=.lst [.int y,.int x]) ht;refine⟨lf,t,_,_,rfl,rfl,h3.f,aX,Mk,λu hu=>?_⟩;rw[Mj];refine(q u _ _ ?_).1;show fq B ag af u G' (A++[]) (F++[y,x]) _;rw[gY];exact h3.vM hu _
 |copy=>
  match G,lG,h,iG,q with
  |x::G',_,h,iG,q=>
   refine fb (ws:=[]) rfl (h.sm _ _ hc) m3 (pQ rfl h.g ?_);have h1:=h.setG G';refine fb (ws:=[]) rfl (h1.sm _ _ hc) a2 (fb (ws:=[]) rfl (h1.sm _ _ hc) w1 (rY (ws:=[]) rfl (h1.sm _ _ hc) ?_));refine⟨_,rfl,_,rfl,_,rfl,by show 2≤sizeLine;lia,λt ht=>?_⟩;have h3:=h1.new (o:=.lst [.int x,.int x]) ht;refine⟨lf,t,_,_,rfl,rfl,h3.f,aX,Mk,λu hu=>?_⟩;rw[Mj];refine(q u _ _ ?_).1;show fq B ag af u G' (A++[]) (F++[x,x]) _;rw[gY];exact h3.vM hu _
 |times n=>
  match G,lG,h,iG,q with
  |x::G',_,h,iG,q=>
   refine fb (ws:=[.int n]) rfl (h.sm _ _ hc) m4 (pQ rfl h.g ?_);have h1:=h.setG G';have hx:=iG x cZ;refine fb (ws:=[.int n]) rfl (h1.sm _ _ hc) a3 (fb (ws:=[.int n]) rfl (h1.sm _ _ hc) w2 (fb (ws:=[.int n]) rfl (h1.sm _ _ hc) y1 (rY (ws:=[.int n]) rfl (h1.sm _ _ hc) ?_)));refine⟨_,rfl,.inl ⟨rfl,_,.of h1.f⟩,_,rfl,_,rfl,c,_,1,.int n,rfl,rfl,.of (h1.sm _ _ hc),cH (j:=1) rfl,x,n,rfl,rfl,.inl ⟨by lia,by lia⟩,_,rfl,_,p,rfl,rfl,by lia,lf,_,.int (x*n%p),rfl,rfl,h1.f,lz xk,?_⟩;rw[uR];refine(q lf _ _ ?_).1;show fq B ag af lf G' (A++[]) (F++[x*n%p]) _;rw[gY];exact h1.xj _
 |dg=>
  match G,lG,h,iG,q with
  |x::G',_,h,iG,q=>
   have lk:A.length+1≤k.length:=lk;refine fb (ws:=[]) rfl (h.sm _ _ hc) m5 (pQ rfl h.g ?_);have h1:=h.setG G';refine fb (ws:=[]) rfl (h1.sm _ _ hc) a4 (fb (ws:=[]) rfl (h1.sm _ _ hc) w3 (fb (ws:=[]) rfl (h1.sm _ _ hc) y2 (fb (ws:=[]) rfl (h1.sm _ _ hc) t1 (rY (ws:=[]) rfl (h1.sm _ _ hc) ?_))));refine⟨_,rfl,.inl ⟨rfl,_,.of h1.a⟩,_,rfl,af,_,.int x,rfl,rfl,h1.a,lz WQ,?_⟩;rw[uR];have h2:=h1.WN (A++[x]);have ek:(k.map V.int)[A.length]?=some (.int (fn (k.drop A.length) 0)):=by
    rw[eI,cE (by lia),← pL];show some (V.int _)=some (V.int (fn k (A.length+0)));unfold fn;rw[Nat.add_zero,cF,cE (by lia)];rfl
   have el:(((A++[x]).map V.int).length:Int)-1=(A.length:Int):=by rw[bz,bQ];show((A.length+1:Nat):Int)-1=_;lia
   refine⟨_,rfl,.inl ⟨rfl,_,.of h2.f⟩,_,rfl,_,rfl,af,_,rfl,.inl (.of h2.a),_,1,rfl,rfl,ak,_,(A.length:Int),.int (fn (k.drop A.length) 0),rfl,ao V.int el,h2.sm.bE hk,cH ek,lf,_,_,rfl,rfl,h2.f,lz xk,?_⟩;rw[uR];refine(q lf _ _ ?_).1;exact h2.xj _
 |id=>
  match G,lG,h,iG,q with
  |x::G',_,h,iG,q=>
   refine fb (ws:=[]) rfl (h.sm _ _ hc) m6 (pQ rfl h.g ?_);have h1:=h.setG G';refine fb (ws:=[]) rfl (h1.sm _ _ hc) a5 (fb (ws:=[]) rfl (h1.sm _ _ hc) w4 (fb (ws:=[]) rfl (h1.sm _ _ hc) y3 (fb (ws:=[]) rfl (h1.sm _ _ hc) t2 (fb (ws:=[]) rfl (h1.sm _ _ hc) l1 (rY (ws:=[]) rfl (h1.sm _ _ hc) ?_)))));refine⟨_,rfl,.inl ⟨rfl,_,.of h1.f⟩,_,rfl,lf,_,.int x,rfl,rfl,h1.f,lz xk,?_⟩;rw[uR];refine(q lf _ _ ?_).1;show fq B ag af lf G' (A++[]) (F++[x]) _;rw[gY];exact h1.xj _
 |fin=>
  match G,lG,h,iG,q with
  |x::G',_,h,iG,q=>
   refine fb (ws:=[]) rfl (h.sm _ _ hc) m7 (pQ rfl h.g ?_);have h1:=h.setG G';refine fb (ws:=[]) rfl (h1.sm _ _ hc) a6 (fb (ws:=[]) rfl (h1.sm _ _ hc) w5 (fb (ws:=[]) rfl (h1.sm _ _ hc) y4 (fb (ws:=[]) rfl (h1.sm _ _ hc) t3 (fb (ws:=[]) rfl (h1.sm _ _ hc) l2 (fb (ws:=[]) rfl (h1.sm _ _ hc) i1 ?_)))));refine(q lf _ _ ?_).1;show fq B ag af lf G' (A++[]) (F++[]) _;rw[gY,gY];exact h1
theorem WR(h:iF ag af H c=none)(h1:c≠ag)(h2:c≠af):H c=none:=by
 unfold iF del at h;rw[ah h1,ah h2]at h;exact h
theorem WS{ab:Addr}{bs:List Bx}{k a:List Int}
  (h:2≤p∧p≤97∧H ab=some (.lst VS)∧cL H VS (bs.map Bx.bc)∧(∀b∈bs,b.wf p)∧
   H ag=some (.lst (g.map V.int))∧aZ K H ak (k.map V.int)∧H af=some (.lst (a.map V.int))∧ag≠af∧ab≠ag∧ab≠af∧bs.length≤50∧eE p g∧g.length≤100∧fK bs≤g.length∧a.length+c9 bs≤k.length∧k.length≤100∧
   ∀l H',aM (iF ag af H) H'→H l=none→H' af=some (.lst ((gO p k g a bs bs.length).2.1.map V.int))→H' l=some (.lst ((gO p k g a bs bs.length).2.2.map V.int))→D.rt (.ref l) H') :
  AU K D [some (.int p),some (.ref ab),some (.ref ag),some (.ref ak),some (.ref af),none,none,none] H:=by
 obtain⟨p2,cX,WT,hV,qu,r8,uS,AX,n1,n2,n3,lb,ig,lg,lsg,lnk,lk,q⟩:=h;have ln:VS.length=bs.length:=by rw[hV.1,bz]
 have Ml:iF ag af H ab=some (.lst VS):=xi WT n2 n3;have WU:=WL (K:=K) r8 AX uS;unfold AU;refine⟨by decide,λlf oy=>?_⟩;have sB:aM (iF ag af H) (upd H lf (.lst [])):=λb o e=>by
  have e1:=rH e;have e2:=rH e1.2;exact aM.upd oy _ _ e2.2
 have S0:fq (iF ag af H) ag af lf g a [] (upd H lf (.lst [])):=⟨sB,aM.upd oy _ _ r8,aM.upd oy _ _ AX,aX,WI,WJ,WK oy,n1,(λz=>by rw[z,r8]at oy;cases oy),(λz=>by rw[z,AX]at oy;cases oy)⟩;generalize upd H lf (.lst [])=H0 at S0 sB ⊢;refine⟨_,rfl,ab,rfl,⟨_,.of (sB _ _ Ml)⟩,x5 (xs:=VS) (λi σ H'=>∃lf s6 s7,σ=[some (.int p),some (.ref ab),some (.ref ag),some (.ref ak),some (.ref af),some (.ref lf),s6,s7]∧fq (iF ag af H) ag af lf (gO p k g a bs i).1 (gO p k g a bs i).2.1 (gO p k g a bs i).2.2 H') ⟨lf,none,none,rfl,S0⟩ (λi σ H' _ ⟨lf,s6,s7,_,S⟩=>.of (S.sm _ _ Ml)) ?_ ?_⟩
 ·rintro i x σ H' hx ⟨lf,s6,s7,rfl,S⟩;have hi:i<bs.length:=by rw[← ln];exact(gi.mp hx).1
  have hb:bs[i]?=some bs[i]:=cE hi;obtain⟨c,rfl,hc⟩:=hV.2 i _ (bs[i].bc) hx (by rw[eI,hb];rfl);have WV:iF ag af H c=some (.tup bs[i].bc):=xi hc (uQ r8 hc λ_ z=>nomatch z) (uQ AX hc λ_ z=>nomatch z);obtain⟨i1,i2,i3⟩:=Mi (p:=p) (k:=k) (g:=g) (a:=a) (bs:=bs) i (by lia);have et:bs.take (i+1)=bs.take i++[bs[i]]:=by rw[gq,hb];rfl
  have tk:=WG bs (i+1);rw[et,uP,AV]at tk;dsimp only[bq];refine WO p2 cX (qu _ (jh hi)) WV S WU ?_ ?_ ?_ ?_ ?_ λrZ r6 H2 S2=>?_
  ·rw[i1,eJ];lia
  ·rw[i1];exact uJ ig _
  ·rw[i2];lia
  ·lia
  ·rw[i2];lia
  ·have S3:fq (iF ag af H) ag af rZ (gO p k g a bs (i+1)).1 (gO p k g a bs (i+1)).2.1 (gO p k g a bs (i+1)).2.2 H2:=by
    rw[Mh hb];exact S2
   exact⟨⟨rZ,_,r6,rfl,S3⟩,⟨rZ,_,r6,rfl,S3⟩⟩
 ·rintro σ H' ⟨lf,s6,s7,rfl,S⟩;rw[ln]at S;exact⟨_,rfl,q lf H' S.sm (WR S.bf S.n2 S.n3) S.a S.f⟩
theorem WW(F:cC K "_law_boxes" "_law_boxes" Dv f fd)(T:Txt mg):bu P w K mg base br 1 f fd ["p","boxes","given","kept","fresh"] (AW K):=by
 refine F.ok uO (λvs H Q E h=>?_) (λbV A outer s H vs Q E hr h=>?_)
 ·obtain⟨p,ab,ag,ak,af,VS,bs,g,k,a,rfl,_⟩:=h;rfl
 ·obtain⟨p,ab,ag,ak,af,VS,bs,g,k,a,rfl,h⟩:=h;refine⟨AU K,?_,?_⟩
  ·unfold AU;refine bh ?_ ?_
   ·exact bY (i:=5) (te:=g7 bo) uO.nd rfl (.inl rfl) (gk aR)
   refine bh ?_ ?_
   ·refine jZ kr rfl (ja K rfl (pv 1)) (cq (i:=6) uO.nd rfl (.inl rfl)) ?_;unfold AS;refine bh ?_ ?_
    ·refine dX ?_ ?_ fg
     ·exact de gF (cf (cJ K rfl) (pv 6) aU (λ_ _=>rfl)) cP (da _)
     ·refine bh ?_ ?_
      ·exact ky (te:=iI K "list" i6 (aO 5) (aW (tC (.int 0)) bo)) (i5 ji mn mq kI (pv 5) (aL aU aR))
      ·exact bK Ou
    refine bh ?_ ?_
    ·exact bY (i:=7) (te:=uN K) uO.nd rfl (.inl rfl) (i5 ji BH BI yr (pv 2) (aL aU aR))
    refine bK ?_;unfold Mf;refine dX ?_ ?_ ?_
    ·exact de gF (cf (cJ K rfl) (pv 6) aU (λ_ _=>rfl)) cP (da _)
    ·refine bK ?_;unfold L8;exact ky (te:=iI K "list" i6 (aO 5) (aW (AR (e8 (aO 7) (uN K))) bo)) (i5 ji mn mq kI (pv 5) (aL (aY eW (aY fh (pv 7) (i5 ji BH BI yr (pv 2) (aL aU aR))) (pv 0)) aR))
    refine bK ?_;refine dX ?_ ?_ ?_
    ·exact de gF (cf (cJ K rfl) (pv 6) aU (λ_ _=>rfl)) cP (da _)
    ·refine bK ?_;exact bY (i:=5) (te:=L9 K) uO.nd rfl (.inl rfl) (aY n8 (pv 5) (gk (aL (i5 ji BH BI yr (pv 2) (aL aU aR)) (aL (pv 7) aR))))
    refine bK ?_;refine dX ?_ ?_ ?_
    ·exact de gF (cf (cJ K rfl) (pv 6) aU (λ_ _=>rfl)) cP (da _)
    ·refine bK ?_;exact bY (i:=5) (te:=Ma) uO.nd rfl (.inl rfl) (aY n8 (pv 5) (gk (aL (pv 7) (aL (pv 7) aR))))
    refine bK ?_;refine dX ?_ ?_ ?_
    ·exact de gF (cf (cJ K rfl) (pv 6) aU (λ_ _=>rfl)) cP (da _)
    ·refine bK ?_;unfold Mb;exact ky (te:=iI K "list" i6 (aO 5) (aW (AR (bI (rI pY λi j=>.int (i*j)) (aO 7) (bI (kH K) (aO 6) (tC (.int 1))))) bo)) (i5 ji mn mq kI (pv 5) (aL (aY eW (aY j5 (pv 7) (cf (cJ K rfl) (pv 6) aU (λ_ _=>rfl))) (pv 0)) aR))
    refine bK ?_;refine dX ?_ ?_ ?_
    ·exact de gF (cf (cJ K rfl) (pv 6) aU (λ_ _=>rfl)) cP (da _)
    ·refine bh ?_ ?_
     ·unfold Mc;exact ky (te:=iI K "list" i6 (aO 4) (aW (aO 7) bo)) (i5 ji mn mq kI (pv 4) (aL (pv 7) aR))
     refine bK ?_;unfold Md;exact ky (te:=iI K "list" i6 (aO 5) (aW (bI (kH K) (aO 3) (bI (gB λi j=>.int (i-j)) (fE (rX K) (aW (aO 4) bo)) (tC (.int 1)))) bo)) (i5 ji mn mq kI (pv 5) (aL (cf (cJ K rfl) (pv 3) (aY iZ (gm (jF K rfl) rfl T.len jG (aL (pv 4) aR)) aU) (λ_ _=>rfl)) aR))
    refine bK ?_;refine dX ?_ ?_ fg
    ·exact de gF (cf (cJ K rfl) (pv 6) aU (λ_ _=>rfl)) cP (da _)
    ·refine bK ?_;unfold Me;exact ky (te:=iI K "list" i6 (aO 5) (aW (aO 7) bo)) (i5 ji mn mq kI (pv 5) (aL (pv 7) aR))
   refine bK ?_;exact cQ (te:=aO 5) (pv 5)
  ·exact WS h
section
variable{p:Int}
theorem Mm:∀(bs:List Bx)(g k:List Int),(fZ p bs g k).2.length=(bN bs).aJ
 | [],g,k=>xg .id g k
 | [b],g,k=>xg b g k
 |b::c::bs,g,k=>by
  show(_++_:List Int).length=b.cm.aJ+(bN (c::bs)).aJ;rw[bQ,Mm (c::bs),xg]
theorem Mn(b:Bx)(g k:List Int){n:Nat}(h:b.n≤n):b.run p g (k.take n)=b.run p g k:=by
 rw[← EV b g (k.take n),List.take_take,vf h,EV]
theorem EW:∀(bs:List Bx)(g k:List Int),fZ p bs g (k.take (bN bs).aJ)=fZ p bs g k
 | [],g,k=>Mn .id g k (ck _)
 | [b],g,k=>Mn b g k (ck _)
 |b::c::bs,g,k=>by
  have ih:=EW (c::bs) (g.drop b.l) (k.drop b.n);have e1:(k.take (b.n+(bN (c::bs)).aJ)).take b.n=k.take b.n:=by rw[List.take_take,vf (by lia)]
  have e2:(k.take (b.n+(bN (c::bs)).aJ)).drop b.n=(k.drop b.n).take (bN (c::bs)).aJ:=by rw[List.drop_take,Nat.add_sub_cancel_left]
  show oE b.l b.n (b.run p) (fZ p (c::bs)) g (k.take (b.n+(bN (c::bs)).aJ))=oE b.l b.n (b.run p) (fZ p (c::bs)) g k;unfold oE;rw[e1,e2,ih]
noncomputable def layB(p:Int)(k:List Int)(s:List Int×List Int)(bs:List Bx):List Int×List Int:=((gO p k s.1 s.2 bs bs.length).2.2,(gO p k s.1 s.2 bs bs.length).2.1)
theorem EX{bs:List Bx}(h:bs≠[])(g k a:List Int):layB p k (g,a) bs=((fZ p bs g (k.drop a.length)).1,a++(fZ p bs g (k.drop a.length)).2):=by
 have e:=L7 (p:=p) bs g k a [] h;unfold layB gO;rw[kq,e];rfl
theorem Mo:∀(ls:List (List Bx))(g k a:List Int),ls≠[]→(∀bs∈ls,bs≠[])→ls.foldl (layB p k) (g,a)=((jf p ls g (k.drop a.length)).1,a++(jf p ls g (k.drop a.length)).2)
 | [],_,_,_,h,_=>absurd rfl h
 | [x],g,k,a,_,hx=>EX (hx x cZ) g k a
 |x::y::xs,g,k,a,_,hx=>by
  show(y::xs).foldl (layB p k) (layB p k (g,a) x)=_;rw[EX (hx x cZ),Mo (y::xs) _ k _ (by simp) λb hb=>hx b (fu _ hb)];show _=((qo (bN x).aJ (fZ p x) (jf p (y::xs)) g (k.drop a.length)).1,a++(qo (bN x).aJ (fZ p x) (jf p (y::xs)) g (k.drop a.length)).2);unfold qo;rw[EW,bQ,Mm,← List.drop_drop,dq]
theorem WX{bs:List Bx}{k:List Int}:fn (fZ p (.dg::bs) g k).1 0=fn k 0:=by
 cases bs with
 |nil=>rfl
 |cons b bs=>
  show fn ([fn (k.take (Bx.n .dg)) 0]++_) 0=_;have e:fn (k.take (Bx.n .dg)) 0=fn k 0:=je (by decide);rw[e];rfl
noncomputable def EY(ls:List (List Bx)):Nat:=(ls.map λbs=>(bN bs).aJ).sum
theorem WY(x:List Bx){ys:List (List Bx)}(h:ys≠[])(g k:List Int):jf p (x::ys) g k=qo (bN x).aJ (fZ p x) (jf p ys) g k∧(e9 (x::ys)).aJ=(bN x).aJ+(e9 ys).aJ:=by
 cases ys with
 |nil=>exact absurd rfl h
 |cons y ys=>exact⟨rfl,rfl⟩
theorem Mp:∀(xs:List (List Bx))(l:List Bx)(g k:List Int),(∃g',(jf p (xs++[l]) g k).1=(fZ p l g' (k.drop (EY xs))).1)∧(e9 (xs++[l])).aJ=EY xs+(bN l).aJ
 | [],l,g,k=>⟨⟨g,rfl⟩,(Nat.zero_add _).symm⟩
 |x::xs,l,g,k=>by
  have ne:xs++[l]≠[]:=by simp
  obtain⟨e1,e2⟩:=WY (p:=p) x ne g k;obtain⟨⟨g',ih⟩,il⟩:=Mp xs l (fZ p x g (k.take (bN x).aJ)).1 (k.drop (bN x).aJ);constructor
  ·refine⟨g',?_⟩;show(jf p (x::(xs++[l])) g k).1=_;rw[e1];show(jf p (xs++[l]) (fZ p x g (k.take (bN x).aJ)).1 (k.drop (bN x).aJ)).1=_;rw[ih,List.drop_drop];rfl
  ·show(e9 (x::(xs++[l]))).aJ=_;rw[e2,il];show _=(bN x).aJ+EY xs+(bN l).aJ;lia
theorem EZ:∀(k:List Int)(n:Nat)(z:Int),k.length=n+1→k.getLastD z=fn (k.drop n) 0
 | [],n,z,h=>by simp at h
 | [x],n,z,h=>by
  obtain rfl:n=0:=by simpa using h.symm
  rfl
 |x::y::k,n,z,h=>by
  obtain⟨m,rfl⟩:∃m,n=m+1:=⟨n-1,by simp at h;lia⟩;rw[List.getLastD_cons];exact EZ (y::k) m x (by simpa using h)
theorem WZ{xs:List (List Bx)}{n:Nat}{k:List Int}(hk:k.length=(e9 (xs++[Bx.dg::cg n])).aJ)(h1:(bN (Bx.dg::cg n)).aJ=1):fn (jf p (xs++[Bx.dg::cg n]) g k).1 0=k.getLastD 0:=by
 obtain⟨⟨g',e⟩,el⟩:=Mp (p:=p) xs (Bx.dg::cg n) g k;rw[e,WX];rw[el,h1]at hk;exact(EZ k _ 0 hk).symm
theorem W0:∀n,(bN (Bx.dg::cg n)).aJ=1∧(bN (Bx.dg::cg n)).dD=(n+1,n+1)
 |0=>⟨by decide +kernel,rfl⟩
 |n+1=>by
  obtain⟨e1,e2⟩:=l8 (n+1) (by lia);have l1:Bx.dg.cm.aJ=1:=by decide +kernel
  show Bx.dg.cm.aJ+(bN (cg (n+1))).aJ=1∧((1+(bN (cg (n+1))).dD.1,1+(bN (cg (n+1))).dD.2):Nat×Nat)=_;rw[e1,e2,l1];exact⟨rfl,by rw[show 1+(n+1)=n+1+1 by lia]⟩
end
noncomputable def Bx.dat(b:Bx):Dat:=match b with
 | .add=>.tuple [.str "add"]
 | .swap=>.tuple [.str "swap"]
 | .copy=>.tuple [.str "copy"]
 | .times n=>.tuple [.str "times",.int n]
 | .dg=>.tuple [.str "late"]
 | .id=>.tuple [.str "id"]
 | .none=>.tuple [.str "none"]
 | .fin=>.tuple [.str "end"]
theorem Bx.has(b:Bx)(h:H c=some (.tup b.bc)):fj K H (.ref c) b.dat:=by
 cases b with
 |times n=>exact .tuple (.of h) (.cons (.str _) (.cons (.int n) .nil))
 |_=>exact .tuple (.of h) (.cons (.str _) .nil)
theorem Bx.se(b:Bx):kqdOk 8 b.dat=true:=by
 cases b with
 |times n=>simp[Bx.dat,kqdOk];decide +kernel
 |_=>decide +kernel
open Classical in
theorem Bx.W2(b:Bx):decide (b.dat=.tuple [.str "late"])=decide (b.n=1):=by
 have W3:Bx.dg.n=1:=by decide +kernel
 have no:∀b:Bx,b.n=0→b.dat≠.tuple [.str "late"]→decide (b.dat=.tuple [.str "late"])=decide (b.n=1):=λb h1 h2=>by
  rw[aa h2,aa (by lia)]
 have nm:∀x:Str,x ≠ "late"→Dat.tuple [.str x]≠.tuple [.str "late"]:=λx hx e=>by
  injection e with e;injection e with e;injection e with e;exact hx e
 cases b with
 |dg=>rw[W3];rw[aE rfl,aE (show Bx.dat .dg=.tuple [.str "late"] from rfl)]
 |times n=>exact no (.times n) rfl (λe=>by injection e with e;injection e with _ e;cases e)
 |add=>exact no .add (by decide +kernel) (nm _ (by decide +kernel))
 |swap=>exact no .swap (by decide +kernel) (nm _ (by decide +kernel))
 |copy=>exact no .copy (by decide +kernel) (nm _ (by decide +kernel))
 |id=>exact no .id (by decide +kernel) (nm _ (by decide +kernel))
 |none=>exact no .none (by decide +kernel) (nm _ (by decide +kernel))
 |fin=>exact no .fin (by decide +kernel) (nm _ (by decide +kernel))
theorem Bx.E2(b:Bx):b.n=0∨b.n=1:=by
 cases b with
 |times n=>exact .inl rfl
 |_=>decide +kernel
def E3(K:Frag):TT:=gs (bI (vN K false) (aO 0) (eB (aW (tC (.str "late")) bo)))
open Classical in
theorem Mq{bs:List Bx}(hq:H1 a=some (.lst VS))(hV:cL H1 VS (bs.map Bx.bc))(hl:bs.length≤100)
  (done:∀H zs,aM H1 H→zs.length=c9 bs→∀q,H q=none→Q (.ref q) (upd H q (.lst zs))) :
  ∃W:Nat→Nat→St→Hp→List V→Prop,(∃m,W 0 m (List.replicate 1 none++[]) H1 [])∧jo (mE K a) (bq 0) (E3 K) (aO 0) Q W:=by
 have z:(1000:Nat)≤sizeLine:=by decide
 have ln:VS.length=bs.length:=by rw[hV.1,bz]
 have W4:∀i,c9 (bs.take i)≤i:=λi=>by
  induction i with
  |zero=>exact ck 0
  |succ i ih=>
   by_cases hi:i<bs.length
   ·have hb:bs[i]?=some bs[i]:=cE hi;rw[gq,hb];show c9 (bs.take i++[bs[i]])≤_;rw[AV]
    have:=bs[i].E2
    lia
   ·rw[nQ (by lia)];rw[nQ (by lia)]at ih;lia
 refine p8 (xs:=VS) (cp:=[]) (λi H' zs=>zs.length=c9 (bs.take i)) (.of hq) (by lia) rfl (λi H' zs h=>by rw[h];exact W4 i) ?_ ?_
 ·rintro i x H2 zs hx sm h;have hi:i<bs.length:=by rw[← ln];exact(gi.mp hx).1
  have hb:bs[i]?=some bs[i]:=cE hi;obtain⟨c,rfl,hc⟩:=hV.2 i _ (bs[i].bc) hx (by rw[eI,hb];rfl);have en:c9 (bs.take (i+1))=c9 (bs.take i)+bs[i].n:=by rw[gq,hb];exact AV _ _
  refine⟨_,rfl,by show 1≤sizeLine;lia,λt ht=>?_⟩;have s1:=aM.upd (o:=.tup [.str "late"]) ht;refine⟨bs[i].dat,.tuple [.str "late"],Bx.has _ ((sm.trans s1) _ _ hc),.tuple (.of aX) (.cons (.str _) .nil),Bx.se _,Bx.se .dg,_,rfl,?_⟩;rw[ah (by decide),Bx.W2];rcases bs[i].E2 with e|e
  ·rw[aa (by lia)];exact eP ⟨⟨[_],rfl,rfl⟩,sm.trans s1,by show zs.length=_;rw[h,en,e];rfl⟩
  ·rw[aE e];exact i7 ⟨_,rfl,⟨[_],rfl,rfl⟩,sm.trans s1,by show(zs++[_]).length=_;rw[bQ,h,en,e];rfl⟩
 ·rintro H2 zs sm h q W5;rw[ln,kq]at h;exact done H2 zs sm h q W5
def kj(H:Hp)(LS:List V)(ls:List (List Bx)):Prop:=LS.length=ls.length∧∀(i:Nat)(v:V)(bs:List Bx),LS[i]?=some v→ls[i]?=some bs→∃(c:Addr)(VS:List V),v=.ref c∧H c=some (.lst VS)∧cL H VS (bs.map Bx.bc)
theorem kj.mono{H H':Hp}{LS:List V}{ls:List (List Bx)}(h:kj H LS ls)(s:aM H H'):kj H' LS ls:=⟨h.1,λi v bs h1 h2=>let ⟨c,VS,e1,e2,e3⟩:=h.2 i v bs h1 h2;⟨c,VS,e1,s _ _ e2,e3.mono s⟩⟩
def iS(K:Frag)(H:Hp)(ac:Addr)(l r lp:Nat)(ls:List (List Bx)):Prop:=∃(al:Addr)(LS:List V),aZ K H ac [.int (l:Int),.int (r:Int),.int (lp:Int),.ref al]∧H al=some (.lst LS)∧kj H LS ls
theorem iS.mono{H H':Hp}{ac:Addr}{l r lp:Nat}{ls:List (List Bx)}(h:iS K H ac l r lp ls)(s:aM H H'):iS K H' ac l r lp ls:=let ⟨al,LS,h1,h2,h3⟩:=h;⟨al,LS,s.bE h1,s _ _ h2,h3.mono s⟩
noncomputable def cS(ls:List (List Bx)):Nat:=(ls.map c9).sum
def E4(K:Frag):TE:=fE (rX K) (aW (j9 (mH K (aO 0)) 1 [] (bq 0) (E3 K) (aO 0)) bo)
def xm(K:Frag):TE:=j9 (mH K (df K 0 3)) 1 [] (bq 0) i8 (E4 K)
theorem W6{l r:Nat}(h0:σ[0]?=some (some (.ref ac)))(h:iS K H ac l r lp ls)(hl:ls.length≤100)(hb:∀bs∈ls,bs.length≤100)
  (q:∀t H',aM H H'→H' t=some (.lst ((ls.map c9).map λn=>V.int (n:Nat)))→Q (.ref t) H'):xm K σ H Q:=by
 obtain⟨al,LS,h1,h2,h3⟩:=h;have z:(1000:Nat)≤sizeLine:=by decide
 have ln:=h3.1;unfold xm;refine⟨_,h0,ac,_,3,_,rfl,rfl,h1,cH (j:=3) rfl,al,rfl,⟨_,.of h2⟩,?_⟩;rw[show mV 1 [] σ=List.replicate 1 none++[] from rfl]
 refine p8 (xs:=LS) (cp:=[]) (λi H' zs=>zs=((ls.take i).map c9).map λn=>V.int (n:Nat)) (.of h2) (by lia) rfl (λi H' zs e=>by rw[e,bz,bz];exact ve _ _) ?_ ?_
 ·rintro i x H2 zs hx sm rfl;have hi:i<ls.length:=by rw[← ln];exact(gi.mp hx).1
  have xn:ls[i]?=some ls[i]:=cE hi;obtain⟨c,VS,rfl,hc,hV⟩:=h3.2 i _ _ hx xn;refine kN ?_;unfold E4 fE;refine⟨_,rfl,c,rfl,⟨_,.of (sm _ _ hc)⟩,?_⟩;refine Mq (K:=K) (sm _ _ hc) (hV.mono sm) (hb _ (jh hi)) λH3 ws s3 hw t ht=>?_;refine⟨t,ws,rfl,.inl (.of aX),⟨[_],rfl,rfl⟩,sm.trans (s3.trans (.upd ht)),?_⟩;show _++[V.int (ws.length:Nat)]=_;rw[hw,gq,xn];show _=((ls.take i++[ls[i]]).map c9).map _;rw[cW,cW];rfl
 ·rintro H2 zs sm rfl t ht;rw[ln,kq];exact q t _ (sm.trans (.upd ht)) aX
def Mr(K:Frag):List V→Hp→VK→Prop:=λxs H Q=>∃p ns,xs=[.ref p]∧cM K H p (List.map V.int ns)∧Q (.int ns.sum) H
theorem Ms:∀xs:List Nat,(xs.map λ(n:Nat)=>(n:Int)).sum=((xs.sum:Nat):Int)
 | []=>rfl
 |x::xs=>by rw[nO,List.sum_cons,List.sum_cons,Ms xs];lia
def xo(K:Frag):Sp:=λvs H Q _=>∃(ac:Addr)(l r lp:Nat)(ls:List (List Bx)),vs=[.ref ac]∧iS K H ac l r lp ls∧ls.length≤100∧(∀bs∈ls,bs.length≤100)∧∀H',aM H H'→Q (.int (cS ls:Nat)) H'
theorem W7:c8 ["case"] ["case"] (bx zy):=dJ rfl rfl rfl (by decide +kernel) rfl
theorem W8:(["boxes"]:List Str).Nodup:=by decide +kernel
theorem Mt:(["box"]:List Str).Nodup:=by decide +kernel
theorem Mu(F:cC K "_law_count" "_law_count" zy f fd)(T:Txt mg):bu P w K mg base br 1 f fd ["case"] (xo K):=by
 refine F.ok W7 (λvs H Q E h=>?_) (λbV A outer s H vs Q E hr h=>?_)
 ·obtain⟨ac,l,r,lp,ls,rfl,_⟩:=h;rfl
 ·obtain⟨ac,l,r,lp,ls,rfl,hC,hl,hb,q⟩:=h;refine⟨eA (fE (Mr K) (aW (xm K) bo)),?_,?_⟩
  ·refine bK ?_;refine cQ (te:=fE (Mr K) (aW (xm K) bo)) ?_;refine gm (Rm K rfl rfl) rfl T.sum Ro ?_;refine aL ?_ aR ?_
   ·unfold xm;refine i9 (N:=["boxes"]) (own:=1) (caps:=[]) rfl ?_ ?_ ?_ ?_ ?_
    ·exact ja K rfl (cf (cJ K rfl) (pv 0) aU (λ_ _=>rfl))
    ·exact(show du ["case"] (bx zy) ["boxes"] 1 [] _ from .mk' (by decide +kernel))
    ·exact λ_ _ _ _ _=>cq (i:=0) W8 rfl (.inl rfl)
    ·exact λ_ _ _ _ _=>gG
    ·intro _ _ _ _ _;unfold E4;refine gm (jF K rfl) rfl T.len jG ?_;refine aL ?_ aR ?_
     ·refine i9 (N:=["box"]) (own:=1) (caps:=[]) rfl ?_ ?_ ?_ ?_ ?_
      ·exact ja K rfl (pv 0)
      ·exact(du.mk' (by kernel_rfl))
      ·exact λ_ _ _ _ _=>cq (i:=0) Mt rfl (.inl rfl)
      ·exact λ_ _ _ _ _=>tH (de (yN K rfl hr.units) (pv 0) (cB (aL cP aR)) (da _))
      ·exact λ_ _ _ _ _=>pv 0
     ·rfl
   ·rfl
  ·refine W6 rfl hC hl hb λt H' s' ht=>⟨t,(ls.map c9).map λ(n:Nat)=>(n:Int),rfl,?_,?_⟩
   ·rw[List.map_map];exact .of ht
   ·rw[Ms];exact q H' s'
def Mv(K:Frag):List V→Hp→VK→Prop:=λxs H Q=>∃p ys,xs=[.ref p]∧(cM K H p ys∨aZ K H p ys)∧∀l,H l=none→Q (.ref l) (upd H l (.lst ys))
def AY(K:Frag):TE:=fE (rX K) (aW (j9 (mH K (bI (n5 K) (aO 7) (x6 (rU λi=>.int (-i)) (tC (.int 1))))) 1 [] (bq 0) (E3 K) (aO 0)) bo)
def E5(K:Frag):TE:=bI n6 (g7 (aW (bI (kH K) (aO 3) (bI (gB λi j=>.int (i-j)) (fE (rX K) (aW (aO 3) bo)) (aO 9))) bo)) (aO 8)
def AZ(K:Frag):TE:=fw (AW K) [] E0 (aW (aO 0) (aW (aO 11) (aW (aO 8) (aW (aO 3) (aW (aO 10) bo)))))
def uT(K:Frag):TE:=eB (aW (fE (uo K) (aW (gu (yp K) (aO 8) (fi (aO 6)) iq) bo)) (aW (fE (uo K) (aW (aO 10) bo)) bo))
def qP(K:Frag):TS:=bZ (cy (aO 1) (qS K 4 (iY (bq 4) (iY (bq 5) (iY (bq 6) (iY (bq 7) sW))))))
 (bZ (cy (fE (Mv K) (aW (aO 2) bo)) (bq 8)) (bZ (eU (gs (bI lJ (aO 6) (tC (.int 1)))) (bZ (cy (AY K) (bq 9)) (cy (E5 K) (bq 8))) gR) (bZ (cy (g7 bo) (bq 10)) (bZ (qT (mH K (aO 7)) (bq 11) (cy (AZ K) (bq 8))) (eA (uT K))))))
noncomputable abbrev A0:List Str:=["p","case","asked","kept","left","right","loop","layers","given","late","fresh","boxes"]
theorem nE:c8 A0 ["p","case","asked","kept"] (bx wd):=dJ rfl rfl rfl (by decide +kernel) rfl
theorem W9{sp:Sp}(F:cC K "_law_tick" "_law_tick" wd f fd)(T:Txt mg)
  (GB:bu P w K mg base br 1 fB jM ["p","boxes","given","kept","fresh"] (AW K)) (kB:Kp K fB) (bB:Binds K jM ["p","boxes","given","kept","fresh"] []) (mB:Mg mg "_law_boxes" fB)
  (len:∀vs H Q E,sp vs H Q E→vs.length=4) (rd:∀(D:Ends) vs H Q E,sp vs H Q E→D.rt=Q→qP K D (L2.start A0 vs) H) :
  bu P w K mg base br 2 f fd ["p","case","asked","kept"] sp:=by
 refine F.ok nE (λvs H Q E h=>len vs H Q E h) (λbV A outer s H vs Q E hr h=>?_);refine⟨qP K,?_,rd _ vs H Q E h rfl⟩;unfold qP;refine bh ?_ ?_
 ·exact sX (pv 1) (pj (n:=4) K rfl rfl (eV (cq (i:=4) nE.nd rfl (.inl rfl)) (eV (cq (i:=5) nE.nd rfl (.inl rfl)) (eV (cq (i:=6) nE.nd rfl (.inl rfl)) (eV (cq (i:=7) nE.nd rfl (.inl rfl)) oY)))))
 refine bh ?_ ?_
 ·exact bY (i:=8) (te:=fE (Mv K) (aW (aO 2) bo)) nE.nd rfl (.inl rfl) (j6 (CV K rfl) rfl T.list CW (aL (pv 2) aR))
 refine bh ?_ ?_
 ·refine dX ?_ ?_ fg
  ·exact de gF (pv 6) aU (da _)
  ·refine bh ?_ ?_
   ·refine bY (i:=9) (te:=AY K) nE.nd rfl (.inl rfl) ?_ ?_ ?_
    ·unfold AY;refine gm (jF K rfl) rfl T.len jG ?_;refine aL ?_ aR ?_
     ·refine i9 (N:=["box"]) (own:=1) (caps:=[]) rfl ?_ ?_ ?_ ?_ ?_
      ·exact ja K rfl (cf (e7 K rfl) (pv 7) (mI mJ aU) (λ_ _=>rfl))
      ·exact(show du A0 (bx wd) ["box"] 1 [] _ from .mk' (by decide +kernel))
      ·exact λ_ _ _ _ _=>cq (i:=0) Mt rfl (.inl rfl)
      ·exact λ_ _ _ _ _=>tH (de (yN K rfl hr.units) (pv 0) (cB (aL cP aR)) (da _))
      ·exact λ_ _ _ _ _=>pv 0
     ·rfl
    ·rfl
    ·exact .inl rfl
   ·refine bK ?_;exact bY (i:=8) (te:=E5 K) nE.nd rfl (.inl rfl) (aY n8 (gk (aL (cf (cJ K rfl) (pv 3) (aY iZ (gm (jF K rfl) rfl T.len jG (aL (pv 3) aR)) (pv 9)) (λ_ _=>rfl)) aR)) (pv 8))
 refine bh ?_ ?_
 ·exact bY (i:=10) (te:=g7 bo) nE.nd rfl (.inl rfl) (gk aR)
 refine bh ?_ ?_
 ·refine jZ kr rfl (ja K rfl (pv 7)) (cq (i:=11) nE.nd rfl (.inl rfl)) ?_;refine bK ?_;exact bY (i:=8) (te:=AZ K) nE.nd rfl (.inl rfl) (cT GB hr rfl mB kB bB .nil cU (aL (pv 0) (aL (pv 11) (aL (pv 8) (aL (pv 3) (aL (pv 10) aR))))))
 refine bK ?_;refine cQ (te:=uT K) ?_;unfold uT;refine cB ?_;refine aL ?_ ?_ ?_
 ·exact j6 (ph K rfl) rfl T.tuple mZ (aL (eN (CU K rfl) (pv 8) (dP (pv 6)) gn) aR)
 ·refine aL ?_ aR ?_
  ·exact j6 (ph K rfl) rfl T.tuple mZ (aL (pv 10) aR)
  ·rfl
 ·rfl
noncomputable def dF(p:Int)(k:List Int)(g0:List Int)(ls:List (List Bx))(i:Nat):List Int×List Int:=(ls.take i).foldl (layB p k) (g0,[])
theorem Xa{k:List Int}{bs:List Bx}(h:ls[i]?=some bs):dF p k g0 ls (i+1)=layB p k (dF p k g0 ls i) bs:=by
 unfold dF;rw[gq,h,List.foldl_append];rfl
def xp(p:Int)(k g0:List Int)(ls:List (List Bx)):Prop:=∀(i:Nat)(bs:List Bx),ls[i]?=some bs→eE p (dF p k g0 ls i).1∧(dF p k g0 ls i).1.length≤100∧fK bs≤(dF p k g0 ls i).1.length∧(dF p k g0 ls i).2.length+c9 bs≤k.length∧bs.length≤50∧∀b∈bs,b.wf p
theorem Xb{iO:Hp}(s:aM H H')(h1:H ag=none)(h2:H af=none)(s2:aM (iF ag af H') iO):aM H iO:=λb o e=>by
 have n1:b≠ag:=λz=>by rw[z,h1]at e;cases e
 have n2:b≠af:=λz=>by rw[z,h2]at e;cases e
 exact s2 b o (xi (s b o e) n1 n2)
theorem Xc{ask lg lf:Addr}{l r:Nat}{s9 jA:Option V}{k:List Int}(p2:2≤p)(cX:p≤97)(s1:aM H H1)(hl:H al=some (.lst LS))(uB:kj H LS ls)
  (hk:aZ K H ak (k.map V.int)) (kl:k.length≤100) (hg:H lg=none) (hf:H lf=none) (ne:lg≠lf) (gg:H1 lg=some (.lst (g0.map V.int))) (gf:H1 lf=some (.lst [])) (ok:xp p k g0 ls)
  (q:∀ag s9 jA H',aM H H'→H' ag=some (.lst ((dF p k g0 ls ls.length).1.map V.int))→H' lf=some (.lst ((dF p k g0 ls ls.length).2.map V.int))→D.nx [some (.int p),some (.ref ac),some (.ref ask),some (.ref ak),some (.int (l:Int)),some (.int (r:Int)),some (.int (lp:Int)),some (.ref al),some (.ref ag),s9,some (.ref lf),jA] H') :
  qT (mH K (aO 7)) (bq 11) (cy (AZ K) (bq 8)) D [some (.int p),some (.ref ac),some (.ref ask),some (.ref ak),some (.int (l:Int)),some (.int (r:Int)),some (.int (lp:Int)),some (.ref al),some (.ref lg),s9,some (.ref lf),jA] H1:=by
 have ln:=uB.1;refine⟨_,rfl,al,rfl,⟨_,.of (s1 _ _ hl)⟩,x5 (xs:=LS) (λi σ H'=>∃ag jA,σ=[some (.int p),some (.ref ac),some (.ref ask),some (.ref ak),some (.int (l:Int)),some (.int (r:Int)),some (.int (lp:Int)),some (.ref al),some (.ref ag),s9,some (.ref lf),jA]∧aM H H'∧H ag=none∧ag≠lf∧H' ag=some (.lst ((dF p k g0 ls i).1.map V.int))∧H' lf=some (.lst ((dF p k g0 ls i).2.map V.int))) ⟨lg,jA,rfl,s1,hg,ne,gg,gf⟩ (λi σ H' _ ⟨ag,jA,_,sm,_⟩=>.of (sm _ _ hl)) ?_ ?_⟩
 ·rintro i x σ H' hx ⟨ag,jA,rfl,sm,r8,Xd,ga,gf⟩;have hi:i<ls.length:=by rw[← ln];exact(gi.mp hx).1
  have hb:ls[i]?=some ls[i]:=cE hi;obtain⟨c,VS,rfl,hc,hV⟩:=uB.2 i _ _ hx hb;obtain⟨o1,o2,o3,o4,o5,o6⟩:=ok i _ hb;have c1:c≠ag:=λz=>by rw[z,r8]at hc;cases hc
  have c2:c≠lf:=λz=>by rw[z,hf]at hc;cases hc
  dsimp only[bq];refine⟨_,rfl,_,rfl,_,rfl,_,rfl,_,rfl,p,c,ag,ak,lf,VS,ls[i],(dF p k g0 ls i).1,k,(dF p k g0 ls i).2,rfl,p2,cX,sm _ _ hc,hV.mono sm,o6,ga,sm.bE hk,gf,Xd,c1,c2,o5,o1,o2,o3,o4,kl,λt H2 s2 ht h2 h3=>?_⟩;have st:=Xa (p:=p) (k:=k) (g0:=g0) hb;refine⟨t,_,rfl,Xb sm r8 hf s2,?_,?_,?_,?_⟩
  ·cases e:H t with
   |none=>rfl
   |some o=>have:=sm _ _ e;rw[ht]at this;cases this
  ·exact λz=>by rw[z,gf]at ht;cases ht
  ·rw[st];exact h3
  ·rw[st];exact h2
 ·rintro σ H' ⟨ag,jA,rfl,sm,_,_,ga,gf⟩;rw[ln]at ga gf;exact q ag s9 jA H' sm ga gf
noncomputable def fJ(lp:Nat)(x k:List Int):List Int:=if lp=1 then k.getLastD 0::x else x
def E6(K:Frag):Sp:=λvs H Q _=>∃(p:Int)(ac ask ak:Addr)(l r lp:Nat)(ls:List (List Bx))(x k:List Int),vs=[.int p,.ref ac,.ref ask,.ref ak]∧2≤p∧p≤97∧iS K H ac l r lp ls∧aZ K H ask (x.map V.int)∧aZ K H ak (k.map V.int)∧x.length≤99∧k.length≤100∧
 (lp=0∨(lp=1∧1≤k.length∧∃dC last,ls=dC++[last]∧c9 last=1∧last.length≤100))∧xp p k (fJ lp x k) ls∧lp≤(dF p k (fJ lp x k) ls ls.length).1.length∧(dF p k (fJ lp x k) ls ls.length).1.length≤100∧(dF p k (fJ lp x k) ls ls.length).2.length≤100∧
 ∀v t1 t2 H',aM H H'→aZ K H' v [.ref t1,.ref t2]→aZ K H' t1 (((dF p k (fJ lp x k) ls ls.length).1.drop lp).map V.int)→aZ K H' t2 ((dF p k (fJ lp x k) ls ls.length).2.map V.int)→Q (.ref v) H'
theorem Mw{ask lg:Addr}{l r:Nat}{s9:Option V}{k:List Int}(p2:2≤p)(cX:p≤97)(s1:aM H H1)(hl:H al=some (.lst LS))(uB:kj H LS ls)
  (hk:aZ K H ak (k.map V.int)) (kl:k.length≤100) (hg:H lg=none) (gg:H1 lg=some (.lst (g0.map V.int))) (ok:xp p k g0 ls) (e1:lp≤(dF p k g0 ls ls.length).1.length)
  (q:∀v t1 t2 H',aM H H'→aZ K H' v [.ref t1,.ref t2]→aZ K H' t1 (((dF p k g0 ls ls.length).1.drop lp).map V.int)→aZ K H' t2 ((dF p k g0 ls ls.length).2.map V.int)→D.rt (.ref v) H') :
  bZ (cy (g7 bo) (bq 10)) (bZ (qT (mH K (aO 7)) (bq 11) (cy (AZ K) (bq 8))) (eA (uT K))) D [some (.int p),some (.ref ac),some (.ref ask),some (.ref ak),some (.int (l:Int)),some (.int (r:Int)),some (.int (lp:Int)),some (.ref al),some (.ref lg),s9,none,none] H1:=by
 refine⟨by decide,λlf hf=>?_⟩;have Xe:H lf=none:=by
  cases e:H lf with
  |none=>rfl
  |some o=>have:=s1 _ _ e;rw[hf]at this;cases this
 refine Xc (H:=H) (ac:=ac) (ask:=ask) (l:=l) (r:=r) (lp:=lp) (s9:=s9) (jA:=none) p2 cX (s1.trans (.upd hf)) hl uB hk kl hg Xe (λz=>by rw[← z,gg]at hf;cases hf) (aM.upd hf _ _ gg) aX ok λag s9 jA H' sm ga gf=>?_;show uT K _ _ _;unfold uT fE;refine⟨_,rfl,_,rfl,(lp:Int),rfl,ag,_,rfl,.of ga,λu hu=>⟨u,_,rfl,.inl ⟨.of aX,λt1 oq=>?_⟩⟩⟩;rw[oo e1]at oq ⊢;have sa:=(aM.upd (o:=.lst (((dF p k g0 ls ls.length).1.drop lp).map V.int)) hu);have sb:=aM.upd (o:=.tup (((dF p k g0 ls ls.length).1.drop lp).map V.int)) oq;refine⟨_,rfl,lf,_,rfl,.inl ⟨.of ((sa.trans sb) _ _ gf),λt2 fI=>⟨by show 2≤sizeLine;decide,λv hv=>?_⟩⟩⟩;have sc:=aM.upd (o:=.tup ((dF p k g0 ls ls.length).2.map V.int)) fI;have sd:=aM.upd (o:=.tup [.ref t1,.ref t2]) hv;exact q v t1 t2 _ (sm.trans (sa.trans (sb.trans (sc.trans sd)))) (.of aX) (.of ((sc.trans sd) _ _ aX)) (.of (sd _ _ aX))
theorem Xf(h:E6 K vs H Q E)(hD:D.rt=Q):qP K D (L2.start A0 vs) H:=by
 obtain⟨p,ac,ask,ak,l,r,lp,ls,x,k,rfl,p2,cX,⟨al,LS,h1,h2,h3⟩,Xg,uS,xl,kl,Ba,ok,e1,e2,e3,q⟩:=h;rw[← hD]at q;have z:(1000:Nat)≤sizeLine:=by decide
 show qP K D [some (.int p),some (.ref ac),some (.ref ask),some (.ref ak),none,none,none,none,none,none,none,none] H;unfold qP;refine⟨_,rfl,ac,_,rfl,h1,rfl,_,_,rfl,_,_,rfl,_,_,rfl,_,_,rfl,rfl,?_⟩;refine⟨_,rfl,ask,_,rfl,.inr Xg,λlg Mx=>?_⟩;have s1:=aM.upd (o:=.lst (x.map V.int)) Mx;refine⟨_,rfl,rfl,_,rfl,?_⟩;rcases Ba with rfl|⟨rfl,k1,dC,last,rfl,hn,oC⟩
 ·rw[aa (by decide)];refine eP ?_;exact Mw (ac:=ac) (ask:=ask) (l:=l) (r:=r) (lp:=0) (s9:=none) (g0:=fJ 0 x k) p2 cX s1 h2 h3 uS kl Mx aX ok e1 q
 ·refine pG ?_;have pV:LS≠[]:=λe=>by have:=h3.1;rw[e,bQ]at this;simp at this
  obtain⟨jQ,v,rfl⟩:∃jQ v,LS=jQ++[v]:=⟨LS.dropLast,LS.getLast pV,(vh pV).symm⟩;have ll:jQ.length=dC.length:=by have:=h3.1;simpa using this
  obtain⟨c,VS,rfl,hc,hV⟩:=h3.2 jQ.length v last (by simp) (by rw[ll];simp);unfold AY fE;refine⟨_,rfl,_,rfl,al,_,-1,.ref c,rfl,rfl,.of (s1 _ _ h2),yn _ _,c,rfl,⟨_,.of (s1 _ _ hc)⟩,?_⟩;refine Mq (K:=K) (s1 _ _ hc) (hV.mono s1) oC λH3 ws s3 hw t ht=>?_;refine⟨t,ws,rfl,.inl (.of aX),?_⟩;rw[hw,hn];have s4:=aM.upd (o:=.lst ws) ht;have sA:=s1.trans (s3.trans s4);have gl:upd H3 t (.lst ws) lg=some (.lst (x.map V.int)):=(s3.trans s4) _ _ aX;generalize upd H3 t (.lst ws)=H4 at s4 sA gl ⊢;have ek:(k.map V.int)[k.length-1]?=some (.int (k.getLastD 0)):=by
   rw[EZ k (k.length-1) 0 (by lia),eI,cE (by lia),← pL];show some (V.int _)=some (V.int (fn k (k.length-1+0)));unfold fn;rw[Nat.add_zero,cF,cE (by lia)];rfl
  unfold E5;refine⟨_,rfl,_,rfl,ak,_,rfl,.inr (sA.bE uS),_,rfl,_,1,rfl,rfl,ak,_,((k.length-1:Nat):Int),.int (k.getLastD 0),rfl,ao V.int ?_,sA.bE uS,cH ek,by show 1≤sizeLine;decide,λt2 fI=>?_⟩
  ·rw[bz];lia
  have s5:=aM.upd (o:=.lst [.int (k.getLastD 0)]) fI;refine⟨_,rfl,t2,lg,_,_,rfl,rfl,aX,s5 _ _ gl,by rw[bz];show 1+_≤sizeLine;lia,λt3 ud=>?_⟩;have s6:=aM.upd (o:=.lst ([V.int (k.getLastD 0)]++x.map V.int)) ud;have sB:=sA.trans (s5.trans s6);have Xh:H t3=none:=by
   cases e:H t3 with
   |none=>rfl
   |some o=>have:=(sA.trans s5) _ _ e;rw[ud]at this;cases this
  exact Mw (ac:=ac) (ask:=ask) (l:=l) (r:=r) (lp:=1) (g0:=fJ 1 x k) p2 cX sB h2 h3 uS kl Xh aX ok e1 q
theorem Xi(F:cC K "_law_tick" "_law_tick" wd f fd)(T:Txt mg)
  (GB:bu P w K mg base br 1 fB jM ["p","boxes","given","kept","fresh"] (AW K)) (kB:Kp K fB) (bB:Binds K jM ["p","boxes","given","kept","fresh"] []) (mB:Mg mg "_law_boxes" fB) :
  bu P w K mg base br 2 f fd ["p","case","asked","kept"] (E6 K):=
 W9 F T GB kB bB mB (λvs H Q E h=>by obtain⟨p,ac,ask,ak,l,r,lp,ls,x,k,rfl,_⟩:=h;rfl) λD vs H Q E h hD=>Xf h hD
def uU(K:Frag)(H:Hp)(v:V)(x k y a:List Int):Prop:=∃t t1 t2 t3 t4:Addr,v=.ref t∧aZ K H t [.ref t1,.ref t2,.ref t3,.ref t4]∧aZ K H t1 (x.map V.int)∧aZ K H t2 (k.map V.int)∧aZ K H t3 (y.map V.int)∧aZ K H t4 (a.map V.int)
theorem uU.tup{x k y a:List Int}(h:uU K H v x k y a)(s:eC H H'):uU K H' v x k y a:=let ⟨t,t1,t2,t3,t4,e,h0,h1,h2,h3,h4⟩:=h;⟨t,t1,t2,t3,t4,e,s.bE h0,s.bE h1,s.bE h2,s.bE h3,s.bE h4⟩
noncomputable def yT(p:Int)(lp:Nat)(ls:List (List Bx))(x k:List Int):List Int:=(dF p k (fJ lp x k) ls ls.length).1.drop lp
noncomputable def aT(p:Int)(lp:Nat)(ls:List (List Bx))(x k:List Int):List Int:=(dF p k (fJ lp x k) ls ls.length).2
def oK(K:Frag)(H:Hp)(RS:List V)(p:Int)(l w lp:Nat)(ls:List (List Bx))(n:Nat):Prop:=RS.length=n∧∀(i:Nat)(v:V),RS[i]?=some v→uU K H v (dk l w i) (cY l w i) (yT p lp ls (dk l w i) (cY l w i)) (aT p lp ls (dk l w i) (cY l w i))
theorem oK.tup{H H':Hp}{RS:List V}{p:Int}{l w lp n:Nat}{ls:List (List Bx)}(h:oK K H RS p l w lp ls n)(s:eC H H'):oK K H' RS p l w lp ls n:=⟨h.1,λi v hv=>(h.2 i v hv).tup s⟩
theorem oK.snoc{RS:List V}{l w n:Nat}(h:oK K H RS p l w lp ls n)(hv:uU K H v (dk l w n) (cY l w n) (yT p lp ls (dk l w n) (cY l w n)) (aT p lp ls (dk l w n) (cY l w n))):oK K H (RS++[v]) p l w lp ls (n+1):=by
 refine⟨by rw[bQ,h.1];rfl,λi u hu=>?_⟩;by_cases hi:i<RS.length
 ·rw[gz hi]at hu;exact h.2 i u hu
 ·rw[gZ (by lia)]at hu;have e:i-RS.length=0:=by
   cases hj:i-RS.length with
   |zero=>rfl
   |succ j=>rw[hj]at hu;cases hu
  rw[e]at hu;cases hu;obtain rfl:i=n:=by have:=h.1;lia
  exact hv
noncomputable abbrev Xj:List Str:=["p","case","left","right","loop","layers","late","rows","k","row","answer","after"]
theorem nF:c8 Xj ["p","case"] (bx Dx):=dJ rfl rfl rfl (by decide +kernel) rfl
def Bb(K:Frag):Sp:=λvs H Q _=>∃(p:Int)(ac:Addr)(l r lp:Nat)(ls:List (List Bx)),vs=[.int p,.ref ac]∧2≤p∧p≤97∧iS K H ac l r lp ls∧ls.length≤100∧(∀bs∈ls,bs.length≤100)∧l+cS ls≤90∧
 (∀i,i<l+cS ls→(lp=0∨(lp=1∧1≤cS ls∧∃dC last,ls=dC++[last]∧c9 last=1∧last.length≤100))∧xp p (cY l (cS ls) i) (fJ lp (dk l (cS ls) i) (cY l (cS ls) i)) ls∧
  lp≤(dF p (cY l (cS ls) i) (fJ lp (dk l (cS ls) i) (cY l (cS ls) i)) ls ls.length).1.length∧(dF p (cY l (cS ls) i) (fJ lp (dk l (cS ls) i) (cY l (cS ls) i)) ls ls.length).1.length≤100∧(dF p (cY l (cS ls) i) (fJ lp (dk l (cS ls) i) (cY l (cS ls) i)) ls ls.length).2.length≤100)∧
 ∀t RS H',aM H H'→H' t=some (.lst RS)→oK K H' RS p l (cS ls) lp ls (l+cS ls)→Q (.ref t) H'
theorem Xk(n i:Nat):Ap n i=dE n i:=by unfold Ap dE;rw[dq]
theorem Xl(F:cC K "_law_units" "_law_units" Dx f fd)(T:Txt mg)
  (GC:bu P w K mg base br 1 fC lj ["case"] (xo K)) (kC:Kp K fC) (bC:Binds K lj ["case"] []) (mC:Mg mg "_law_count" fC)
  (GU:bu P w K mg base br 1 fU uL ["length","at"] (KQ K)) (kU:Kp K fU) (bU:Binds K uL ["length","at"] []) (mU:Mg mg "_law_unit" fU)
  (GT:bu P w K mg base br 2 fT jv ["p","case","asked","kept"] (E6 K)) (kT:Kp K fT) (bT:Binds K jv ["p","case","asked","kept"] []) (mT:Mg mg "_law_tick" fT):bu P w K mg base br 3 f fd ["p","case"] (Bb K):=by
 refine F.ok nF (λvs H Q E h=>by obtain⟨p,ac,l,r,lp,ls,rfl,_⟩:=h;rfl) (λbV A outer s H vs Q E hr h=>?_);obtain⟨p,ac,l,r,lp,ls,rfl,p2,cX,hC,hl,hb,ln,hT,q⟩:=h;have iN:dt 1 _:=hr.mono (by decide);refine⟨_,bh (sX (pv 1) (pj (n:=4) K rfl rfl (eV (cq (i:=2) nF.nd rfl (.inl rfl)) (eV (cq (i:=3) nF.nd rfl (.inl rfl)) (eV (cq (i:=4) nF.nd rfl (.inl rfl)) (eV (cq (i:=5) nF.nd rfl (.inl rfl)) oY)))))) (bh (bY (i:=6) nF.nd rfl (.inl rfl) (cT GC iN rfl mC kC bC .nil cU (aL (pv 1) aR))) (bh (bY (i:=7) nF.nd rfl (.inl rfl) (gk aR)) (bh (jZ kr rfl (nX rfl T.range (aL (aY fh (pv 2) (pv 6)) aR)) (cq (i:=8) nF.nd rfl (.inl rfl)) (bh (bY (i:=9) nF.nd rfl (.inl rfl) (cT GU iN rfl mU kU bU .nil cU (aL (aY fh (pv 2) (pv 6)) (aL (pv 8) aR)))) (bh (sX (cT GT hr rfl mT kT bT .nil cU (aL (pv 0) (aL (pv 1) (aL (eN (fN K rfl) (pv 9) gn (dP (pv 2))) (aL (eN (fN K rfl) (pv 9) (dP (pv 2)) gn) aR))))) (pj (n:=2) K rfl rfl (eV (cq (i:=10) nF.nd rfl (.inl rfl)) (eV (cq (i:=11) nF.nd rfl (.inl rfl)) oY)))) (bK (ky (i5 ji mn mq kI (pv 7) (aL (cB (aL (eN (fN K rfl) (pv 9) gn (dP (pv 2))) (aL (eN (fN K rfl) (pv 9) (dP (pv 2)) gn) (aL (pv 10) (aL (pv 11) aR))))) aR))))))) (bK (cQ (pv 7)))))),?_⟩;have My:=hC;obtain⟨al,LS,h1,h2,h3⟩:=hC;refine⟨_,rfl,ac,_,rfl,h1,rfl,_,_,rfl,_,_,rfl,_,_,rfl,_,_,rfl,rfl,?_⟩;refine⟨_,rfl,ac,l,r,lp,ls,rfl,My,hl,hb,λH1 s1=>?_⟩;generalize hw:cS ls=w' at ln hT q ⊢;refine⟨by decide,λlr rE=>?_⟩;have Xm:H lr=none:=t8 s1 rE;refine⟨_,rfl,_,rfl,(l:Int),(w':Int),rfl,rfl,((l+w':Nat):Int),ao (λz=>[V.int z]) (by lia),by lia,by lia,qU (n:=l+w') (λi σ H'=>∃s8 s9 tJ jA RS,σ=[some (.int p),some (.ref ac),some (.int (l:Int)),some (.int (r:Int)),some (.int (lp:Int)),some (.ref al),some (.int (w':Int)),some (.ref lr),s8,s9,tJ,jA]∧aM H H'∧H' lr=some (.lst RS)∧oK K H' RS p l w' lp ls i) ⟨none,none,none,none,[],rfl,s1.trans (.upd rE),aX,rfl,λi v hv=>by cases hv⟩ ?_ ?_⟩
 ·rintro i σ H2 hi ⟨s8,s9,tJ,jA,RS,rfl,sm,gr,hR⟩;rw[oQ];obtain⟨c1,c2,c3,c4,c5⟩:=hT i hi;obtain⟨x1,x2⟩:=pM hi;have z:(1000:Nat)≤sizeLine:=by decide
  have ul:(dE (l+w') i).length=l+w':=(ux (p:=2) (by decide) hi).1;dsimp only[bq];refine⟨_,rfl,_,rfl,(l:Int),(w':Int),rfl,rfl,_,rfl,l+w',i,_,_,rfl,by lia,rfl,hi,by lia,λtr H3 s3 xq=>?_⟩;rw[Xk]at xq;refine⟨_,rfl,_,rfl,_,rfl,_,rfl,(l:Int),rfl,tr,_,rfl,xq,λt1 H4 s4 oq=>?_⟩;rw[pF (by lia)]at oq;refine⟨_,rfl,_,rfl,(l:Int),rfl,tr,_,rfl,s4.bE xq,λt2 H5 s5 fI=>?_⟩;rw[oo (by lia)]at fI;have sA:=sm.trans (s3.trans (s4.trans s5));refine⟨p,ac,t1,t2,l,r,lp,ls,dk l w' i,cY l w' i,rfl,p2,cX,My.mono sA,s5.bE oq,fI,by lia,by lia,?_,c2,c3,c4,c5,λv t3 t4 H6 s6 hv um Mz=>?_⟩
  ·rw[x2];exact c1
  refine⟨v,_,rfl,hv,rfl,_,_,rfl,_,_,rfl,rfl,?_⟩;have sB:=s3.trans (s4.trans (s5.trans s6));refine⟨_,rfl,.inl ⟨rfl,_,.of (sB _ _ gr)⟩,_,rfl,_,rfl,(l:Int),rfl,tr,_,rfl,(s4.trans (s5.trans s6)).bE xq,λu1 H7 s7 rG=>?_⟩;rw[pF (by lia)]at rG;refine⟨_,rfl,_,rfl,(l:Int),rfl,tr,_,rfl,(s4.trans (s5.trans (s6.trans s7))).bE xq,λu2 H8 Bc wM=>?_⟩;rw[oo (by lia)]at wM;refine⟨_,rfl,_,rfl,by show 4≤sizeLine;decide,λt ht=>?_⟩;have xr:=aM.upd (o:=.tup [.ref u1,.ref u2,.ref t3,.ref t4]) ht;have sC:=sB.trans (s7.trans (Bc.trans xr));have MA:=sC _ _ gr;refine⟨lr,RS,.ref t,rfl,rfl,MA,by have:=hR.1;lia,?_⟩;have tp:∀{Hx:Hp},Hx lr=some (.lst RS)→eC Hx (upd Hx lr (.lst (RS++[.ref t]))):=λ{Hx} e b o h1 h2=>by
   have:b≠lr:=λz=>by rw[z,e]at h1;rcases h2 with⟨xs,h2⟩|⟨ob,u,h2⟩<;>(rw[h2]at h1;cases h1)
   rw[cn this];exact h1
  have iQ:uU K (upd H8 t (.tup [.ref u1,.ref u2,.ref t3,.ref t4])) (.ref t) (dk l w' i) (cY l w' i) (yT p lp ls (dk l w' i) (cY l w' i)) (aT p lp ls (dk l w' i) (cY l w' i)):=
   ⟨t,u1,u2,t3,t4,rfl,.of aX,(Bc.trans xr).bE rG,xr.bE wM,(s7.trans (Bc.trans xr)).bE um,(s7.trans (Bc.trans xr)).bE Mz⟩
  exact⟨_,_,_,_,RS++[.ref t],rfl,(sm.trans sC).put Xm,aX,((hR.tup sC.tup).snoc iQ).tup (tp MA)⟩
 ·rintro σ H2 ⟨s8,s9,tJ,jA,RS,rfl,sm,gr,hR⟩;exact⟨_,rfl,q lr RS H2 sm gr hR⟩
section
variable{p:Int}
noncomputable def km(bs:List Bx):Nat:=(bs.map Bx.r).sum
theorem sg:∀bs:List Bx,bs≠[]→(bN bs).dD=(fK bs,km bs)∧(bN bs).aJ=c9 bs
 | [],h=>absurd rfl h
 | [b],_=>⟨rfl,rfl⟩
 |b::c::bs,_=>by
  obtain⟨e1,e2⟩:=sg (c::bs) (by simp);show((b.l+(bN (c::bs)).dD.1,b.r+(bN (c::bs)).dD.2):Nat×Nat)=_∧b.n+(bN (c::bs)).aJ=_;rw[e1,e2];exact⟨rfl,rfl⟩
theorem MB:∀ls:List (List Bx),ls≠[]→(∀bs∈ls,bs≠[])→(e9 ls).aJ=(ls.map c9).sum
 | [],h,_=>absurd rfl h
 | [x],_,hx=>(sg x (hx x cZ)).2
 |x::y::xs,_,hx=>by
  show(bN x).aJ+(e9 (y::xs)).aJ=_;rw[(sg x (hx x cZ)).2,MB (y::xs) (by simp) λb hb=>hx b (fu _ hb)];rfl
theorem xt(b:Bx):b.cm.sm:=by cases b<;>exact True.intro
theorem xu:∀bs:List Bx,fK bs≤100→km bs≤100→(bN bs).sm
 | [],_,_=>xt .id
 | [b],_,_=>xt b
 |b::c::bs,h1,h2=>by
  have h1:b.l+fK (c::bs)≤100:=h1;have h2:b.r+km (c::bs)≤100:=h2;obtain⟨e1,_⟩:=sg (c::bs) (by simp);refine⟨xt b,xu (c::bs) (by lia) (by lia),?_,?_⟩
  ·show b.l+(bN (c::bs)).dD.1≤100;rw[e1];exact h1
  ·show b.r+(bN (c::bs)).dD.2≤100;rw[e1];exact h2
theorem MC:∀ls:List (List Bx),(∀bs∈ls,fK bs≤100∧km bs≤100)→(e9 ls).sm
 | [],_=>xt .id
 | [x],h=>xu x (h x cZ).1 (h x cZ).2
 |x::y::xs,h=>⟨xu x (h x cZ).1 (h x cZ).2,MC (y::xs) λb hb=>h b (fu _ hb)⟩
theorem Bd:∀n,fK (cg n)=n∧km (cg n)=n
 |0=>⟨rfl,rfl⟩
 |n+1=>by
  obtain⟨e1,e2⟩:=Bd n;show 1+fK (cg n)=n+1∧1+km (cg n)=n+1;lia
theorem Xn{l r:Nat}{W:Drw}(h:W.sm)(hl:1≤l)(hr:1≤r)(l9:l≤90)(r9:r≤90)(wl:W.aK≤90)(wr:W.aN≤90):(qr l r W).sm:=by
 obtain⟨a1,a2⟩:=Bd l;obtain⟨b1,b2⟩:=Bd r;have sl:=(l8 l hl).1;have sr:=(l8 r hr).1;refine⟨⟨True.intro,xu _ (by lia) (by lia),?_,?_⟩,⟨xt .id,h,?_,?_⟩,⟨True.intro,xu _ (by lia) (by lia),?_,?_⟩⟩
 ·show 0+(bN (cg l)).dD.1≤100;rw[sl];show 0+l≤100;lia
 ·show 2+(bN (cg l)).dD.2≤100;rw[sl];show 2+l≤100;lia
 ·show 1+W.aK≤100;lia
 ·show 1+W.aN≤100;lia
 ·show 2+(bN (cg r)).dD.1≤100;rw[sr];show 2+r≤100;lia
 ·show 0+(bN (cg r)).dD.2≤100;rw[sr];show 0+r≤100;lia
end
def Xo:List V→Hp→VK→Prop:=λxs H Q=>(∃i,xs=[.int i]∧Q (.int i) H)∨∃k,xs=[.bl k]∧Q (.int (if k then 1 else 0)) H
abbrev pR(a b:TE):TE:=bI (gB λi j=>.int (i-j)) a b
abbrev Be:TE:=x6 (rU λi=>.int (-i)) (tC (.int 1))
def si(K:Frag)(e:TE):TE:=fw (oA K) [] E0 (aW (aO 0) (aW (e8 (aO 1) e) bo))
def E7:TE:=fw AL [] E0 (aW (aO 6) (aW (aO 2) (aW (aO 3) bo)))
def E8(K:Frag):TT:=sU (gs (bI (vN K false) (aO 7) (tW "copy"))) (gs (bI (gB λi j=>.bl (decide (j<i))) (e8 (aO 5) (aO 3)) (tC (.int 3))))
def sj(K:Frag)(x y:Str):TE:=fE Xo (aW (bI (Cd K false) (bI (kH K) (aO 7) (tC (.int 0))) (eB (aW (tC (.str x)) (aW (tC (.str y)) bo)))) bo)
def uV(K:Frag):TS:=bZ (qR (iI K "list" i6 (aO 4) (aW (aO 7) bo))) (bZ (cy (pR (pR (aO 3) (tC (.int 1))) (sj K "add" "swap")) (bq 3)) (cy (e8 (e8 (aO 5) (tC (.int 1))) (sj K "copy" "swap")) (bq 5)))
def Bf(K:Frag):TS:=bZ (cy (si K (fE (rX K) (aW (aO 4) bo))) (bq 6)) (bZ (cy E7 (bq 7)) (bZ (eU (E8 K) (cy (tW "id") (bq 7)) gR) (uV K)))
abbrev MD:TE:=bI (rI (λ_ j=>0<j) λi j=>.int (i%j)) (aO 6) (tC (.int 5))
def ME:TT:=sU (gs (bI lJ MD (tC (.int 1)))) (gs (bI (gB λi j=>.bl (decide (i<j))) (aO 5) (tC (.int 4))))
def MF(K:Frag):TT:=sU (gs (bI lJ MD (tC (.int 2)))) (sU (gs (bI (gB λi j=>.bl (decide (j<i))) (aO 5) (tC (.int 1)))) (gs (bI (ET K) (bI (n5 K) (aO 4) Be) (eB (aW (tW "id") (aW (tW "late") bo))))))
def xv(K:Frag):TS:=bZ (eU (MF K) (bZ (cy (tW "end") (Gp (aO 4) Be He)) (cy (pR (aO 5) (tC (.int 1))) (bq 5))) gR) (eA (eB (aW (aO 4) (aW (aO 5) bo))))
def Bg(K:Frag):TS:=bZ (cy (si K (tC (.int 9))) (bq 6)) (bZ (eU ME (bZ (qR (iI K "list" i6 (aO 4) (aW (tW "none") bo))) (cy (e8 (aO 5) (tC (.int 1))) (bq 5))) gR) (xv K))
def uW(K:Frag):TS:=bZ (cy (g7 bo) (bq 4)) (bZ (cy (tC (.int 0)) (bq 5)) (bZ (Gq (gs (bI (gB λi j=>.bl (decide (j<i))) (aO 3) (tC (.int 0)))) (Bf K)) (Bg K)))
noncomputable abbrev E9:List Str:=["script","at","p","left","boxes","right","draw","box"]
theorem nG:c8 E9 ["script","at","p","left"] (bx zu):=dJ rfl rfl rfl (by decide +kernel) rfl
theorem dt.Xp{k:Nat}{A:Around}(r:dt k A):A.units+65<cLine:=by have:=r.un;lia
theorem Xq{sp:Sp}(F:cC K "_law_layer" "_law_layer" zu f fd)(T:Txt mg)
  (GD:bu P w K mg base br 1 fD fH ["script","k"] (oA K)) (kD:Kp K fD) (bD:Binds K fH ["script","k"] []) (mD:Mg mg "_law_draw" fD)
  (GB:bu P w K mg base br 1 fB jM ["draw","p","left"] AL) (kB:Kp K fB) (bB:Binds K jM ["draw","p","left"] []) (mB:Mg mg "_law_box" fB)
  (len:∀vs H Q E,sp vs H Q E→vs.length=4) (rd:∀(D:Ends) vs H Q E,sp vs H Q E→D.rt=Q→uW K D (L2.start E9 vs) H) :
  bu P w K mg base br 2 f fd ["script","at","p","left"] sp:=by
 refine F.ok nG (λvs H Q E h=>len vs H Q E h) (λbV A outer s H vs Q E hr h=>?_);refine⟨uW K,?_,rd _ vs H Q E h rfl⟩;unfold uW;refine bh ?_ ?_
 ·exact bY (i:=4) (te:=g7 bo) nG.nd rfl (.inl rfl) (gk aR)
 refine bh ?_ ?_
 ·exact bY (i:=5) (te:=tC (.int 0)) nG.nd rfl (.inl rfl) aU
 refine bh ?_ ?_
 ·refine OA kr (de qV (pv 3) aU (da _)) ?_;unfold Bf;refine bh ?_ ?_
  ·refine bY (i:=6) (te:=si K (fE (rX K) (aW (aO 4) bo))) nG.nd rfl (.inl rfl) ?_ ?_ ?_
   ·unfold si;refine cT GD hr rfl mD kD bD .nil cU ?_;refine aL (pv 0) ?_ ?_
    ·refine aL (aY fh (pv 1) (gm (jF K rfl) rfl T.len jG (aL (pv 4) aR))) aR ?_;rfl
    ·rfl
   ·rfl
   ·exact .inl rfl
  refine bh ?_ ?_
  ·exact bY (i:=7) (te:=E7) nG.nd rfl (.inl rfl) (cT GB hr rfl mB kB bB .nil cU (aL (pv 6) (aL (pv 2) (aL (pv 3) aR))))
  refine bh ?_ ?_
  ·refine dX ?_ ?_ fg
   ·unfold E8;refine PW.pt (sV ?_ (vw ?_))
    ·exact de (yN K rfl hr.units) (pv 7) (cB (aL cP aR)) (da _)
    ·exact de qV (aY fh (pv 5) (pv 3)) aU (da _)
   ·refine bK ?_;exact bY (i:=7) (te:=tW "id") nG.nd rfl (.inl rfl) (cB (aL cP aR))
  unfold uV;refine bh ?_ ?_
  ·exact ky (te:=iI K "list" i6 (aO 4) (aW (aO 7) bo)) (i5 ji mn mq kI (pv 4) (aL (pv 7) aR))
  refine bh ?_ ?_
  ·refine bY (i:=3) (te:=pR (pR (aO 3) (tC (.int 1))) (sj K "add" "swap")) nG.nd rfl (.inl rfl) ?_ ?_ ?_
   ·refine aY iZ (aY iZ (pv 3) aU) ?_;unfold sj;exact j6 GV rfl T.int yO (aL (B5 (IG K rfl) (cf (cJ K rfl) (pv 7) aU (λ_ _=>rfl)) (cB (aL cP (aL cP aR))) rfl) aR)
   ·rfl
   ·exact .inl rfl
  ·refine bK ?_;refine bY (i:=5) (te:=e8 (e8 (aO 5) (tC (.int 1))) (sj K "copy" "swap")) nG.nd rfl (.inl rfl) ?_ ?_ ?_
   ·refine aY fh (aY fh (pv 5) aU) ?_;unfold sj;exact j6 GV rfl T.int yO (aL (B5 (IG K rfl) (cf (cJ K rfl) (pv 7) aU (λ_ _=>rfl)) (cB (aL cP (aL cP aR))) rfl) aR)
   ·rfl
   ·exact .inl rfl
 unfold Bg;refine bh ?_ ?_
 ·refine bY (i:=6) (te:=si K (tC (.int 9))) nG.nd rfl (.inl rfl) ?_ ?_ ?_
  ·unfold si;refine cT GD hr rfl mD kD bD .nil cU ?_;refine aL (pv 0) ?_ ?_
   ·refine aL (aY fh (pv 1) aU) aR ?_;rfl
   ·rfl
  ·rfl
  ·exact .inl rfl
 refine bh ?_ ?_
 ·refine dX ?_ ?_ fg
  ·unfold ME;refine PW.pt (sV ?_ (vw ?_))
   ·exact de gF (aY eW (pv 6) aU) aU (da _)
   ·exact de x9 (pv 5) aU (da _)
  ·refine bh ?_ ?_
   ·exact ky (te:=iI K "list" i6 (aO 4) (aW (tW "none") bo)) (i5 ji mn mq kI (pv 4) (aL (cB (aL cP aR)) aR))
   ·refine bK ?_;exact bY (i:=5) (te:=e8 (aO 5) (tC (.int 1))) nG.nd rfl (.inl rfl) (aY fh (pv 5) aU)
 unfold xv;refine bh ?_ ?_
 ·refine dX ?_ ?_ fg
  ·unfold MF;refine PW.pt (sV ?_ (sV ?_ (vw ?_)))
   ·exact de gF (aY eW (pv 6) aU) aU (da _)
   ·exact de qV (pv 5) aU (da _)
   ·refine de (r:=ET K) (Wy (dt.Xp hr)) (cf (e7 K rfl) (pv 4) (mI mJ aU) (λ_ _=>rfl)) ?_ rfl;refine cB ?_;refine aL ?_ ?_ ?_
    ·exact cB (aL cP aR)
    ·refine aL ?_ aR ?_
     ·exact cB (aL cP aR)
     ·exact nq
    ·exact nq
  ·refine bh ?_ ?_
   ·exact sX (te:=tW "end") (cB (aL cP aR)) (Oz (pv 4) (mI mJ aU) Pd)
   ·refine bK ?_;exact bY (i:=5) (te:=pR (aO 5) (tC (.int 1))) nG.nd rfl (.inl rfl) (aY iZ (pv 5) aU)
 refine bK ?_;exact cQ (te:=eB (aW (aO 4) (aW (aO 5) bo))) (cB (aL (pv 4) (aL (pv 5) aR)))
structure lB(p:Int)(L r:Nat)(bs:List Bx):Prop where
 ne:bs≠[]
 l:fK bs=L
 rr:km bs=r
 r1:1≤r
 r4:r≤4
 wf:∀b∈bs,b.wf p
 len:bs.length≤5
theorem Bh(bs:List Bx)(b:Bx):km (bs++[b])=km bs+b.r:=by unfold km;rw[cW,List.sum_append];rfl
theorem cL.tup(h:cL H VS es)(s:eC H H'):cL H' VS es:=⟨h.1,λi v e hv he=>let ⟨c,e1,e2⟩:=h.2 i v e hv he;⟨c,e1,s _ _ e2 (.inl ⟨_,rfl⟩)⟩⟩
theorem cL.init(h:cL H (VS++[v]) (es++[e])):cL H VS es∧∃c,v=.ref c∧H c=some (.tup e):=by
 have l:VS.length=es.length:=by have:=h.1;simpa using this
 refine⟨⟨l,λi x y hx hy=>h.2 i x y ?_ ?_⟩,h.2 VS.length v e (by simp) (by rw[l];simp)⟩
 ·rw[gz (gi.mp hx).1];exact hx
 ·rw[gz (gi.mp hy).1];exact hy
theorem Bi(h:H a=some (.lst xs)):eC H (upd H a o):=eC.upd λu e=>.inl ⟨xs,by rw[h]at e;exact(dj e).symm⟩
noncomputable def Bj:List V:=[.str "add",.str "swap"]
noncomputable def Bk:List V:=[.str "copy",.str "swap"]
theorem Xr(b:Bx)(h1:1≤b.l)(h2:1≤b.r):∃nm ws,b.bc=.str nm::ws∧(if tm (.str nm) Bj=true then(1:Int)else 0)=(b.l:Int)-1∧(if tm (.str nm) Bk=true then(1:Int)else 0)=(b.r:Int)-1:=by
 cases b with
 |add=>exact⟨"add",[],rfl,by decide +kernel,by decide +kernel⟩
 |swap=>exact⟨"swap",[],rfl,by decide +kernel,by decide +kernel⟩
 |copy=>exact⟨"copy",[],rfl,by decide +kernel,by decide +kernel⟩
 |times n=>exact⟨"times",[.int n],rfl,by show _=((1:Nat):Int)-1;decide +kernel,by show _=((1:Nat):Int)-1;decide +kernel⟩
 |dg=>exact⟨"late",[],rfl,by decide +kernel,by decide +kernel⟩
 |id=>exact⟨"id",[],rfl,by decide +kernel,by decide +kernel⟩
 |none=>exact absurd h1 (by decide)
 |fin=>exact absurd h2 (by decide)
theorem Xs(b:Bx)(h1:1≤b.l)(h:b.dat≠Bx.copy.dat):b.r≤b.l:=by
 cases b with
 |copy=>exact absurd rfl h
 |none=>exact absurd h1 (by decide)
 |times n=>exact ck 1
 |_=>decide
theorem Xt(b:Bx):b.r≤2∧(b.dat=Bx.copy.dat→b.l=1):=by
 cases b with
 |times n=>exact⟨by show 1≤2;decide,λ_=>rfl⟩
 |add=>exact⟨by decide,λe=>by injection e with e;injection e with e;injection e with e;exact absurd e (by decide)⟩
 |swap=>exact⟨by decide,λe=>by injection e with e;injection e with e;injection e with e;exact absurd e (by decide)⟩
 |none=>exact⟨by decide,λe=>by injection e with e;injection e with e;injection e with e;exact absurd e (by decide)⟩
 |_=>exact⟨by decide,λ_=>rfl⟩
theorem Xu(b:Bx)(h:b.dat=Bx.id.dat∨b.dat=Bx.dg.dat):b.l=1∧b.r=1:=by
 have nm:∀x y:Str,x≠y→Dat.tuple [.str x]≠.tuple [.str y]:=λx y hx e=>by
  injection e with e;injection e with e;injection e with e;exact hx e
 cases b with
 |id=>exact⟨rfl,rfl⟩
 |dg=>exact⟨rfl,rfl⟩
 |times n=>exact⟨rfl,rfl⟩
 |add=>exact h.elim (λe=>absurd e (nm _ _ (by decide))) (λe=>absurd e (nm _ _ (by decide)))
 |swap=>exact h.elim (λe=>absurd e (nm _ _ (by decide))) (λe=>absurd e (nm _ _ (by decide)))
 |copy=>exact h.elim (λe=>absurd e (nm _ _ (by decide))) (λe=>absurd e (nm _ _ (by decide)))
 |none=>exact h.elim (λe=>absurd e (nm _ _ (by decide))) (λe=>absurd e (nm _ _ (by decide)))
 |fin=>exact h.elim (λe=>absurd e (nm _ _ (by decide))) (λe=>absurd e (nm _ _ (by decide)))
def xw(K:Frag):Sp:=λvs H Q _=>∃(as:Addr)(ns:List Int)(at' p:Int)(L:Nat),vs=[.ref as,.int at',.int p,.int (L:Int)]∧cM K H as (ns.map V.int)∧ns.length≤63∧0≤at'∧at'≤90000∧2≤p∧p≤97∧1≤L∧L≤4∧
 ∀(t lb:Addr)(VS:List V)(bs:List Bx)(r:Nat) H',aM H H'→H lb=none→aZ K H' t [.ref lb,.int (r:Int)]→H' lb=some (.lst VS)→cL H' VS (bs.map Bx.bc)→lB p L r bs→Q (.ref t) H'
open Classical in
theorem Fb{at' d:Int}{r:Nat}{bs:List Bx}(hn:H lb=none)(sm:aM H H')(hb:H' lb=some (.lst VS))(hV:cL H' VS (bs.map Bx.bc))(ok:lB p L r bs)
  (q:∀(t lb:Addr)(VS:List V)(bs:List Bx)(r:Nat) H',aM H H'→H lb=none→aZ K H' t [.ref lb,.int (r:Int)]→H' lb=some (.lst VS)→cL H' VS (bs.map Bx.bc)→lB p L r bs→D.rt (.ref t) H') :
  xv K D [some (.ref as),some (.int at'),some (.int p),some (.int 0),some (.ref lb),some (.int (r:Int)),some (.int d),s7] H':=by
 have z:(1000:Nat)≤sizeLine:=by decide
 have fin:∀{H2:Hp}{Bl:List V}{xx:List Bx}{r2:Nat},aM H H2→H2 lb=some (.lst Bl)→cL H2 Bl (xx.map Bx.bc)→lB p L r2 xx→(eA (eB (aW (aO 4) (aW (aO 5) bo)))) D [some (.ref as),some (.int at'),some (.int p),some (.int 0),some (.ref lb),some (.int (r2:Int)),some (.int d),s7] H2:=λ{H2 Bl xx r2} s2 h2 v2 o2=>by
  refine⟨_,rfl,_,rfl,by show 2≤sizeLine;lia,λt ht=>?_⟩;exact q t lb Bl xx r2 _ (s2.trans (.upd ht)) hn (.of aX) (aM.upd ht _ _ h2) (v2.mono (.upd ht)) o2
 unfold xv;refine⟨_,rfl,d,5,rfl,rfl,(by show(0:Int)<5;decide),rfl,_,rfl,?_⟩;refine j8 (λ_=>?_) (λ_=>eP (fin sm hb hV ok));refine⟨_,rfl,(r:Int),1,rfl,rfl,_,rfl,j8 (λhr=>?_) (λ_=>eP (fin sm hb hV ok))⟩;have hr:(1:Int)<(r:Int):=aH hr;obtain⟨qv,b,rfl⟩:∃qv b,bs=qv++[b]:=⟨bs.dropLast,bs.getLast ok.ne,(vh ok.ne).symm⟩;have MG:VS≠[]:=λe=>by have:=hV.1;rw[e]at this;simp at this
 obtain⟨jg,v,rfl⟩:∃jg v,VS=jg++[v]:=⟨VS.dropLast,VS.getLast MG,(vh MG).symm⟩;rw[cW]at hV;obtain⟨Xv,c,rfl,hc⟩:=cL.init hV;refine⟨_,rfl,_,rfl,lb,_,-1,.ref c,rfl,rfl,.of hb,yn _ _,?_⟩;refine⟨by show 1≤sizeLine;lia,λt1 h1=>⟨by show 1≤sizeLine;lia,λt2 h2=>⟨by show 2≤sizeLine;lia,λt3 h3=>?_⟩⟩⟩;have s1:=aM.upd (o:=.tup [.str "id"]) h1;have s2:=aM.upd (o:=.tup [.str "late"]) h2;have s3:=aM.upd (o:=.tup [.ref t1,.ref t2]) h3;have sA:=s1.trans (s2.trans s3);have g1:=(s2.trans s3) _ _ (aX (H:=H') (o:=.tup [.str "id"]) (a:=t1));have g2:=s3 _ _ (aX (H:=upd H' t1 (.tup [.str "id"])) (o:=.tup [.str "late"]) (a:=t2));refine⟨b.dat,[Bx.id.dat,Bx.dg.dat],Bx.has _ (sA _ _ hc),.tuple (.of aX) (.cons (Bx.has .id g1) (.cons (Bx.has .dg g2) .nil)),Bx.se _,by decide +kernel,λe he=>?_,_,rfl,?_⟩
 ·rcases(dS.mp he)with(rfl|he)
  ·exact Bx.se _
  ·rw[dI.mp he];exact Bx.se _
 generalize upd (upd (upd H' t1 (.tup [.str "id"])) t2 (.tup [.str "late"])) t3 (.tup [.ref t1,.ref t2])=H3 at sA g1 g2 ⊢;refine j8 (λlS=>?_) (λ_=>?_)
 ·have lN:b.dat=Bx.id.dat∨b.dat=Bx.dg.dat:=by
   obtain⟨e,he,h⟩:=List.any_eq_true.mp lS;have h:=aH h;rcases(dS.mp he)with(rfl|he)
   ·exact .inl h.symm
   ·rw[dI.mp he]at h;exact .inr h.symm
  obtain⟨b1,b2⟩:=Xu b lN;refine⟨by show 1≤sizeLine;lia,λt4 h4=>?_⟩;have s4:=aM.upd (o:=.tup [.str "end"]) h4;have sB:=sA.trans s4;have gb:=sB _ _ hb;refine⟨_,rfl,_,rfl,lb,jg++[.ref c],-1,jg.length,rfl,rfl,gb,?_,?_⟩
  ·show mN (jg++[V.ref c]).length (-1)=some jg.length;unfold mN;rw[bQ];show(if(0:Int)≤-1 then _ else if -((jg.length+1:Nat):Int)≤-1 then some (-1+((jg.length+1:Nat):Int)).toNat else none)=_
   rw[ah (by decide),ae (by lia)];exact ao some (by lia)
  ·have e:(jg++[V.ref c]).set jg.length (.ref t4)=jg++[.ref t4]:=by simp
   rw[e];refine⟨_,rfl,(r:Int),1,rfl,rfl,?_⟩;obtain⟨r',rfl⟩:∃r',r=r'+1:=⟨r-1,by lia⟩;have e2:((r'+1:Nat):Int)-1=(r':Int):=by lia
   show(eA (eB (aW (aO 4) (aW (aO 5) bo)))) D [some (.ref as),some (.int at'),some (.int p),some (.int 0),some (.ref lb),some (.int (((r'+1:Nat):Int)-1)),some (.int d),s7] _;rw[e2];have l1:=ok.l;have l2:=ok.rr;rw[uP,b1]at l1;rw[Bh,b2]at l2;have cA:=ok.len;rw[bQ]at cA;refine fin (xx:=qv++[.fin]) ((sm.trans sB).put hn) aX ?_ ⟨by simp,?_,?_,by lia,by have:=ok.r4;lia,λx hx=>?_,by rw[bQ];exact cA⟩
   ·rw[cW];exact((Xv.mono sB).snoc aX).tup (Bi gb)
   ·rw[uP];exact l1
   ·rw[Bh];show km qv+0=r';lia
   ·rcases(dZ.mp hx)with(hx|hx)
    ·exact ok.wf x (mh _ hx)
    ·rw[dI.mp hx];trivial
 ·have Xw:cL H' (jg++[.ref c]) ((qv++[b]).map Bx.bc):=by rw[cW];exact hV
  exact fin (sm.trans sA) (sA _ _ hb) (Xw.mono sA) ok
open Classical in
theorem Xx{at':Int}{r:Nat}{bs:List Bx}(hs:cM K H as (ns.map V.int))(hl:ns.length≤63)(a0:0≤at')(a9:at'≤90000)(hn:H lb=none)(sm:aM H H')(hb:H' lb=some (.lst VS))(hV:cL H' VS (bs.map Bx.bc))(ok:lB p L r bs)(l4:bs.length≤4)
  (q:∀(t lb:Addr)(VS:List V)(bs:List Bx)(r:Nat) H',aM H H'→H lb=none→aZ K H' t [.ref lb,.int (r:Int)]→H' lb=some (.lst VS)→cL H' VS (bs.map Bx.bc)→lB p L r bs→D.rt (.ref t) H') :
  Bg K D [some (.ref as),some (.int at'),some (.int p),some (.int 0),some (.ref lb),some (.int (r:Int)),s6,s7] H':=by
 have z:(1000:Nat)≤sizeLine:=by decide
 unfold Bg;refine⟨_,rfl,_,rfl,_,9,rfl,rfl,as,ns,_,rfl,sm.sq (b:=true) hs,hl,by lia,by lia,λd d0 d1=>?_⟩;refine⟨_,rfl,d,5,rfl,rfl,(by show(0:Int)<5;decide),rfl,_,rfl,?_⟩;refine j8 (λ_=>?_) (λ_=>eP (Fb hn sm hb hV ok q));refine⟨_,rfl,(r:Int),4,rfl,rfl,_,rfl,j8 (λhr=>?_) (λ_=>Fb hn sm hb hV ok q)⟩;have hr:(r:Int)<4:=aH hr;refine⟨_,rfl,.inl ⟨rfl,_,.of hb⟩,by show 1≤sizeLine;lia,λt ht=>?_⟩;have s1:=aM.upd (o:=.tup [.str "none"]) ht;have gb:=s1 _ _ hb;have lv:VS.length=bs.length:=by rw[hV.1,bz]
 refine⟨lb,VS,.ref t,rfl,rfl,gb,by lia,?_⟩;refine⟨_,rfl,(r:Int),1,rfl,rfl,?_⟩;show xv K D [some (.ref as),some (.int at'),some (.int p),some (.int 0),some (.ref lb),some (.int ((r:Int)+1)),some (.int d),s7] _;rw[show(r:Int)+1=((r+1:Nat):Int) by lia];refine Fb (bs:=bs++[.none]) hn ((sm.trans s1).put hn) aX ?_ ⟨by simp,?_,?_,by lia,by lia,λx hx=>?_,?_⟩ q
 ·rw[cW];exact((hV.mono s1).snoc aX).tup (Bi gb)
 ·rw[uP];exact ok.l
 ·rw[Bh,ok.rr];rfl
 ·rcases(dZ.mp hx)with(hx|hx)
  ·exact ok.wf x hx
  ·rw[dI.mp hx];trivial
 ·rw[bQ];show bs.length+1≤5;lia
theorem Xy{at':Int}{l r:Nat}{bs:List Bx}(hn:H lb=none)(sm:aM H H')(hb:H' lb=some (.lst VS))(hV:cL H' VS (bs.map Bx.bc))(hc:H' c=some (.tup b.bc))(bl:b.l≤l)(b1:1≤b.l)(b2:1≤b.r)(lv:VS.length≤100)
  (q:∀H2,aM H H2→H2 lb=some (.lst (VS++[.ref c]))→cL H2 (VS++[.ref c]) ((bs++[b]).map Bx.bc)→D.nx [some (.ref as),some (.int at'),some (.int p),some (.int ((l-b.l:Nat):Int)),some (.ref lb),some (.int ((r+b.r:Nat):Int)),s6,some (.ref c)] H2) :
  uV K D [some (.ref as),some (.int at'),some (.int p),some (.int (l:Int)),some (.ref lb),some (.int (r:Int)),s6,some (.ref c)] H':=by
 have z:(1000:Nat)≤sizeLine:=by decide
 obtain⟨nm,ws,ew,i1,i2⟩:=Xr b b1 b2;have a0:b.bc[0]?=some (.str nm):=by rw[ew];rfl
 unfold uV;refine⟨_,rfl,.inl ⟨rfl,_,.of hb⟩,_,rfl,lb,VS,.ref c,rfl,rfl,hb,by lia,?_⟩;have tF:=Bi (o:=.lst (VS++[.ref c])) hb _ _ hc (.inl ⟨_,rfl⟩);have MH:cL (upd H' lb (.lst (VS++[.ref c]))) (VS++[.ref c]) ((bs++[b]).map Bx.bc):=by
  rw[cW];exact(hV.tup (Bi hb)).snoc tF
 have ke:aM H (upd H' lb (.lst (VS++[.ref c]))):=sm.put hn;have MI:(upd H' lb (.lst (VS++[.ref c]))) lb=some (.lst (VS++[.ref c])):=aX;generalize upd H' lb (.lst (VS++[.ref c]))=H1 at tF MH ke MI ⊢;unfold sj;refine⟨_,rfl,(l:Int),1,rfl,rfl,_,rfl,c,_,0,.str nm,rfl,rfl,.of tF,cH (j:=0) a0,by show 2≤sizeLine;lia,λt1 h1=>⟨t1,Bj,rfl,.inr (.of aX),rfl,rfl,.inr ⟨_,rfl,_,_,rfl,rfl,?_⟩⟩⟩;have s1:=aM.upd (o:=.tup Bj) h1;refine⟨_,rfl,(r:Int),1,rfl,rfl,_,rfl,c,_,0,.str nm,rfl,rfl,.of (s1 _ _ tF),cH (j:=0) a0,by show 2≤sizeLine;lia,λt2 h2=>⟨t2,Bk,rfl,.inr (.of aX),rfl,rfl,.inr ⟨_,rfl,_,_,rfl,rfl,?_⟩⟩⟩;have s2:=aM.upd (o:=.tup Bk) h2;show D.nx [some (.ref as),some (.int at'),some (.int p),some (.int ((l:Int)-1-(if tm (.str nm) Bj=true then(1:Int)else 0))),some (.ref lb),some (.int ((r:Int)+1+(if tm (.str nm) Bk=true then(1:Int)else 0))),s6,some (.ref c)] _
 rw[i1,i2,show(l:Int)-1-((b.l:Int)-1)=((l-b.l:Nat):Int) by lia,show(r:Int)+1+((b.r:Int)-1)=((r+b.r:Nat):Int) by lia];exact q _ (ke.trans (s1.trans s2)) ((s1.trans s2) _ _ MI) (MH.mono (s1.trans s2))
def Bm(p:Int)(H:Hp)(as lb:Addr)(at':Int)(L:Nat):Nat→St→Hp→Prop:=λm σ H'=>∃(r:Nat)(bs:List Bx)(VS:List V)(s6 s7:Option V),σ=[some (.ref as),some (.int at'),some (.int p),some (.int (m:Int)),some (.ref lb),some (.int (r:Int)),s6,s7]∧aM H H'∧H' lb=some (.lst VS)∧cL H' VS (bs.map Bx.bc)∧fK bs+m=L∧km bs=r∧r+m≤4∧bs.length≤r∧bs.length+m≤L∧∀b∈bs,b.wf p
open Classical in
theorem Xz{at':Int}{m:Nat}(hs:cM K H as (ns.map V.int))(hl:ns.length≤63)(a0:0≤at')(a9:at'≤90000)(p2:2≤p)(cX:p≤97)(hn:H lb=none)(hW:Bm p H as lb at' L m σ H')(m1:1≤m)
  (q:∀m' σ' H2,m'<m→Bm p H as lb at' L m' σ' H2→D.nx σ' H2):Bf K D σ H':=by
 obtain⟨r,bs,VS,s6,s7,rfl,sm,hb,hV,eL,eR,h4,XA,XB,qu⟩:=hW;have z:(1000:Nat)≤sizeLine:=by decide
 have lv:VS.length=bs.length:=by rw[hV.1,bz]
 unfold Bf si;refine⟨_,rfl,_,rfl,_,rfl,lb,VS,rfl,.inl (.of hb),at',(VS.length:Int),rfl,rfl,as,ns,_,rfl,sm.sq (b:=true) hs,hl,by lia,by lia,λd d0 d1=>?_⟩;unfold E7;refine⟨_,rfl,_,rfl,_,rfl,d,p,(m:Int),rfl,d0,d1,p2,cX,by lia,λb c H2 wf bl b1 b2 s2 hc=>?_⟩;unfold E8;refine⟨_,rfl,by show 1≤sizeLine;lia,λt ht=>?_⟩;have s3:=aM.upd (o:=.tup [.str "copy"]) ht;refine⟨b.dat,Bx.copy.dat,Bx.has _ (s3 _ _ hc),Bx.has .copy aX,Bx.se _,Bx.se .copy,_,rfl,?_⟩;have sA:=s2.trans s3;have MJ:=s3 _ _ hc;have MK:=sA _ _ hb;have ML:=hV.mono sA;have nj:=sm.trans sA;generalize upd H2 t (.tup [.str "copy"])=H3 at s3 sA MJ MK ML nj ⊢;rw[ah (by decide)];have go:∀{b':Bx}{c':Addr}{H4:Hp},aM H3 H4→H4 c'=some (.tup b'.bc)→b'.wf p→b'.l≤m→1≤b'.l→1≤b'.r→r+b'.r+(m-b'.l)≤4→uV K D [some (.ref as),some (.int at'),some (.int p),some (.int (m:Int)),some (.ref lb),some (.int (r:Int)),some (.int d),some (.ref c')] H4:=λ{b' c' H4} s4 XC Fc l' l1 r1 Mz=>by
  refine Xy hn (nj.trans s4) (s4 _ _ MK) (ML.mono s4) XC l' l1 r1 (by lia) λH5 s5 XD XE=>?_;refine q (m-b'.l) _ H5 (by lia) ⟨r+b'.r,bs++[b'],VS++[.ref c'],_,_,rfl,s5,XD,XE,by rw[uP];lia,by rw[Bh,eR],by lia,?_,?_,λx hx=>?_⟩
  ·rw[bQ];show bs.length+1≤_;lia
  ·rw[bQ];show bs.length+1+_≤_;lia
  ·rcases(dZ.mp hx)with(hx|hx)
   ·exact qu x hx
   ·rw[dI.mp hx];exact Fc
 have XF:b.l≤m:=by lia
 have nx:(¬(b.dat=Bx.copy.dat)∨r+m≤3)→uV K D [some (.ref as),some (.int at'),some (.int p),some (.int (m:Int)),some (.ref lb),some (.int (r:Int)),some (.int d),some (.ref c)] H3:=λh=>by
  refine go (.refl _) MJ wf XF b1 b2 ?_;by_cases e:b.dat=Bx.copy.dat
  ·obtain⟨e1,e2⟩:=Xt b
   have:=e2 e
   rcases h with h|h
   ·exact absurd e h
   ·lia
  ·have:=Xs b b1 e
   lia
 by_cases e:b.dat=Bx.copy.dat
 ·rw[aE e];refine i7 ⟨_,rfl,_,rfl,(r:Int),(m:Int),rfl,rfl,_,3,rfl,rfl,_,rfl,?_⟩;by_cases h3:(3:Int)<(r:Int)+(m:Int)
  ·rw[aE h3];refine i7 ⟨by show 1≤sizeLine;lia,λt2 fI=>?_⟩;exact go (b':=.id) (.upd fI) aX trivial (by show 1≤m;lia) (by decide) (by decide) (by show r+1+(m-1)≤4;lia)
  ·rw[aa h3];exact eP (nx (.inr (by lia)))
 ·rw[aa e];exact eP (eP (nx (.inl e)))
theorem XG(h:xw K vs H Q E)(hD:D.rt=Q):uW K D (L2.start E9 vs) H:=by
 obtain⟨as,ns,at',p,L,rfl,hs,hl,a0,a9,p2,cX,l1,l4,q⟩:=h;rw[← hD]at q;show uW K D [some (.ref as),some (.int at'),some (.int p),some (.int (L:Int)),none,none,none,none] H;unfold uW;refine⟨by decide,λlb jL=>?_⟩;refine⟨Bm p H as lb at' L,⟨L,0,[],[],none,none,rfl,.upd jL,aX,cL.nil,by show 0+L=L;lia,rfl,by lia,ck 0,by show 0+L≤L;lia,λb hb=>absurd hb (by simp)⟩,?_⟩;intro m σ H' hW;obtain⟨r,bs,VS,s6,s7,rfl,sm,hb,hV,eL,eR,h4,XA,XB,qu⟩:=id hW;refine⟨_,rfl,(m:Int),0,rfl,rfl,_,rfl,j8 (λcN=>?_) (λcN=>?_)⟩
 ·have cN:(0:Int)<(m:Int):=aH cN;refine⟨λσ' iO=>∃m',m'<m∧Bm p H as lb at' L m' σ' iO,λσ' iO h=>h,?_⟩;exact Xz hs hl a0 a9 p2 cX jL hW (by lia) λm' σ' H2 lt h=>⟨m',lt,h⟩
 ·have cN:¬(0:Int)<(m:Int):=λh=>cN (aE h);obtain rfl:m=0:=by lia
  have ne:bs≠[]:=λe=>by
   rw[e]at eL
   have:(0:Nat)+0=L:=eL
   lia
  have ln:1≤bs.length:=by
   cases bs with
   |nil=>exact absurd rfl ne
   |cons _ _=>simp
  exact Xx hs hl a0 a9 jL sm hb hV ⟨ne,by lia,eR,by lia,by lia,qu,by lia⟩ (by lia) q
theorem XH(F:cC K "_law_layer" "_law_layer" zu f fd)(T:Txt mg)
  (GD:bu P w K mg base br 1 fD fH ["script","k"] (oA K)) (kD:Kp K fD) (bD:Binds K fH ["script","k"] []) (mD:Mg mg "_law_draw" fD)
  (GB:bu P w K mg base br 1 fB jM ["draw","p","left"] AL) (kB:Kp K fB) (bB:Binds K jM ["draw","p","left"] []) (mB:Mg mg "_law_box" fB) :
  bu P w K mg base br 2 f fd ["script","at","p","left"] (xw K):=
 Xq F T GD kD bD mD GB kB bB mB (λvs H Q E h=>by obtain⟨as,ns,at',p,L,rfl,_⟩:=h;rfl) λD vs H Q E h hD=>XG h hD
def eS(p:Int):Nat→List (List Bx)→Nat→Prop
 |L,[],R=>L=R
 |L,bs::ls,R=>∃m,lB p L m bs∧eS p m ls R
theorem eS.snoc{p:Int}{M R:Nat}{bs:List Bx}(h2:lB p M R bs):∀{L:Nat}{ls:List (List Bx)},eS p L ls M→eS p L (ls++[bs]) R
 |_,[],h=>⟨R,by rw[show _=M from h];exact h2,rfl⟩
 |_,_::_,⟨m,a,b⟩=>⟨m,a,eS.snoc h2 b⟩
structure kn(p:Int)(l r lp:Nat)(ls:List (List Bx)):Prop where
 ko:eS p (l+lp) ls (r+lp)
 ne:ls≠[]
 len:ls.length≤4
 l1:1≤l
 l4:l+lp≤4
 r1:1≤r
 r4:r+lp≤4
 sk:lp=0∨(lp=1∧∃xs,ls=xs++[Bx.dg::cg r])
theorem cL.cons(hc:H c=some (.tup e))(h:cL H VS es):cL H (.ref c::VS) (e::es):=by
 refine⟨by rw[eF,eF,h.1],λi v x hv hx=>?_⟩;cases i with
 |zero=>cases hv;cases hx;exact⟨c,rfl,hc⟩
 |succ i=>exact h.2 i v x hv hx
theorem cL.rep{H:Hp}{c:Addr}{e:List V}(hc:H c=some (.tup e)):∀n,cL H (List.replicate n (.ref c)) (List.replicate n e)
 |0=>cL.nil
 |n+1=>cL.cons hc (cL.rep hc n)
theorem kj.snoc{bs:List Bx}(h:kj H LS ls)(hc:H c=some (.lst VS))(hV:cL H VS (bs.map Bx.bc)):kj H (LS++[.ref c]) (ls++[bs]):=by
 refine⟨by rw[bQ,bQ,h.1];rfl,λi v x hv hx=>?_⟩;by_cases hi:i<LS.length
 ·rw[gz hi]at hv;rw[gz (by rw[← h.1];exact hi)]at hx;exact h.2 i v x hv hx
 ·rw[gZ (by lia)]at hv;rw[gZ (by rw[← h.1];lia),← h.1]at hx;generalize i-LS.length=j at hv hx;cases j with
  |zero=>cases hv;cases hx;exact⟨c,VS,rfl,hc,hV⟩
  |succ j=>cases hv
theorem MM:del c (upd H c o)=del c H:=by
 funext b
 unfold del;by_cases e:b=c
 ·rw[ae e,ae e]
 ·rw[ah e,ah e,cn e]
theorem XI:aM (del c H) H:=λ_ _ e=>(rH e).2
theorem cL.del{H:Hp}{c:Addr}{xs:List V}{VS:List V}{es:List (List V)}(h:cL H VS es)(hc:H c=some (.lst xs)):cL (del c H) VS es:=⟨h.1,λi v e hv he=>let ⟨b,e1,e2⟩:=h.2 i v e hv he;⟨b,e1,by
 rw[uh λz=>by rw[z,hc]at e2;cases e2];exact e2⟩⟩
def lC(K:Frag)(n:Int):TE:=fw (oA K) [] E0 (aW (aO 0) (aW (tC (.int n)) bo))
abbrev uX(e:TE)(n:Int):TE:=bI (rI (λ_ j=>0<j) λi j=>.int (i%j)) e (tC (.int n))
def Bn(K:Frag):TE:=fw (xw K) [] E0 (aW (aO 0) (aW (e8 (tC (.int 20)) (bI (rI pY λi j=>.int (i*j)) (tC (.int 10)) (aO 5))) (aW (aO 1) (aW (aO 4) bo))))
def Fd(K:Frag):TS:=bZ (cy (Bn K) (qS K 2 (iY (bq 6) (iY (bq 4) sW)))) (qR (iI K "list" i6 (aO 3) (aW (aO 6) bo)))
def Bo:TE:=bI n6 (g7 (aW (tW "late") bo)) (bI Ck (g7 (aW (tW "id") bo)) (pR (aO 4) (tC (.int 1))))
def uY:TE:=eB (aW (pR (aO 2) (aO 7)) (aW (pR (aO 4) (aO 7)) (aW (aO 7) (aW (aO 3) bo))))
def uZ(K:Frag):TS:=bZ (eU (gs (bI lJ (aO 7) (tC (.int 1)))) (qR (iI K "list" i6 (aO 3) (aW Bo bo))) gR) (eA uY)
def Bp(K:Frag):TS:=bZ (cy (uX (lC K 3) 2) (bq 7)) (bZ (eU (Gg (gs (bI lJ (aO 2) (tC (.int 1)))) (gs (bI lJ (aO 4) (tC (.int 1))))) (cy (tC (.int 0)) (bq 7)) gR) (uZ K))
def u7(K:Frag):TS:=bZ (cy (e8 (tC (.int 1)) (uX (lC K 1) 3)) (bq 2)) (bZ (cy (g7 bo) (bq 3)) (bZ (cy (aO 2) (bq 4)) (bZ (qT (Gs (aW (e8 (tC (.int 1)) (uX (lC K 2) 3)) bo)) (bq 5) (Fd K)) (Bp K))))
noncomputable abbrev Fe:List Str:=["script","p","left","layers","right","k","boxes","loop"]
theorem pS:c8 Fe ["script","p"] (bx zv):=dJ rfl rfl rfl (by decide +kernel) rfl
theorem XJ{sp:Sp}(F:cC K "_law_layers" "_law_layers" zv f fd)(T:Txt mg)
  (GD:bu P w K mg base br 1 fD fH ["script","k"] (oA K)) (kD:Kp K fD) (bD:Binds K fH ["script","k"] []) (mD:Mg mg "_law_draw" fD)
  (GL:bu P w K mg base br 2 fL jI ["script","at","p","left"] (xw K)) (kL:Kp K fL) (bL:Binds K jI ["script","at","p","left"] []) (mL:Mg mg "_law_layer" fL)
  (len:∀vs H Q E,sp vs H Q E→vs.length=2) (rd:∀(D:Ends) vs H Q E,sp vs H Q E→D.rt=Q→u7 K D (L2.start Fe vs) H) :
  bu P w K mg base br 3 f fd ["script","p"] sp:=by
 refine F.ok pS (λvs H Q E h=>len vs H Q E h) (λbV A outer s H vs Q E hr h=>?_);have iN:dt 1 _:=hr.mono (by decide);refine⟨u7 K,?_,rd _ vs H Q E h rfl⟩;unfold u7;refine bh ?_ ?_
 ·refine bY (i:=2) (te:=e8 (tC (.int 1)) (uX (lC K 1) 3)) pS.nd rfl (.inl rfl) ?_ ?_ ?_
  ·refine aY fh aU (aY eW ?_ aU);unfold lC;exact cT GD iN rfl mD kD bD .nil cU (aL (pv 0) (aL aU aR))
  ·rfl
  ·exact .inl rfl
 refine bh ?_ ?_
 ·exact bY (i:=3) (te:=g7 bo) pS.nd rfl (.inl rfl) (gk aR)
 refine bh ?_ ?_
 ·exact bY (i:=4) (te:=aO 2) pS.nd rfl (.inl rfl) (pv 2)
 refine bh ?_ ?_
 ·refine jZ kr rfl (nX rfl T.range ?_) (cq (i:=5) pS.nd rfl (.inl rfl)) ?_
  ·refine aL ?_ aR ?_
   ·refine aY fh aU (aY eW ?_ aU);unfold lC;exact cT GD iN rfl mD kD bD .nil cU (aL (pv 0) (aL aU aR))
   ·rfl
  ·unfold Fd;refine bh ?_ ?_
   ·refine sX (te:=Bn K) ?_ (pj (n:=2) K rfl rfl (eV (cq (i:=6) pS.nd rfl (.inl rfl)) (eV (cq (i:=4) pS.nd rfl (.inl rfl)) oY))) ?_ ?_
    ·unfold Bn;exact cT GL hr rfl mL kL bL .nil cU (aL (pv 0) (aL (aY fh aU (aY j5 aU (pv 5))) (aL (pv 1) (aL (pv 4) aR))))
    ·rfl
    ·rfl
   ·refine bK ?_;exact ky (te:=iI K "list" i6 (aO 3) (aW (aO 6) bo)) (i5 ji mn mq kI (pv 3) (aL (pv 6) aR))
 unfold Bp;refine bh ?_ ?_
 ·refine bY (i:=7) (te:=uX (lC K 3) 2) pS.nd rfl (.inl rfl) ?_ ?_ ?_
  ·refine aY eW ?_ aU;unfold lC;exact cT GD iN rfl mD kD bD .nil cU (aL (pv 0) (aL aU aR))
  ·rfl
  ·exact .inl rfl
 refine bh ?_ ?_
 ·refine dX ?_ ?_ fg
  ·exact PW.pt (xW (de gF (pv 2) aU (da _)) (Gh (de gF (pv 4) aU (da _))))
  ·refine bK ?_;exact bY (i:=7) (te:=tC (.int 0)) pS.nd rfl (.inl rfl) aU
 unfold uZ;refine bh ?_ ?_
 ·refine dX ?_ ?_ fg
  ·exact de gF (pv 7) aU (da _)
  ·refine bK ?_;refine ky (te:=iI K "list" i6 (aO 3) (aW Bo bo)) ?_ ?_
   ·refine i5 ji mn mq kI (pv 3) ?_;refine aL ?_ aR ?_
    ·unfold Bo;exact aY n8 (gk (aL (cB (aL cP aR)) aR)) (aY Cm (gk (aL (cB (aL cP aR)) aR)) (aY iZ (pv 4) aU))
    ·rfl
   ·rfl
 refine bK ?_;refine cQ (te:=uY) ?_;unfold uY;exact cB (aL (aY iZ (pv 2) (pv 7)) (aL (aY iZ (pv 4) (pv 7)) (aL (pv 7) (aL (pv 3) aR))))
def xy(K:Frag):Sp:=λvs H Q _=>∃(as:Addr)(ns:List Int)(p:Int),vs=[.ref as,.int p]∧cM K H as (ns.map V.int)∧ns.length≤63∧2≤p∧p≤97∧
 ∀(t:Addr)(l r lp:Nat)(ls:List (List Bx)) H',aM H H'→iS K H' t l r lp ls→kn p l r lp ls→Q (.ref t) H'
theorem MN(sm:aM H H')(hl:H' ll=some (.lst LS))(hL:kj (del ll H') LS ls)(Ba:lp≤L∧lp≤R)(ok:kn p (L-lp) (R-lp) lp ls)
  (q:∀(t:Addr)(l r lp:Nat)(ls:List (List Bx)) H',aM H H'→iS K H' t l r lp ls→kn p l r lp ls→D.rt (.ref t) H') :
  (eA uY) D [some (.ref as),some (.int p),some (.int (L:Int)),some (.ref ll),some (.int (R:Int)),s5,s6,some (.int (lp:Int))] H':=by
 show uY _ _ _;unfold uY;refine⟨_,rfl,_,rfl,_,_,rfl,rfl,_,rfl,_,rfl,_,_,rfl,rfl,_,rfl,_,rfl,by show 4≤sizeLine;decide,λt ht=>?_⟩;show D.rt (.ref t) (upd H' t (.tup [.int ((L:Int)-(lp:Int)),.int ((R:Int)-(lp:Int)),.int (lp:Int),.ref ll]));rw[show(L:Int)-(lp:Int)=((L-lp:Nat):Int) by lia,show(R:Int)-(lp:Int)=((R-lp:Nat):Int) by lia];exact q t _ _ lp ls _ (sm.trans (.upd ht)) ⟨ll,LS,.of aX,aM.upd ht _ _ hl,(hL.mono XI).mono (.upd ht)⟩ ok
theorem XM{n:Nat}(h:n≤3):lB p (n+1) (n+1) (Bx.dg::cg n):=by
 obtain⟨a,b⟩:=Bd n;refine⟨by simp,?_,?_,by lia,by lia,λx hx=>?_,?_⟩
 ·show 1+fK (cg n)=n+1;lia
 ·show 1+km (cg n)=n+1;lia
 ·rcases(dS.mp hx)with(rfl|hx)
  ·trivial
  ·rw[vg hx];trivial
 ·unfold cg;rw[eF,ee];lia
theorem MO(hn:H ll=none)(sm:aM H H')(hl:H' ll=some (.lst LS))(hL:kj (del ll H') LS ls)(pT:eS p L ls R)(ne:ls≠[])(len:ls.length≤3)(l1:1≤L)(l4:L≤4)(r1:1≤R)(r4:R≤4)(Ba:lp=0∨lp=1∧2≤L∧2≤R)
  (q:∀(t:Addr)(l r lp:Nat)(ls:List (List Bx)) H',aM H H'→iS K H' t l r lp ls→kn p l r lp ls→D.rt (.ref t) H') :
  uZ K D [some (.ref as),some (.int p),some (.int (L:Int)),some (.ref ll),some (.int (R:Int)),s5,s6,some (.int (lp:Int))] H':=by
 have z:(1000:Nat)≤sizeLine:=by decide
 unfold uZ;refine⟨_,rfl,rfl,_,rfl,?_⟩;rcases Ba with rfl|⟨rfl,l2,r2⟩
 ·rw[aa (by decide)];refine eP ?_;exact MN sm hl hL ⟨by lia,by lia⟩ ⟨pT,ne,by lia,l1,l4,r1,r4,.inl rfl⟩ q
 ·refine pG ?_;obtain⟨n,rfl⟩:∃n,R=n+1:=⟨R-1,by lia⟩;unfold Bo;refine⟨_,rfl,.inl ⟨rfl,_,.of hl⟩,by show 1≤sizeLine;lia,λt1 h1=>⟨by show 1≤sizeLine;lia,λa1 k1=>⟨by show 1≤sizeLine;lia,λt2 h2=>⟨by show 1≤sizeLine;lia,λa2 k2=>?_⟩⟩⟩⟩;have s1:=aM.upd (o:=.tup [.str "late"]) h1;have u1:=aM.upd (o:=.lst [.ref t1]) k1;have s2:=aM.upd (o:=.tup [.str "id"]) h2;have u2:=aM.upd (o:=.lst [.ref t2]) k2;have sA:=s1.trans (u1.trans (s2.trans u2));have g1:=(u1.trans (s2.trans u2)) _ _ (aX (H:=H') (a:=t1) (o:=.tup [.str "late"]));have g2:=(s2.trans u2) _ _ (aX (H:=upd H' t1 (.tup [.str "late"])) (a:=a1) (o:=.lst [.ref t1]));have g3:=u2 _ _ (aX (H:=upd (upd H' t1 (.tup [.str "late"])) a1 (.lst [.ref t1])) (a:=t2) (o:=.tup [.str "id"]));have g4:=aX (H:=upd (upd (upd H' t1 (.tup [.str "late"])) a1 (.lst [.ref t1])) t2 (.tup [.str "id"])) (a:=a2) (o:=.lst [.ref t2]);generalize upd (upd (upd (upd H' t1 (.tup [.str "late"])) a1 (.lst [.ref t1])) t2 (.tup [.str "id"])) a2 (.lst [.ref t2])=H1 at sA g1 g2 g3 g4 u2 ⊢;have en:(((n+1:Nat):Int)-1).toNat=n:=by lia
  refine⟨_,rfl,_,_,rfl,rfl,a2,_,[.ref t2],rfl,rfl,g4,by lia,by lia,by rw[en];show 1*n≤sizeLine;lia,λa3 k3=>?_⟩;rw[en,List.flatten_replicate_singleton];have u3:=aM.upd (o:=.lst (List.replicate n (.ref t2))) k3;refine⟨a1,a3,_,_,rfl,rfl,u3 _ _ g2,aX,by rw[ee];show 1+n≤sizeLine;lia,λa4 k4=>?_⟩;have u4:=aM.upd (o:=.lst ([V.ref t1]++List.replicate n (.ref t2))) k4;have sB:=sA.trans (u3.trans u4);have o9:=sB _ _ hl;have tj:cL (upd (upd H1 a3 (.lst (List.replicate n (.ref t2)))) a4 (.lst ([V.ref t1]++List.replicate n (.ref t2)))) ([V.ref t1]++List.replicate n (.ref t2)) ((Bx.dg::cg n).map Bx.bc):=by
   rw[nO];unfold cg;rw[List.map_replicate];exact cL.cons ((u3.trans u4) _ _ g1) (cL.rep ((u3.trans u4) _ _ g3) n)
  have g5:(upd (upd H1 a3 (.lst (List.replicate n (.ref t2)))) a4 (.lst ([V.ref t1]++List.replicate n (.ref t2)))) a4=some (.lst ([V.ref t1]++List.replicate n (.ref t2))):=aX;have MP:H' a4=none:=t8 (sA.trans u3) k4;generalize upd (upd H1 a3 (.lst (List.replicate n (.ref t2)))) a4 (.lst ([V.ref t1]++List.replicate n (.ref t2)))=H2 at sB o9 tj g5 ⊢;refine⟨ll,LS,.ref a4,rfl,rfl,o9,by have:=hL.1;lia,?_⟩;have XN:a4≠ll:=λe=>by rw[e,hl]at MP;cases MP
  have XO:kj (del ll (upd H2 ll (.lst (LS++[.ref a4])))) (LS++[.ref a4]) (ls++[Bx.dg::cg n]):=by
   rw[MM];exact(hL.mono (S21.aM.del sB)).snoc (by rw[uh XN];exact g5) (tj.del o9)
  refine MN (ls:=ls++[Bx.dg::cg n]) ((sm.trans sB).put hn) aX XO ⟨by lia,by lia⟩ ⟨?_,by simp,by rw[bQ];show _+1≤4;lia,by lia,by lia,by lia,by lia,.inr ⟨rfl,ls,rfl⟩⟩ q;rw[show L-1+1=L by lia];exact pT.snoc (XM (by lia))
theorem XQ(hs:cM K H as (ns.map V.int))(hz:ns.length≤63)(hn:H ll=none)(sm:aM H H')(hl:H' ll=some (.lst LS))(hL:kj (del ll H') LS ls)(pT:eS p L ls R)(ne:ls≠[])(len:ls.length≤3)(l1:1≤L)(l4:L≤4)(r1:1≤R)(r4:R≤4)
  (q:∀(t:Addr)(l r lp:Nat)(ls:List (List Bx)) H',aM H H'→iS K H' t l r lp ls→kn p l r lp ls→D.rt (.ref t) H') :
  Bp K D [some (.ref as),some (.int p),some (.int (L:Int)),some (.ref ll),some (.int (R:Int)),s5,s6,s7] H':=by
 unfold Bp lC;refine⟨_,rfl,as,ns,3,rfl,sm.sq (b:=true) hs,hz,by decide,by decide,λd d0 d1=>⟨_,_,rfl,rfl,(by show(0:Int)<2;decide),?_⟩⟩;have e0:0≤d%2:=jR _ (by decide);have e1:d%2<2:=jS _ (by decide);have off:uZ K D [some (.ref as),some (.int p),some (.int (L:Int)),some (.ref ll),some (.int (R:Int)),s5,s6,some (.int ((0:Nat):Int))] H':=MO hn sm hl hL pT ne len l1 l4 r1 r4 (.inl rfl) q;refine⟨_,rfl,rfl,_,rfl,?_⟩;refine j8 (λ_=>i7 off) (λnl=>?_);have nl:¬(V.int (L:Int)=V.int 1):=λh=>nl (aE h);refine⟨_,rfl,rfl,_,rfl,?_⟩;refine j8 (λ_=>off) (λnr=>?_);have nr:¬(V.int (R:Int)=V.int 1):=λh=>nr (aE h);have l2:L≠1:=λh=>nl (by rw[h];rfl);have r2:R≠1:=λh=>nr (by rw[h];rfl);have hc:d%2=((0:Nat):Int)∨d%2=((1:Nat):Int):=by lia
 show uZ K D [some (.ref as),some (.int p),some (.int (L:Int)),some (.ref ll),some (.int (R:Int)),s5,s6,some (.int (d%2))] H';rcases hc with e|e<;>rw[e]
 ·exact off
 ·exact MO hn sm hl hL pT ne len l1 l4 r1 r4 (.inr ⟨rfl,by lia,by lia⟩) q
theorem XR(h:xy K vs H Q E)(hD:D.rt=Q):u7 K D (L2.start Fe vs) H:=by
 obtain⟨as,ns,p,rfl,hs,hz,p2,cX,q⟩:=h;rw[← hD]at q;have z:(1000:Nat)≤sizeLine:=by decide
 show u7 K D [some (.ref as),some (.int p),none,none,none,none,none,none] H;unfold u7 lC;refine⟨_,rfl,as,ns,1,rfl,hs,hz,by decide,by decide,λd d0 d1=>⟨_,_,rfl,rfl,(by show(0:Int)<3;decide),_,_,rfl,rfl,?_⟩⟩;have e0:0≤d%3:=jR _ (by decide);have e1:d%3<3:=jS _ (by decide);obtain⟨L,hL,l1,l3⟩:∃L:Nat,1+d%3=(L:Int)∧1≤L∧L≤3:=⟨(1+d%3).toNat,by lia,by lia,by lia⟩;show(bZ (cy (g7 bo) (bq 3)) _) D [some (.ref as),some (.int p),some (.int (1+d%3)),none,none,none,none,none] H;rw[hL];refine⟨by decide,λll oC=>⟨_,rfl,?_⟩⟩;refine⟨_,rfl,as,ns,2,rfl,(aM.upd oC).sq (b:=true) hs,hz,by decide,by decide,λd' d0' d1'=>⟨_,_,rfl,rfl,(by show(0:Int)<3;decide),_,_,rfl,rfl,?_⟩⟩;have f0:0≤d' % 3:=jR _ (by decide);have f1:d' % 3<3:=jS _ (by decide);obtain⟨N,hN,n1,n3⟩:∃N:Nat,1+d' % 3=(N:Int)∧1≤N∧N≤3:=⟨(1+d' % 3).toNat,by lia,by lia,by lia⟩;refine⟨(N:Int),ao (λx=>[V.int x]) hN,by lia,by lia,qU (n:=N) (λi σ H'=>∃(R:Nat)(ls:List (List Bx))(LS:List V)(s5 s6:Option V),σ=[some (.ref as),some (.int p),some (.int (L:Int)),some (.ref ll),some (.int (R:Int)),s5,s6,none]∧aM H H'∧H' ll=some (.lst LS)∧kj (del ll H') LS ls∧eS p L ls R∧1≤R∧R≤4∧ls.length=i) ⟨L,[],[],none,none,rfl,.upd oC,aX,⟨rfl,λi v bs h=>by cases h⟩,rfl,l1,by lia,rfl⟩ ?_ ?_⟩
 ·rintro i σ H1 hi ⟨R,ls,LS,s5,s6,rfl,sm,hl,tS,pT,r1,r4,rfl⟩;rw[oQ];dsimp only[bq];unfold Fd Bn;refine⟨_,rfl,_,rfl,10,(ls.length:Int),rfl,rfl,.inl ⟨by decide,by decide⟩,20,_,rfl,rfl,_,rfl,_,rfl,as,ns,_,p,R,rfl,sm.sq (b:=true) hs,hz,by lia,by lia,p2,cX,r1,r4,λt lb VS bs r' H2 s2 jL ht hb hV ok=>?_⟩;refine⟨t,_,rfl,ht,rfl,_,_,rfl,_,_,rfl,rfl,?_⟩;have o9:=s2 _ _ hl;refine⟨_,rfl,.inl ⟨rfl,_,.of o9⟩,_,rfl,ll,LS,.ref lb,rfl,rfl,o9,by have:=tS.1;lia,?_⟩;have XT:lb≠ll:=λe=>by rw[e,hl]at jL;cases jL
  refine⟨r',ls++[bs],LS++[.ref lb],_,_,rfl,(sm.trans s2).put oC,aX,?_,pT.snoc ok,ok.r1,ok.r4,by rw[bQ];rfl⟩;rw[MM];exact(tS.mono (S21.aM.del s2)).snoc (by rw[uh XT];exact hb) (hV.del o9)
 ·rintro σ H1 ⟨R,ls,LS,s5,s6,rfl,sm,hl,tS,pT,r1,r4,e⟩;exact XQ hs hz oC sm hl tS pT (λz=>by rw[z]at e;have:0=N:=e;lia) (by lia) l1 (by lia) r1 r4 q
theorem XU(F:cC K "_law_layers" "_law_layers" zv f fd)(T:Txt mg)
  (GD:bu P w K mg base br 1 fD fH ["script","k"] (oA K)) (kD:Kp K fD) (bD:Binds K fH ["script","k"] []) (mD:Mg mg "_law_draw" fD)
  (GL:bu P w K mg base br 2 fL jI ["script","at","p","left"] (xw K)) (kL:Kp K fL) (bL:Binds K jI ["script","at","p","left"] []) (mL:Mg mg "_law_layer" fL) :
  bu P w K mg base br 3 f fd ["script","p"] (xy K):=
 XJ F T GD kD bD mD GL kL bL mL (λvs H Q E h=>by obtain⟨as,ns,p,rfl,_⟩:=h;rfl) λD vs H Q E h hD=>XR h hD
theorem Ff:∀(bs:List Bx)(b:Bx),(bN (bs++[b])).bc=gc "beside" (bs.map Bx.bc)++b.bc
 | [],b=>rfl
 | [x],b=>by
  show V.str "beside"::(x.bc++b.bc)=(V.str "beside"::(x.bc++[]))++b.bc;rw[gY];rfl
 |x::y::bs,b=>by
  show V.str "beside"::(x.bc++(bN (y::bs++[b])).bc)=_;rw[Ff (y::bs) b];show _=(V.str "beside"::x.bc)++gc "beside" ((y::bs).map Bx.bc)++b.bc;rw[dq];rfl
theorem Bq(b:Bx):b.bc.length≤2:=by
 cases b with
 |times n=>exact ck 2
 |_=>decide
theorem so:∀bs:List Bx,bs≠[]→(bN bs).bc.length≤3*bs.length
 | [],h=>absurd rfl h
 | [b],_=>by have:=Bq b;show b.bc.length≤3;lia
 |b::c::bs,_=>by
  have:=Bq b
  have ih:=so (c::bs) (by simp);show(V.str "beside"::(b.bc++(bN (c::bs)).bc)).length≤3*(bs.length+1+1);rw[eF,bQ];have e:(c::bs).length=bs.length+1:=rfl;lia
noncomputable abbrev bw(bs:List Bx):List V:=(bN bs).bc
theorem Fg:∀(ls:List (List Bx))(l:List Bx),(e9 (ls++[l])).bc=gc "then" (ls.map bw)++bw l
 | [],l=>rfl
 | [x],l=>by
  show V.str "then"::(bw x++bw l)=(V.str "then"::(bw x++[]))++bw l;rw[gY];rfl
 |x::y::ls,l=>by
  show V.str "then"::(bw x++(e9 (y::ls++[l])).bc)=_;rw[Fg (y::ls) l];show _=(V.str "then"::bw x)++gc "then" ((y::ls).map bw)++bw l;rw[dq];rfl
noncomputable def iT(l r lp:Nat)(ls:List (List Bx)):Drw:=if lp=0 then e9 ls else qr l r (e9 ls)
theorem MQ{d:List V}(ha:H a=some (.lst VS))(hV:cL H VS (es++[d]))(le:es.length≤50)(lw:∀e∈es,e.length≤50)(ld:d.length≤50)(q:rV H (gc "beside" es++d) Q):uM [.ref a] H Q E0:=by
 have ne:VS≠[]:=λe=>by have:=hV.1;rw[e]at this;simp at this
 obtain⟨jg,v,rfl⟩:∃jg v,VS=jg++[v]:=⟨VS.dropLast,VS.getLast ne,(vh ne).symm⟩;obtain⟨h1,b,rfl,hb⟩:=cL.init hV;exact⟨a,b,jg,es,d,rfl,ha,h1,hb,le,lw,ld,q⟩
theorem MR{bs:List Bx}(ha:H a=some (.lst VS))(hV:cL H VS (bs.map Bx.bc))(ok:lB p L R bs)(q:rV H (bw bs) Q):uM [.ref a] H Q E0:=by
 obtain⟨qv,b,rfl⟩:∃qv b,bs=qv++[b]:=⟨bs.dropLast,bs.getLast ok.ne,(vh ok.ne).symm⟩;unfold bw at q;rw[Ff]at q;rw[cW]at hV;have hl:=ok.len;rw[bQ]at hl;refine MQ ha hV (by rw[bz];lia) (λe he=>?_) (by have:=Bq b;lia) q;obtain⟨x,_,rfl⟩:=dU.mp he
 have:=Bq x
 lia
noncomputable abbrev Fh:List Str:=["case","left","right","loop","layers","words","boxes","first","last"]
theorem nH:c8 Fh ["case"] (bx zw):=dJ rfl rfl rfl (by decide +kernel) rfl
abbrev Fi(e:TE):TE:=fw uM [] E0 (aW e bo)
def Br:TE:=bI pO (bI pO (aO 5) (tW "then")) (Fi (aO 6))
def Bs(K:Frag):TE:=bI pO (aO 5) (Fi (bI (n5 K) (aO 4) Be))
def oM(t:TE)(i:Nat):TE:=Fi (bI n6 (g7 (aW t bo)) (bI Ck (g7 (aW (tW "id") bo)) (aO i)))
abbrev Fj:TE:=eB (aW (tC (.str "back")) (aW (tC (.str "cup")) bo))
def xA:TE:=bI pO (bI pO (bI pO (bI pO (tW "then") (aO 7)) (eB (aW (tC (.str "then")) (aW (tC (.str "beside")) (aW (tC (.str "id")) bo))))) (aO 5)) (aO 8)
def Bt:TS:=bZ (eU (gs (bI lJ (aO 3) (tC (.int 0)))) (eA (aO 5)) gR) (bZ (cy (oM (tW "cup") 1) (bq 7)) (bZ (cy (oM Fj 2) (bq 8)) (eA xA)))
def u9(K:Frag):TS:=bZ (cy (aO 0) (qS K 4 (iY (bq 1) (iY (bq 2) (iY (bq 3) (iY (bq 4) sW)))))) (bZ (cy (eB bo) (bq 5)) (bZ (qT (mH K (gu (yp K) (aO 4) iq (fi Be))) (bq 6) (cy Br (bq 5))) (bZ (cy (Bs K) (bq 5)) Bt)))
theorem XW{sp:Sp}(F:cC K "_law_words" "_law_words" zw f fd)
  (GB:bu P w K mg base br 1 fB jM ["parts"] uM) (kB:Kp K fB) (bB:Binds K jM ["parts"] []) (mB:Mg mg "_law_beside" fB)
  (len:∀vs H Q E,sp vs H Q E→vs.length=1) (rd:∀(D:Ends) vs H Q E,sp vs H Q E→D.rt=Q→u9 K D (L2.start Fh vs) H) :
  bu P w K mg base br 2 f fd ["case"] sp:=by
 refine F.ok nH (λvs H Q E h=>len vs H Q E h) (λbV A outer s H vs Q E hr h=>?_);refine⟨u9 K,?_,rd _ vs H Q E h rfl⟩;unfold u9;refine bh ?_ ?_
 ·exact sX (pv 0) (pj (n:=4) K rfl rfl (eV (cq (i:=1) nH.nd rfl (.inl rfl)) (eV (cq (i:=2) nH.nd rfl (.inl rfl)) (eV (cq (i:=3) nH.nd rfl (.inl rfl)) (eV (cq (i:=4) nH.nd rfl (.inl rfl)) oY)))))
 refine bh ?_ ?_
 ·exact bY (i:=5) (te:=eB bo) nH.nd rfl (.inl rfl) (cB aR)
 refine bh ?_ ?_
 ·refine jZ kr rfl (ja K rfl (eN (CU K rfl) (pv 4) gn (dP (mI mJ aU)))) (cq (i:=6) nH.nd rfl (.inl rfl)) ?_;refine bK ?_;refine bY (i:=5) (te:=Br) nH.nd rfl (.inl rfl) ?_ ?_ ?_
  ·unfold Br;refine aY nC (aY nC (pv 5) (cB (aL cP aR))) ?_;exact cT GB hr rfl mB kB bB .nil cU (aL (pv 6) aR)
  ·rfl
  ·exact .inl rfl
 refine bh ?_ ?_
 ·refine bY (i:=5) (te:=Bs K) nH.nd rfl (.inl rfl) ?_ ?_ ?_
  ·unfold Bs;refine aY nC (pv 5) ?_;exact cT GB hr rfl mB kB bB .nil cU (aL (cf (e7 K rfl) (pv 4) (mI mJ aU) (λ_ _=>rfl)) aR)
  ·rfl
  ·exact .inl rfl
 unfold Bt;refine bh ?_ ?_
 ·refine dX ?_ ?_ fg
  ·exact de gF (pv 3) aU (da _)
  ·exact bK (cQ (pv 5))
 refine bh ?_ ?_
 ·refine bY (i:=7) (te:=oM (tW "cup") 1) nH.nd rfl (.inl rfl) ?_ ?_ ?_
  ·unfold oM;refine cT GB hr rfl mB kB bB .nil cU ?_;refine aL ?_ aR ?_
   ·exact aY n8 (gk (aL (cB (aL cP aR)) aR)) (aY Cm (gk (aL (cB (aL cP aR)) aR)) (pv 1))
   ·rfl
  ·rfl
  ·exact .inl rfl
 refine bh ?_ ?_
 ·refine bY (i:=8) (te:=oM Fj 2) nH.nd rfl (.inl rfl) ?_ ?_ ?_
  ·unfold oM;refine cT GB hr rfl mB kB bB .nil cU ?_;refine aL ?_ aR ?_
   ·exact aY n8 (gk (aL (cB (aL cP (aL cP aR))) aR)) (aY Cm (gk (aL (cB (aL cP aR)) aR)) (pv 2))
   ·rfl
  ·rfl
  ·exact .inl rfl
 refine bK ?_;refine cQ (te:=xA) ?_;unfold xA;refine aY nC (aY nC (aY nC (aY nC (cB (aL cP aR)) (pv 7)) ?_) (pv 5)) (pv 8);refine cB ?_;exact aL cP (aL cP (aL cP aR))
def xB(K:Frag):Sp:=λvs H Q _=>∃(p:Int)(ac:Addr)(l r lp:Nat)(ls:List (List Bx)),vs=[.ref ac]∧iS K H ac l r lp ls∧kn p l r lp ls∧rV H (iT l r lp ls).bc Q
theorem eS.at'{p:Int}:∀{L R:Nat}{ls:List (List Bx)},eS p L ls R→∀bs∈ls,∃a b,lB p a b bs
 |_,_,[],_,bs,h=>by cases h
 |_,_,x::ls,⟨m,a,b⟩,bs,h=>by
  rcases(dS.mp h)with(rfl|h)
  ·exact⟨_,_,a⟩
  ·exact eS.at' b bs h
theorem MT{te:TE}{n:Nat}{b:List V}(Fl:∀(H':Hp)(R:VK),aM H H'→(∀t,H' t=none→R (.ref t) (upd H' t (.tup b)))→te σ H' R)(hi:σ[i]?=some (some (.int ((n+1:Nat):Int))))(hn:n≤10)(hb:b.length≤10)
  (q:rV H (.str "beside"::(b++bw (cg (n+1)))) Q):oM te i σ H Q:=by
 have z:(1000:Nat)≤sizeLine:=by decide
 unfold oM;refine Fl H _ (.refl _) λt1 h1=>⟨by show 1≤sizeLine;lia,λa1 k1=>⟨by show 1≤sizeLine;lia,λt2 h2=>⟨by show 1≤sizeLine;lia,λa2 k2=>?_⟩⟩⟩;have s1:=aM.upd (o:=.tup b) h1;have u1:=aM.upd (o:=.lst [.ref t1]) k1;have s2:=aM.upd (o:=.tup [.str "id"]) h2;have u2:=aM.upd (o:=.lst [.ref t2]) k2;have sA:=s1.trans (u1.trans (s2.trans u2));have g1:=(u1.trans (s2.trans u2)) _ _ (aX (H:=H) (a:=t1) (o:=.tup b));have g2:=(s2.trans u2) _ _ (aX (H:=upd H t1 (.tup b)) (a:=a1) (o:=.lst [.ref t1]));have g3:=u2 _ _ (aX (H:=upd (upd H t1 (.tup b)) a1 (.lst [.ref t1])) (a:=t2) (o:=.tup [.str "id"]));have g4:=aX (H:=upd (upd (upd H t1 (.tup b)) a1 (.lst [.ref t1])) t2 (.tup [.str "id"])) (a:=a2) (o:=.lst [.ref t2]);generalize upd (upd (upd (upd H t1 (.tup b)) a1 (.lst [.ref t1])) t2 (.tup [.str "id"])) a2 (.lst [.ref t2])=H1 at sA g1 g2 g3 g4 u2 ⊢;have en:(((n+1:Nat):Int)).toNat=n+1:=by lia
 refine⟨_,hi,a2,_,[.ref t2],rfl,rfl,g4,by lia,by lia,by rw[en];show 1*(n+1)≤sizeLine;lia,λa3 k3=>?_⟩;rw[en,List.flatten_replicate_singleton];have u3:=aM.upd (o:=.lst (List.replicate (n+1) (.ref t2))) k3;refine⟨a1,a3,_,_,rfl,rfl,u3 _ _ g2,aX,by rw[ee];show 1+(n+1)≤sizeLine;lia,λa4 k4=>?_⟩;have u4:=aM.upd (o:=.lst ([V.ref t1]++List.replicate (n+1) (.ref t2))) k4;have su:=u3.trans u4;refine MQ (es:=b::List.replicate n [.str "id"]) (d:=[.str "id"]) aX ?_ (by rw[eF,ee];lia) (λe he=>?_) (by decide) λpz H3 s3 hp=>?_
 ·have:=cL.cons (su _ _ g1) (cL.rep (su _ _ g3) (n+1))
  rw[List.replicate_succ' (a:=[V.str "id"])]at this;exact this
 ·rcases(dS.mp he)with(rfl|he)
  ·lia
  ·rw[vg he];decide
 ·refine q pz H3 (sA.trans (su.trans s3)) ?_;rw[hp];have e:bw (cg (n+1))=gc "beside" (List.replicate n [.str "id"])++[.str "id"]:=by
   unfold bw cg;rw[List.replicate_succ',Ff,List.map_replicate];rfl
  rw[e];show _=some (HO.tup (.str "beside"::(b++(gc "beside" (List.replicate n [.str "id"])++[.str "id"]))));rw[← dq];rfl
theorem XX{lw:Addr}{l r:Nat}{s8:Option V}(sm:aM H H')(ok:kn p l r lp ls)(hw:H' lw=some (.tup (e9 ls).bc))(wl:(e9 ls).bc.length≤500)
  (q:rV H (iT l r lp ls).bc D.rt):Bt D [some (.ref ac),some (.int (l:Int)),some (.int (r:Int)),some (.int (lp:Int)),some (.ref al),some (.ref lw),s6,s7,s8] H':=by
 have z:(1000:Nat)≤sizeLine:=by decide
 unfold Bt;refine⟨_,rfl,rfl,_,rfl,?_⟩;rcases ok.sk with rfl|⟨rfl,_⟩
 ·refine pG ⟨_,rfl,q lw H' sm hw⟩
 ·rw[aa (by decide)];refine eP ?_;have l1:=ok.l1;have r1:=ok.r1;have l4:=ok.l4;have r4:=ok.r4;obtain⟨n,rfl⟩:∃n,l=n+1:=⟨l-1,by lia⟩;obtain⟨m,rfl⟩:∃m,r=m+1:=⟨r-1,by lia⟩;show oM (tW "cup") 1 _ H' _;refine MT (b:=[.str "cup"]) (n:=n) (λH1 R _ h=>⟨by show 1≤sizeLine;lia,h⟩) rfl (by lia) (by decide) λf H2 s2 hf=>?_;show oM Fj 2 _ H2 _;refine MT (b:=[.str "back",.str "cup"]) (n:=m) (λH1 R _ h=>⟨by show 2≤sizeLine;lia,h⟩) rfl (by lia) (by decide) λg H3 s3 hg=>?_;show xA _ _ _;unfold xA;have w1:(bw (cg (n+1))).length≤3*(n+1):=by have:=so (cg (n+1)) (by unfold cg;simp);unfold cg at this;rw[ee]at this;exact this
  have w2:(bw (cg (m+1))).length≤3*(m+1):=by have:=so (cg (m+1)) (by unfold cg;simp);unfold cg at this;rw[ee]at this;exact this
  refine⟨by show 1≤sizeLine;lia,λt1 h1=>⟨_,rfl,t1,f,_,_,rfl,rfl,aX,((s3.trans (.upd h1)) _ _ hf),?_,λt2 H4 s4 h2=>⟨by show 3≤sizeLine;lia,λt3 h3=>⟨t2,t3,_,_,rfl,rfl,aM.upd h3 _ _ h2,aX,?_,λt4 H5 s5 h4=>?_⟩⟩⟩⟩
  ·simp only[eF,bQ,pU];lia
  ·simp only[eF,bQ,pU];lia
  have sB:=(aM.upd (o:=.tup [.str "then"]) h1).trans (s4.trans ((aM.upd (o:=.tup [.str "then",.str "beside",.str "id"]) h3).trans s5));refine⟨_,rfl,t4,lw,_,_,rfl,rfl,h4,((s2.trans s3).trans sB) _ _ hw,?_,λt5 H6 MU h5=>⟨_,rfl,t5,g,_,_,rfl,rfl,h5,(sB.trans MU) _ _ hg,?_,λt6 H7 r6 h6=>?_⟩⟩
  ·simp only[eF,bQ,pU];lia
  ·simp only[eF,bQ,pU];lia
  refine q t6 H7 (sm.trans (s2.trans (s3.trans (sB.trans (MU.trans r6))))) ?_;rw[h6];show some (HO.tup _)=some (HO.tup (iT (n+1) (m+1) 1 ls).bc);unfold iT;rw[ah (by decide)];refine ao (λx=>some (HO.tup x)) ?_;show _=V.str "then"::((V.str "beside"::([V.str "cup"]++bw (cg (n+1))))++(V.str "then"::((V.str "beside"::([V.str "id"]++(e9 ls).bc))++(V.str "beside"::((V.str "back"::[V.str "cup"])++bw (cg (m+1)))))));simp only[dq,List.cons_append,List.nil_append]
theorem XY(h:xB K vs H Q E)(hD:D.rt=Q):u9 K D (L2.start Fh vs) H:=by
 obtain⟨p,ac,l,r,lp,ls,rfl,⟨al,LS,h1,h2,h3⟩,ok,q⟩:=h;rw[← hD]at q;have z:(1000:Nat)≤sizeLine:=by decide
 obtain⟨dC,last,rfl⟩:∃dC last,ls=dC++[last]:=⟨ls.dropLast,ls.getLast ok.ne,(vh ok.ne).symm⟩;have pV:LS≠[]:=λe=>by have:=h3.1;rw[e,bQ]at this;simp at this
 obtain⟨jQ,v,rfl⟩:∃jQ v,LS=jQ++[v]:=⟨LS.dropLast,LS.getLast pV,(vh pV).symm⟩;have ll:jQ.length=dC.length:=by have:=h3.1;simpa using this
 have l4:dC.length+1≤4:=by have:=ok.len;rwa[bQ]at this
 obtain⟨c,VS,rfl,hc,hV⟩:=h3.2 jQ.length v last (by simp) (by rw[ll];simp);have Fm:∀bs∈dC++[last],(bw bs).length≤15∧∃a b,lB p a b bs:=λbs hb=>by
  obtain⟨a,b,o⟩:=eS.at' ok.ko bs hb
  have:=so bs o.ne
  have:=o.len
  exact⟨by unfold bw;lia,a,b,o⟩
 have pl:∀i,(gc "then" ((dC.take i).map bw)).length≤64:=λi=>by
  have:=AO (z := "then") (B:=15) ((dC.take i).map bw) λe he=>by
   obtain⟨x,hx,rfl⟩:=dU.mp he;exact(Fm x (mh _ (jU hx))).1
  have:((dC.take i).map bw).length≤3:=by rw[bz,cV];lia
  lia
 show u9 K D [some (.ref ac),none,none,none,none,none,none,none,none] H;unfold u9;refine⟨_,rfl,ac,_,rfl,h1,rfl,_,_,rfl,_,_,rfl,_,_,rfl,_,_,rfl,rfl,?_⟩;refine⟨by decide,λl0 h0=>?_⟩;have s0:aM H (upd H l0 (.tup [])):=.upd h0;have g0:(upd H l0 (.tup [])) l0=some (.tup (gc "then" [])):=aX;generalize upd H l0 (.tup [])=H0 at s0 g0 ⊢;refine⟨_,rfl,_,rfl,_,rfl,al,_,rfl,.of (s0 _ _ h2),λl1 k1=>?_⟩;rw[show(-1:Int)=-1 from rfl,L5]
 have s1:aM H (upd H0 l1 (.lst jQ)):=s0.trans (.upd k1);have g1:(upd H0 l1 (.lst jQ)) l1=some (.lst jQ):=aX;have xb:(upd H0 l1 (.lst jQ)) l0=some (.tup (gc "then" ((dC.take 0).map bw))):=aM.upd k1 _ _ g0;generalize upd H0 l1 (.lst jQ)=H1 at s1 g1 xb ⊢;refine⟨l1,rfl,⟨_,.of g1⟩,x5 (xs:=jQ) (λi σ H'=>aM H1 H'∧∃lw s6,σ=[some (.ref ac),some (.int (l:Int)),some (.int (r:Int)),some (.int (lp:Int)),some (.ref al),some (.ref lw),s6,none,none]∧H' lw=some (.tup (gc "then" ((dC.take i).map bw)))) ⟨.refl _,l0,none,rfl,xb⟩ (λi σ H' _ ⟨sm,_⟩=>.of (sm _ _ g1)) ?_ ?_⟩
 ·rintro i x σ H2 hx ⟨sm,lw,s6,rfl,g⟩;have hi:i<dC.length:=by rw[← ll];exact(gi.mp hx).1
  have xn:dC[i]?=some dC[i]:=cE hi;obtain⟨cb,VB,rfl,XZ,X0⟩:=h3.2 i x dC[i] (by rw[gz (by lia)];exact hx) (by rw[gz hi];exact xn);obtain⟨w5,a,b,o⟩:=Fm dC[i] (mh _ (jh hi));have hp:=pl i;dsimp only[bq];unfold Br;refine⟨_,rfl,by show 1≤sizeLine;lia,λt ht=>⟨_,_,_,_,rfl,rfl,aM.upd ht _ _ g,aX,by show _+1≤sizeLine;lia,λt2 H3 s3 k3=>?_⟩⟩;have xf:=(aM.upd ht).trans s3;have sC:=s1.trans (sm.trans xf);refine⟨_,rfl,MR (sC _ _ XZ) (X0.mono sC) o λt3 H4 s4 k4=>?_⟩;refine⟨_,_,_,_,rfl,rfl,s4 _ _ k3,k4,by rw[bQ];show _+1+_≤sizeLine;lia,λt5 H5 s5 k5=>?_⟩;refine⟨sm.trans (xf.trans (s4.trans s5)),t5,_,rfl,?_⟩;rw[k5,gq,xn];show _=some (HO.tup (gc "then" ((dC.take i++[dC[i]]).map bw)));rw[cW];show _=some (HO.tup (gc "then" ((dC.take i).map bw++[bw dC[i]])));rw[L4]
 rintro σ H2 ⟨sm,lw,s6,rfl,g⟩;rw[ll,kq]at g;have sc:=s1.trans sm;obtain⟨w5,a,b,o⟩:=Fm last (by simp);have hp:=pl dC.length;rw[kq]at hp;unfold Bs;refine⟨_,rfl,_,rfl,_,rfl,al,_,-1,_,rfl,rfl,.of (sc _ _ h2),yn _ _,MR (sc _ _ hc) (hV.mono sc) o λt3 H3 s3 k3=>?_⟩;refine⟨_,_,_,_,rfl,rfl,s3 _ _ g,k3,by lia,λt4 H4 s4 k4=>?_⟩;rw[← Fg]at k4;refine XX (sc.trans (s3.trans s4)) ok k4 ?_ q;rw[Fg,bQ];lia
theorem X1(F:cC K "_law_words" "_law_words" zw f fd)
  (GB:bu P w K mg base br 1 fB jM ["parts"] uM) (kB:Kp K fB) (bB:Binds K jM ["parts"] []) (mB:Mg mg "_law_beside" fB) :
  bu P w K mg base br 2 f fd ["case"] (xB K):=
 XW F GB kB bB mB (λvs H Q E h=>by obtain⟨p,ac,l,r,lp,ls,rfl,_⟩:=h;rfl) λD vs H Q E h hD=>XY h hD
section
variable{p:Int}
theorem X2{m:Nat}{bs:List Bx}{k a:List Int}(p0:0<p)(o:lB p L m bs)(hg:g.length=L)(ig:eE p g)(ik:eE p k)(hk:a.length+c9 bs≤k.length) :
  (layB p k (g,a) bs).1.length=m∧eE p (layB p k (g,a) bs).1∧(layB p k (g,a) bs).2.length=a.length+c9 bs:=by
 obtain⟨e1,e2⟩:=sg bs o.ne;have el:(bN bs).aK=L:=(ao Prod.fst e1).trans o.l;have er:(bN bs).aN=m:=(ao Prod.snd e1).trans o.rr;have lk:((k.drop a.length).take (bN bs).aJ).length=(bN bs).aJ:=by rw[cV,eJ,e2];lia
 obtain⟨l1,l2⟩:=(uE o.wf).len g _ (hg.trans el.symm) lk;obtain⟨r1,_⟩:=AK p0 bs g _ ig (AJ (uJ ik a.length) (bN bs).aJ);rw[EW]at l1 l2 r1;rw[EX o.ne];refine⟨by rw[← er];exact l1,r1,?_⟩;show(a++_:List Int).length=_;rw[bQ,l2,e2]
theorem MV(p0:0<p){k:List Int}(ik:eE p k):∀(ls:List (List Bx))(L R:Nat)(g a:List Int),eS p L ls R→L≤4→g.length=L→eE p g→a.length+cS ls≤k.length→
  (∀(i:Nat)(bs:List Bx),ls[i]?=some bs→eE p ((ls.take i).foldl (layB p k) (g,a)).1∧((ls.take i).foldl (layB p k) (g,a)).1.length≤4∧fK bs≤((ls.take i).foldl (layB p k) (g,a)).1.length∧((ls.take i).foldl (layB p k) (g,a)).2.length+c9 bs≤k.length∧bs.length≤5∧∀b∈bs,b.wf p)∧
  (ls.foldl (layB p k) (g,a)).1.length=R∧(ls.foldl (layB p k) (g,a)).2.length=a.length+cS ls
 | [],L,R,g,a,h,_,hg,_,_=>⟨λi bs e=>(by cases e),hg.trans h,rfl⟩
 |x::ls,L,R,g,a,⟨m,o,h⟩,l4,hg,ig,hk=>by
  have e:cS (x::ls)=c9 x+cS ls:=rfl;obtain⟨s1,s2,s3⟩:=X2 (a:=a) p0 o hg ig ik (by lia);have ih:=MV p0 ik ls m R (layB p k (g,a) x).1 (layB p k (g,a) x).2 h o.r4 s1 s2 (by lia);refine⟨λi bs hb=>?_,ih.2.1,by rw[e,List.foldl_cons];exact ih.2.2.trans (by lia)⟩;cases i with
  |zero=>
   cases hb;exact⟨ig,by show g.length≤4;lia,by show _≤g.length;rw[o.l];lia,by show a.length+_≤_;lia,o.len,o.wf⟩
  |succ i=>exact ih.1 i bs hb
theorem eS.Fc(h:eS p L ls R):∀bs∈ls,∀b∈bs,b.wf p:=λbs hb=>let ⟨_,_,o⟩:=eS.at' h bs hb;o.wf
theorem eS.ne'(h:eS p L ls R):∀bs∈ls,bs≠[]:=λbs hb=>let ⟨_,_,o⟩:=eS.at' h bs hb;o.ne
theorem eS.dD:∀{ls:List (List Bx)}{L R:Nat},eS p L ls R→ls≠[]→L≤4→Met ls∧(e9 ls).aK=L∧(e9 ls).aN=R∧(∀bs∈ls,fK bs≤100∧km bs≤100)
 | [],_,_,_,h,_=>absurd rfl h
 | [x],L,R,⟨m,o,h⟩,_,l4=>by
  obtain⟨e1,_⟩:=sg x o.ne;have h:m=R:=h;refine⟨trivial,(ao Prod.fst e1).trans o.l,(ao Prod.snd e1).trans (o.rr.trans h),λbs hb=>?_⟩;rw[dI.mp hb,o.l,o.rr]
  have:=o.r4
  lia
 |x::y::xs,L,R,⟨m,o,h⟩,_,l4=>by
  obtain⟨e1,_⟩:=sg x o.ne;obtain⟨i1,i2,i3,i4⟩:=eS.dD (ls:=y::xs) h (by simp) o.r4;refine⟨⟨?_,i1⟩,(ao Prod.fst e1).trans o.l,i3,λbs hb=>?_⟩
  ·rw[← Lo y xs,i2];exact(ao Prod.snd e1).trans o.rr
  ·rcases(dS.mp hb)with(rfl|hb)
   ·rw[o.l,o.rr]
    have:=o.r4
    lia
   ·exact i4 bs hb
theorem X3(bs:List Bx):c9 bs≤bs.length:=by
 induction bs with
 |nil=>exact ck 0
 |cons b bs ih=>
  have:=b.E2
  show b.n+c9 bs≤bs.length+1;lia
theorem eS.aJ:∀{ls:List (List Bx)}{L R:Nat},eS p L ls R→cS ls≤5*ls.length
 | [],_,_,_=>ck 0
 |x::ls,L,R,⟨m,o,h⟩=>by
  have ih:=eS.aJ h
  have:=X3 x
  have:=o.len
  show c9 x+cS ls≤5*(ls.length+1);lia
noncomputable def qw(p:Int)(lp:Nat)(ls:List (List Bx)):gU:=if lp=0 then jf p ls else wR (jf p ls)
structure X4(p:Int)(l r lp:Nat)(ls:List (List Bx)):Prop where
 ok:iE p (iT l r lp ls) (qw p lp ls)
 lf:(iT l r lp ls).aK=l
 rg:(iT l r lp ls).aN=r
 la:(iT l r lp ls).aJ=cS ls
 sm:(iT l r lp ls).sm
 rn:ki p (qw p lp ls)
 le:cS ls≤20
theorem MW(p0:0<p){l r:Nat}(h:kn p l r lp ls):X4 p l r lp ls:=by
 obtain⟨s1,s2,s3,s4⟩:=h.ko.dD h.ne h.l4;have ok:=Lp h.ko.Fc s1;have la:(e9 ls).aJ=cS ls:=MB ls h.ne h.ko.ne';have sm:=MC ls s4;have rn:=LX p0 ls;have le:cS ls≤20:=by have:=h.ko.aJ;have:=h.len;lia
 have l4:=h.l4;have r4:=h.r4;rcases h.sk with rfl|⟨rfl,xs,e⟩
 ·exact⟨ok,s2,s3,la,sm,rn,le⟩
 ·have k1:(qr l r (e9 ls)).aJ=(e9 ls).aJ:=Lv h.l1 h.r1;obtain⟨k2,k3⟩:=Lw (W:=e9 ls) h.l1 h.r1;refine⟨?_,k2,k3,k1.trans la,?_,Wx p0 rn,le⟩
  ·refine V3 h.l1 h.r1 ok s2 s3 la λs g k hg hk=>?_;rw[← la]at hk;rw[e]at hk ⊢;exact WZ hk (W0 r).1
  ·exact Xn sm h.l1 h.r1 (by lia) (by lia) (by lia) (by lia)
theorem MX(p0:0<p){l r:Nat}(h:kn p l r lp ls){x k:List Int}(hx:x.length=l)(hk:k.length=cS ls)(ix:eE p x)(ik:eE p k) :
  xp p k (fJ lp x k) ls∧lp≤(dF p k (fJ lp x k) ls ls.length).1.length∧(dF p k (fJ lp x k) ls ls.length).1.length≤100∧(dF p k (fJ lp x k) ls ls.length).2.length≤100∧
   yT p lp ls x k=(qw p lp ls x k).1∧aT p lp ls x k=(qw p lp ls x k).2:=by
 have gl:(fJ lp x k).length=l+lp∧eE p (fJ lp x k):=by
  rcases h.sk with rfl|⟨rfl,_⟩
  ·exact⟨hx,ix⟩
  ·exact⟨by show(_::x).length=_;rw[eF,hx],mf (oJ (LZ p0 ik)) ix⟩
 obtain⟨g1,g2,g3⟩:=MV p0 ik ls (l+lp) (r+lp) (fJ lp x k) [] h.ko h.l4 gl.1 gl.2 (by rw[hk];show 0+_≤_;lia);have le:cS ls≤20:=by have:=h.ko.aJ;have:=h.len;lia
 have r4:=h.r4;have st:dF p k (fJ lp x k) ls ls.length=((jf p ls (fJ lp x k) k).1,(jf p ls (fJ lp x k) k).2):=by
  unfold dF;rw[kq,Mo ls _ k [] h.ne h.ko.ne'];rfl
 have sf:dF p k (fJ lp x k) ls ls.length=ls.foldl (layB p k) (fJ lp x k,[]):=by unfold dF;rw[kq]
 refine⟨λi bs hb=>?_,by rw[sf,g2];lia,by rw[sf,g2];lia,by rw[sf,g3];show 0+_≤100;lia,?_,?_⟩
 ·obtain⟨a1,a2,a3,a4,a5,a6⟩:=g1 i bs hb;exact⟨a1,ft a2 (by decide),a3,a4,ft a5 (by decide),a6⟩
 ·unfold yT;rw[st];rcases h.sk with rfl|⟨rfl,_⟩
  ·rfl
  ·rfl
 ·unfold aT;rw[st];rcases h.sk with rfl|⟨rfl,_⟩
  ·rfl
  ·rfl
theorem MY:∀n,c9 (cg n)=0
 |0=>rfl
 |n+1=>by
  have:Bx.id.n=0:=by decide +kernel
  show Bx.id.n+c9 (cg n)=0;rw[MY n,this]
theorem MZ(n:Nat):c9 (Bx.dg::cg n)=1:=by
 have:Bx.dg.n=1:=by decide +kernel
 show Bx.dg.n+c9 (cg n)=1;rw[MY n,this]
theorem X5(xs:List (List Bx))(l:List Bx):cS (xs++[l])=cS xs+c9 l:=by
 unfold cS;rw[cW,List.sum_append];show _+(c9 l+0)=_;lia
theorem X6{l r:Nat}(h:kn p l r lp ls):lp=0∨(lp=1∧1≤cS ls∧∃dC last,ls=dC++[last]∧c9 last=1∧last.length≤100):=by
 have r4:=h.r4;rcases h.sk with rfl|⟨rfl,xs,e⟩
 ·exact .inl rfl
 ·refine .inr ⟨rfl,?_,xs,_,e,MZ r,?_⟩
  ·rw[e,X5,MZ];lia
  ·unfold cg;rw[eF,ee];lia
end
def Bu(K:Frag):Sp:=λvs H Q _=>∃(p:Int)(a:Addr)(RS:List V)(rs:LL),vs=[.ref a,.int p]∧aZ K H a RS∧bG K H RS (rs.map cG)∧(∀r∈rs,∀x∈r,0≤x∧x<p)∧Q (.bl true) H
theorem Fo:c8 ["found","p","row","number"] ["found","p"] (bx Dy):=dJ rfl rfl rfl (by decide +kernel) rfl
theorem X7(F:cC K "_law_shaped" "_law_shaped" Dy f fd)(T:Txt mg):bu P w K mg base br 1 f fd ["found","p"] (Bu K):=by
 refine F.ok Fo (λvs H Q E h=>?_) (λbV A outer s H vs Q E hr h=>?_)
 ·obtain⟨p,a,RS,rs,rfl,_⟩:=h;rfl
 ·obtain⟨p,a,RS,rs,rfl,hq,hA,hR,q⟩:=h;refine⟨_,bh (dX (vx (qQ (gm (IE (T := "tuple") K rfl) rfl T.isinstance vS (aL (pv 0) (aL (vR rfl T.tuple mZ) aR))))) (bK (cQ vt)) fg) (bh (jZ kr rfl (lQ K rfl (pv 0)) (cq (i:=2) Fo.nd rfl (.inl rfl)) (bh (dX (vx (qQ (gm (IE (T := "tuple") K rfl) rfl T.isinstance vS (aL (pv 2) (aL (vR rfl T.tuple mZ) aR))))) (bK (cQ vt)) fg) (bK (jZ kr rfl (lQ K rfl (pv 2)) (cq (i:=3) Fo.nd rfl (.inl rfl)) (bK (dX (PW.pt (xW (vx (qQ (gm (IF (T := "int") K rfl) rfl T.isinstance vS (aL (pv 3) (aL (vR rfl T.int yO) aR))))) (xW (qQ (gm (IF (T := "bool") K rfl) rfl T.isinstance vS (aL (pv 3) (aL (vR rfl T.bool Rn) aR)))) (xW (de x9 (pv 3) aU (da _)) (Gh (de ON (pv 3) (pv 1) (da _))))))) (bK (cQ vt)) fg)))))) (bK (cQ vt))),?_⟩;refine⟨_,rfl,a,_,true,rfl,hq,IC K,true,rfl,eP ?_⟩;refine⟨_,rfl,a,rfl,⟨_,hq⟩,Gw (xs:=RS) (λi σ H'=>H'=H∧∃s2 s3,σ=[some (.ref a),some (.int p),s2,s3]) ⟨rfl,none,none,rfl⟩ (λi σ H' _ ⟨e,_⟩=>by rw[e];exact hq) ?_ ?_⟩
  ·rintro i x σ H' hx ⟨rfl,s2,s3,rfl⟩;obtain⟨r,ra,lZ,rfl,dy⟩:=om hA hx;have jw:=hR r (gj lZ);dsimp only[bq];refine⟨_,rfl,ra,_,true,rfl,dy,IC K,true,rfl,eP ?_⟩;refine⟨_,rfl,ra,rfl,⟨_,dy⟩,Gw (xs:=r.map V.int) (λj σ iO=>iO=H'∧∃s3,σ=[some (.ref a),some (.int p),some (.ref ra),s3]) ⟨rfl,s3,rfl⟩ (λj σ iO _ ⟨e,_⟩=>by rw[e];exact dy) ?_ ?_⟩
   ·rintro j y σ iO hy ⟨rfl,s3,rfl⟩;rw[eI]at hy;obtain⟨n,hn,rfl⟩:∃n,r[j]?=some n∧y=.int n:=by
     cases e:r[j]? with
     |none=>rw[e]at hy;cases hy
     |some n=>rw[e]at hy;exact⟨n,rfl,(dj hy).symm⟩
    obtain⟨n0,np⟩:=jw n (gj hn);refine⟨_,rfl,n,true,rfl,IA K,true,rfl,eP ?_⟩;refine⟨_,rfl,n,false,rfl,Rg K,false,rfl,eP ?_⟩;refine⟨_,rfl,n,0,rfl,rfl,_,rfl,?_⟩;rw[aa (show ¬n<0 by lia)];refine eP ⟨_,rfl,_,rfl,n,p,rfl,rfl,_,rfl,?_⟩;rw[aa (show ¬p≤n by lia)];exact eP ⟨rfl,_,rfl⟩
   ·rintro σ iO ⟨rfl,s3,rfl⟩;exact⟨rfl,_,_,rfl⟩
  ·rintro σ H' ⟨rfl,s2,s3,rfl⟩;exact q
theorem M0{z:Str}(h:ws[i]?=some v):cO z (ws.take (i+1))=cO z (ws.take i)+if hI v (.str z)=true then 1 else 0:=by
 rw[gq,h,wW];show _+cO z [v]=_;rw[AD];show _+(0+_)=_;rw[Nat.zero_add]
theorem X8:kf "late"=0:=by decide +kernel
theorem X9{fF fX:Addr}{wy M1:FuncData}(F:cC K "ticks" "ticks" iM f fd)(gQ:fd.code=.ref c)(C:CodeHd base c Pt)(BB:qa mg base)
  (GF:rq P w K mg base 10 fF wy ["words","made"] (DY 8 P w K mg base)) (kF:Kp K fF) (bF:Binds K wy ["words","made"] []) (mF:Mg mg "folded" fF)
  (GX:bu P w K mg base br 7 fX M1 ["p","words","place","parts"] (Lx K)) (kX:Kp K fX) (bX:Binds K M1 ["p","words","place","parts"] []) (mX:Mg mg "tick_form" fX)
  (GD:bu P w K mg base br 3 fD fH ["p","rows"] (pA K)) (kD:Kp K fD) (bD:Binds K fH ["p","rows"] []) (mD:Mg mg "reduced" fD) :
  bu P w K mg base br 11 f fd ["p","words"] (AE K Pt):=by
 refine F.Sn uI (λvs H Q E h=>?_) (λbV A outer s H vs Q E Ya hr h=>?_)
 ·obtain⟨p,aw,d,rfl,_⟩:=h;rfl
 ·obtain⟨p,aw,d,rfl,pp,hd,M3,Yb,qx,ma,M4,q⟩:=h;have xU:bV=.ref c:=Ya.symm.trans gQ;subst xU;have xC:dt 3 _:=hr.mono (by decide);refine⟨_,bh (bY (i:=2) (te:=uz uA (aO 1) (aW (tC (.str "late")) bo)) uI.nd rfl (.inl rfl) (En PySem.F.slot_tuple_count PySem.F.type_tuple_count Eo (pv 1) (aL cP aR))) (bh (bY (i:=3) uI.nd rfl (.inl rfl) (Dg GF hr rfl mF kF bF (aL (pv 1) (aL (Sd (c:=c) (Pt:=Pt) (cl:=w6 s.heap.objs.size) rfl C BB Wg) aR)))) (bh (bY (i:=4) (te:=df K 3 0) uI.nd rfl (Or.inr rfl) (cf (cJ K rfl) (pv 3) aU (λ_ _=>rfl))) (bh (bY (i:=5) (te:=e8 (aO 4) (df K 3 1)) uI.nd rfl (Or.inr rfl) (aY fh (pv 4) (cf (cJ K rfl) (pv 3) aU (λ_ _=>rfl)))) (bh (bY (i:=6) (te:=e8 (aO 5) (aO 2)) uI.nd rfl (Or.inr rfl) (aY fh (pv 5) (pv 2))) (bK (cQ (te:=EO K) ?ret)))))),?_⟩
  case ret=>
   unfold EO;refine cT GD xC rfl mD kD bD .nil cU ?_;refine aL (pv 0) ?_ ?_
   ·refine aL ?_ aR ?_
    ·refine i9 (N:=["row","kept","left","onward"]) (own:=1) (caps:=[5,4,6]) rfl ?_ ?_ ?_ ?_ ?_
     ·exact lQ K rfl (cf (cJ K rfl) (pv 3) aU (λ_ _=>rfl))
     ·exact(show du EN (bx iM) ["row","kept","left","onward"] 1 [5,4,6] _ from .mk' (by decide +kernel))
     ·exact λ_ _ _ _ _=>cq (i:=0) Wj rfl (.inl rfl)
     ·exact λ_ _ _ _ _=>gG
     ·intro _ _ _ _ _;unfold AF;refine aY (dY K rfl) ?_ ?_
      ·refine aY (dY K rfl) ?_ ?_
       ·refine aY (dY K rfl) ?_ ?_
        ·exact eN (fN K rfl) (pv 0) gn (dP (pv 2))
        ·exact eN (fN K rfl) (pv 0) (dP (pv 1)) (dP (pv 3))
       ·exact eN (fN K rfl) (pv 0) (dP (pv 2)) (dP (pv 1))
      ·exact eN (fN K rfl) (pv 0) (dP (pv 3)) gn
    ·rfl
   ·rfl
  obtain⟨pst,hP⟩:=M4.tab;refine⟨_,rfl,⟨aw,_,rfl,ma⟩,aw,_,"late",rfl,rfl,ma,rR d,?_⟩;rw[oG hd];refine⟨_,rfl,M4,λfl HL Df Yc Yd Ye aI sI I=>?_⟩;have sL:=y9.same Yc;have M5:HL aw=some (.tup d.bc):=sL _ _ (pH hP ma λ_ z=>nomatch z);have qN:∀(j:Nat)(y:Str)(v:V),EN[j]?=some y→([some (.int p),some (.ref aw),some (.int (d.aJ:Int)),none,none,none,none]:St)[j]?=some (some v)→(bx iM).names.lookup y=some .cell→∃u,RelV v u∧sI.heap.IsCell (uH s.heap.objs.size y) (some u)∧HL (uH s.heap.objs.size y)=none:=λj y v hj hv hk=>by
   obtain⟨mm,hn,hl⟩:=I.loc;obtain⟨u,r,l⟩:=hl j y v hj hv (.inr (.inl hk));rcases l with⟨iu,_⟩|⟨_,c',jj,qN⟩
   ·have iu:(bx iM).names.lookup y=some .local:=iu;rw[hk]at iu;cases iu
   ·have qZ:(cellsFrom (s.heap.objs.size+1) (bx iM).names []).lookup y=some c':=jj;rw[EK hk]at qZ;cases qZ;exact⟨u,r,qN,I.mw _ _ jj⟩
  have ew:([Itm.cm d]).flatMap Itm.bc=d.bc:=by simp[Itm.bc]
  have qu:∀t∈[Itm.cm d],t.eQ p:=λt ht=>by rw[dI.mp ht];exact⟨hd,M3⟩
  refine⟨aw,fl,d.bc,λvs H' Q=>∃(i:Nat)(x:Str)(pa:Addr)(ps:List V),vs=[.int i,.str x,.ref pa]∧d.bc[i]?=some (.str x)∧H' pa=some (.lst ps)∧rP K p d.aJ (cO "late" (d.bc.take i)) x ps H' Q,λi vs H=>gw K p d.aJ H (cO "late" (d.bc.take i)) (fY [.cm d] i) vs.reverse,rfl,?_⟩;refine⟨.of M5,Yb,?_,?_,λi vs H1 H2 h tp=>h.tup tp,λi vs H1 h=>?_,λi hi=>?_,λi n vs H1 h g=>?_,λi x vs H1 h g=>?_,?_,λtd aV vs v H' s' h1 h2 h3=>?_⟩
  ·refine TK (k:=7) (names:=["p","words"]) (caps:=[.int p,.ref aw]) (Wh I.ok.inj) Ye (λ_ _ _ us hu=>match us,hu with | [_,_,_],_=>rfl) (λj y hj=>?_) rfl (λvs H' Q ⟨i,x,pa,ps,e,_⟩=>by rw[e];rfl) (λc' A' aai s' H' vs Q' jw iy Yf=>?_)
   ·match j,hj with
    |0,hj=>
     have e : "p"=y:=dj hj;subst e;obtain⟨u,r,h4,h5⟩:=qN 0 "p" (.int p) rfl rfl rfl;exact⟨_,_,u,rfl,rfl,r,h4,h5⟩
    |1,hj=>
     have e : "words"=y:=dj hj;subst e;obtain⟨u,r,h4,h5⟩:=qN 1 "words" (.ref aw) rfl rfl rfl;exact⟨_,_,u,rfl,rfl,r,h4,h5⟩
    |j+2,hj=>simp at hj
   ·obtain⟨i,x,pa,ps,rfl,hi,iz,hF⟩:=Yf;refine⟨_,cT GX jw rfl mX kX bX .nil cU (aL (pv 3) (aL (pv 4) (aL (pv 0) (aL (pv 2) aR)))),?_⟩;refine⟨_,rfl,_,rfl,_,rfl,_,rfl,p,aw,pa,d.bc,ps,i,x,rfl,pp,iy _ _ M5,rR d,hi,iz,?_,?_⟩
    ·rw[oG hd];exact qx
    ·rw[oG hd];exact hF
  ·show gw K p d.aJ HL _ (fY [.cm d] d.bc.length) _;have e:=UU (ts:=[.cm d]);rw[ew]at e;rw[e];exact .nil
  ·have e:=h.len;have z:=UW (ts:=[.cm d]) (i:=i);rw[List.length_reverse]at e;rw[ew]at z;lia
  ·obtain⟨t,r,e1,e2,e3⟩:=Eh (ts:=[.cm d]) (i:=i) (by rw[ew];exact hi);rw[ew]at e2;rw[e2];cases t with
   |num n=>exact .inr ⟨n,rfl⟩
   |cm d'=>cases d'<;>exact .inl ⟨_,rfl⟩
  ·obtain⟨t,r,e1,e2,e3⟩:=Eh (ts:=[.cm d]) (i:=i) (by rw[ew];exact(gi.mp h).1);rw[ew,h]at e2;cases t with
   |num m=>
    have e2:n=m:=V.int.inj (dj e2);subst e2;have g:gw K p d.aJ H1 (cO "late" (d.bc.take (i+1))) (fY [.cm d] (i+1)) vs.reverse:=g;rw[e3,M0 h]at g;show gw K p d.aJ H1 _ (fY [.cm d] i) (vs++[V.int n]).reverse;rw[e1,List.reverse_append];exact .cons rfl g
   |cm d'=>cases d'<;>cases e2
  ·obtain⟨t,r,e1,e2,e3⟩:=Eh (ts:=[.cm d]) (i:=i) (by rw[ew];exact(gi.mp h).1);rw[ew,h]at e2;have Fp:t.eQ p:=EJ i qu t (by rw[e1];exact cZ);have hb:=Wd qu i;rw[e1,ew,oG hd]at hb;have hb:cO "late" (d.bc.take i)+(t.aJ+oH r)=d.aJ:=hb;have g:gw K p d.aJ H1 (cO "late" (d.bc.take (i+1))) (fY [.cm d] (i+1)) vs.reverse:=g;rw[e3,M0 h]at g;have M6:=Itm.We Fp;rw[← dj e2]at M6;obtain⟨xs,ys,ev,g1,g2⟩:=g.split;rw[jV,← M6]at g2;generalize Yg:cO "late" (d.bc.take i)=c0 at hb g1 g2 ⊢;have Yh:vs=ys.reverse++xs.reverse:=by rw[← List.reverse_append,← ev,List.reverse_reverse]
   refine⟨ys.reverse,xs,Yh,?_,?_⟩
   ·have el:=g1.len;rw[el];cases t with
    |num m=>cases e2
    |cm d'=>
     cases d' with
     |box x' l' r' bJ=>
      have e2:x=x':=V.str.inj (dj e2);subst e2;rcases Fp.1 with z|⟨z,_⟩
      ·exact(UX _ z).symm
      ·rw[z];exact X8.symm
     |times n=>have e2:x=_:=V.str.inj (dj e2);subst e2;exact Uj.symm
     |back d'=>have e2:x=_:=V.str.inj (dj e2);subst e2;exact Ui.symm
     |dO a b=>have e2:x=_:=V.str.inj (dj e2);subst e2;exact UY.symm
     |bj a b=>have e2:x=_:=V.str.inj (dj e2);subst e2;exact UZ.symm
   ·intro pa H2 Q' tp hp hq;refine⟨i,x,pa,_,rfl,h,hp,?_⟩;rw[Yg];have g1:=g1.tup tp;have g2:=g2.tup tp;have fin:∀v H3,aM H2 H3→wY K p d.aJ c0 H3 t v→Q' v H3:=λv H3 s3 hv=>hq v H3 s3 (by
     show gw K p d.aJ H3 c0 (fY [.cm d] i) _;rw[e1,List.reverse_append,List.reverse_reverse];exact .cons hv (g2.tup s3.tup))
    cases t with
    |num m=>cases e2
    |cm d'=>
     obtain⟨sx,cN⟩:=Fp;have hb:c0+(d'.aJ+oH r)=d.aJ:=hb;cases d' with
     |box x' l' r' bJ=>
      have e2:x=x':=V.str.inj (dj e2);subst e2;rcases sx with z|⟨z,zl,zr⟩
      ·refine .box l' r' bJ z λv H3 s3 hv=>fin _ H3 s3 ⟨v,rfl,?_⟩;unfold Drw.dz;rw[ah (ql _ z)];exact hv
      ·subst z zl zr;have hb:c0+(1+oH r)=d.aJ:=hb;refine .dg rfl (by lia) λv H3 s3 hv=>fin _ H3 s3 ⟨v,rfl,?_⟩;unfold Drw.dz;rw[ae rfl];exact hv
     |times n=>
      have e2:x=_:=V.str.inj (dj e2);subst e2;cases g1 with
      |cons h1 r1=>
       cases r1;have h1:_=V.int n:=h1;subst h1;exact .times n rfl rfl λv H3 s3 hv=>fin _ H3 s3 ⟨v,rfl,hv⟩
     |back d'=>
      have e2:x=_:=V.str.inj (dj e2);subst e2;have hb:c0+(d'.aJ+oH r)=d.aJ:=hb;have g1:gw K p d.aJ H2 c0 [.cm d'] xs:=g1;cases g1 with
      |cons h1 r1=>
       cases r1;obtain⟨a,rfl,hf⟩:=h1;obtain⟨b1,b2,b3,b4⟩:=Drw.iC pp qx (d:=d') (c:=c0) sx cN (by lia);exact .made (.inl rfl) (.old (.back a _ _ (2*d.aJ) _ rfl rfl hf b1 b2 (by lia) (by lia) b4 λv H3 s3 hv=>fin _ H3 s3 ⟨v,rfl,hv⟩))
     |dO a b=>
      have e2:x=_:=V.str.inj (dj e2);subst e2;have hb:c0+(a.aJ+b.aJ+oH r)=d.aJ:=hb;have g1:gw K p d.aJ H2 c0 [.cm a,.cm b] xs:=g1;cases g1 with
      |cons h1 r1=>
       cases r1 with
       |cons h2 r2=>
        cases r2;obtain⟨a1,rfl,hf⟩:=h1;obtain⟨a2,rfl,Bv⟩:=h2;obtain⟨b1,b2,b3,b4⟩:=Drw.iC pp qx (d:=a) (c:=c0) sx.1 cN.1 (by lia);obtain⟨c1,c2,c3,c4⟩:=Drw.iC pp qx (d:=b) (c:=c0+a.aJ) sx.2 cN.2.1 (by lia);exact .made (.inr (.inl rfl)) (.dO a1 a2 _ _ _ _ _ _ (2*d.aJ) rfl rfl hf Bv b1 b2 c1 c2 (by lia) b3 c3 b4 c4 λv H3 s3 hv=>fin _ H3 s3 ⟨v,rfl,hv⟩)
     |bj a b=>
      have e2:x=_:=V.str.inj (dj e2);subst e2;have hb:c0+(a.aJ+b.aJ+oH r)=d.aJ:=hb;have g1:gw K p d.aJ H2 c0 [.cm a,.cm b] xs:=g1;cases g1 with
      |cons h1 r1=>
       cases r1 with
       |cons h2 r2=>
        cases r2;obtain⟨a1,rfl,hf⟩:=h1;obtain⟨a2,rfl,Bv⟩:=h2;obtain⟨b1,b2,b3,b4⟩:=Drw.iC pp qx (d:=a) (c:=c0) sx.1 cN.1 (by lia);obtain⟨c1,c2,c3,c4⟩:=Drw.iC pp qx (d:=b) (c:=c0+a.aJ) sx.2.1 cN.2 (by lia);rw[← sx.2.2]at Bv c4;exact .made (.inr (.inr rfl)) (.bj a1 a2 _ _ _ _ _ (2*d.aJ) rfl rfl hf Bv b1 b2 c2 (by lia) b3 c3 b4 c4 λv H3 s3 hv=>fin _ H3 s3 ⟨v,rfl,hv⟩)
  ·cases d<;>exact⟨_,rfl⟩
  ·have h3:gw K p d.aJ H' 0 [.cm d] (vs++[v]).reverse:=h3;rw[List.reverse_append]at h3;cases h3 with
   |cons hv r=>
    obtain⟨a,rfl,hf⟩:=hv;obtain⟨b1,b2,b3,b4⟩:=Drw.iC pp qx (d:=d) (c:=0) hd M3 (by lia);exact⟨td,aV,_,rfl,h1,h2,Wl pp hf b3 b1 b2 qx b4 λv' DS iO kG wV hD=>q v' DS iO (sL.trans (s'.trans kG)) ((Yd.mono s').mono kG) wV hD⟩
theorem Yi{o:St}(h:o.length=4):∃x y z u,o=[x,y,z,u]:=by
 match o,h with
 | [x,y,z,u],_=>exact⟨x,y,z,u,rfl⟩
abbrev M7(K:Frag):TG:=qS K 4 (iY (bq 0) (iY (bq 1) (iY (bq 2) (iY (bq 3) sW))))
def sy(K:Frag)(i j:Nat):TE:=gv K (gv K (gv K (aO i) (aO 1)) (aO j)) (aO 3)
theorem M8{j:Nat}{a1 a2 a3 a4:Addr}{x k y a:List Int}(h0:σ[i]?=some (some (.ref a1)))(h1:σ[1]?=some (some (.ref a2)))(h2:σ[j]?=some (some (.ref a3)))(h3:σ[3]?=some (some (.ref a4)))
  (g1:aZ K H a1 (x.map V.int)) (g2:aZ K H a2 (k.map V.int)) (g3:aZ K H a3 (y.map V.int)) (g4:aZ K H a4 (a.map V.int)) (hx:x.length≤100) (hk:k.length≤100) (hy:y.length≤100) (ha:a.length≤100)
  (q:jD K H ((x++k++y++a).map V.int) Q):sy K i j σ H Q:=by
 have z:(1000:Nat)≤sizeLine:=by decide
 unfold sy;refine⟨_,h0,_,h1,a1,a2,_,_,rfl,rfl,g1,g2,by simp only[bz];lia,λt1 H1 s1 k1=>?_⟩;refine⟨_,h2,t1,a3,_,_,rfl,rfl,k1,s1.bE g3,by simp only[bQ,bz];lia,λt2 H2 s2 k2=>?_⟩;refine⟨_,h3,t2,a4,_,_,rfl,rfl,k2,(s1.trans s2).bE g4,by simp only[bQ,bz];lia,λt3 H3 s3 k3=>?_⟩;refine q t3 H3 (s1.trans (s2.trans s3)) ?_;rw[cW,cW,cW];exact k3
theorem Yj{RS:List V}{l w' n:Nat}{te:TE}(F:Nat→List Int)(hq:H1 a=some (.lst RS))(hR:oK K H1 RS p l w' lp ls n)(hn:n≤1000)
  (Fl:∀(i:Nat)(t1 t2 t3 t4:Addr)(H:Hp)(R:VK),i<n→aZ K H t1 ((dk l w' i).map V.int)→aZ K H t2 ((cY l w' i).map V.int)→aZ K H t3 ((yT p lp ls (dk l w' i) (cY l w' i)).map V.int)→aZ K H t4 ((aT p lp ls (dk l w' i) (cY l w' i)).map V.int)→jD K H ((F i).map V.int) R→te [some (.ref t1),some (.ref t2),some (.ref t3),some (.ref t4)] H R)
  (done:∀v VS H',aM H1 H'→H' v=some (.lst VS)→bG K H' VS (((List.range n).map F).map cG)→Q (.ref v) H') :
  ∃W:Nat→Nat→St→Hp→List V→Prop,(∃m,W 0 m (List.replicate 4 none++[]) H1 [])∧jo (mE K a) (M7 K) i8 te Q W:=by
 have z1:(1000:Nat)≤sizeLine:=by decide
 have eL:=hR.1;refine vP (n:=RS.length) (own:=4) (cp:=[]) (λi H' zs=>bG K H' zs (((List.range i).map F).map cG)) (by lia) .nil (λi H' zs h=>by rw[fQ h,bz,ml];exact ck _)
  (λi H sm hi=>⟨RS,RS[i],.of (sm _ _ hq),by simp[hi]⟩) (λH sm=>⟨RS,.of (sm _ _ hq),ck _⟩) (λi o H zs hi ho sm pv x H2 y=>?_) (λH zs sm pv p hp=>?_)
 ·obtain⟨o1,o2,o3,o4,rfl⟩:=Yi ho;obtain⟨rfl,y⟩:=y;have hx:=y RS (.of (sm _ _ hq));obtain⟨t,t1,t2,t3,t4,rfl,h0,h1,h2,h3,h4⟩:=hR.2 i x hx;refine⟨t,_,rfl,sm.bE h0,rfl,_,_,rfl,_,_,rfl,_,_,rfl,_,_,rfl,rfl,kN ?_⟩;refine Fl i t1 t2 t3 t4 _ _ (by lia) (sm.bE h1) (sm.bE h2) (sm.bE h3) (sm.bE h4) λu H3 s3 hu=>⟨⟨[_,_,_,_],rfl,rfl⟩,sm.trans s3,?_⟩;rw[List.range_succ,cW,cW];exact(pv.mono s3).append (.cons (jE hu) .nil)
 ·rw[eL]at pv;exact done p zs _ (sm.trans (.upd hp)) aX (pv.mono (.upd hp))
theorem iS.del{H:Hp}{Pt ac:Addr}{ps:Array Value}{l r lp:Nat}{ls:List (List Bx)}(hP:H Pt=some (.eK ps))(h:iS K H ac l r lp ls):iS K (S21.del Pt H) ac l r lp ls:=by
 obtain⟨al,LS,h1,h2,h3⟩:=h;refine⟨al,LS,aZ.del hP h1,pH hP h2 (λ_ z=>nomatch z),h3.1,λi v bs hv hb=>?_⟩;obtain⟨c,VS,e,hc,hV⟩:=h3.2 i v bs hv hb;refine⟨c,VS,e,pH hP hc (λ_ z=>nomatch z),hV.1,λj u x hu hx=>?_⟩;obtain⟨d,e1,hd⟩:=hV.2 j u x hu hx;exact⟨d,e1,pH hP hd λ_ z=>nomatch z⟩
def By(K:Frag)(Pt:Addr):Sp:=λvs H Q _=>∃(a:Addr)(ns:List Int),vs=[.ref a]∧cM K H a (ns.map V.int)∧ns.length≤63∧lT H Pt (wC oI) wZ∧∀H',Q (.bl true) H'
noncomputable abbrev Fq:List Str:=["script","p","case","words","rows","found"]
theorem qy:c8 ["script","p","case","words","rows","found"] ["script"] (bx lV):=dJ rfl rfl rfl (by decide +kernel) rfl
theorem n4:(["left","kept","right","after"]:List Str).Nodup:=by decide +kernel
def xD(K:Frag):TE:=fw (Bb K) [] E0 (aW (aO 1) (aW (aO 2) bo))
def qz(K:Frag)(i j:Nat):TE:=j9 (mH K (xD K)) 4 [] (M7 K) i8 (sy K i j)
def Fs(K:Frag):TT:=gs (bI lJ (uX (lC K 4) 2) (tC (.int 1)))
def Ft:TE:=bI pO (tW "back") (aO 3)
def Fu(K:Frag):TE:=fw (xo K) [] E0 (aW (aO 2) bo)
def Fv(K:Frag):TE:=e8 (e8 (df K 2 0) (df K 2 1)) (bI (rI pY λi j=>.int (i*j)) (tC (.int 2)) (Fu K))
def xE(K:Frag):TE:=bI (vN K false) (aO 5) (fw (Aq K) [] E0 (aW (aO 1) (aW (aO 4) (aW (Fv K) bo))))
def Fw(K:Frag):TE:=fw (Bu K) [] E0 (aW (aO 5) (aW (aO 1) bo))
def Fx(K:Frag)(Pt:Addr):TE:=fw (AE K Pt) [] E0 (aW (aO 1) (aW (aO 3) bo))
def Bz(K:Frag)(Pt:Addr):TS:=bZ (cy (Fx K Pt) (bq 5)) (bZ (eU (BS (tB (Fw K))) (eA (tC (.bl false))) gR) (eA (xE K)))
def xF(K:Frag)(Pt:Addr):TS:=bZ (cy (fw (Ao K) [] E0 (aW (aO 0) bo)) (bq 1)) (bZ (cy (fw (xy K) [] E0 (aW (aO 0) (aW (aO 1) bo))) (bq 2)) (bZ (cy (fw (xB K) [] E0 (aW (aO 2) bo)) (bq 3)) (bZ (cy (qz K 0 2) (bq 4)) (bZ (eU (Fs K) (bZ (cy Ft (bq 3)) (cy (qz K 2 0) (bq 4))) gR) (Bz K Pt)))))
theorem Yk{sp:Sp}{fP fW fS fR:Addr}{xG qk jH xH:FuncData}(F:cC K "law" "law" lV f fd)
  (GP:bu P w K mg base br 2 fP xG ["script"] (Ao K)) (kP:Kp K fP) (bP:Binds K xG ["script"] []) (mP:Mg mg "_law_prime" fP)
  (GL:bu P w K mg base br 3 fL jI ["script","p"] (xy K)) (kL:Kp K fL) (bL:Binds K jI ["script","p"] []) (mL:Mg mg "_law_layers" fL)
  (GW:bu P w K mg base br 2 fW qk ["case"] (xB K)) (kW:Kp K fW) (bW:Binds K qk ["case"] []) (mW:Mg mg "_law_words" fW)
  (GU:bu P w K mg base br 3 fU uL ["p","case"] (Bb K)) (kU:Kp K fU) (bU:Binds K uL ["p","case"] []) (mU:Mg mg "_law_units" fU)
  (GD:bu P w K mg base br 1 fD fH ["script","k"] (oA K)) (kD:Kp K fD) (bD:Binds K fH ["script","k"] []) (mD:Mg mg "_law_draw" fD)
  (GT:bu P w K mg base br 11 fT jv ["p","words"] (AE K Pt)) (kT:Kp K fT) (bT:Binds K jv ["p","words"] []) (mT:Mg mg "ticks" fT)
  (GS:bu P w K mg base br 1 fS jH ["found","p"] (Bu K)) (kS:Kp K fS) (bS:Binds K jH ["found","p"] []) (mS:Mg mg "_law_shaped" fS)
  (GR:bu P w K mg base br 2 fR xH ["p","rows","width"] (Aq K)) (kR:Kp K fR) (bR:Binds K xH ["p","rows","width"] []) (mR:Mg mg "_law_reduced" fR)
  (GC:bu P w K mg base br 1 fC lj ["case"] (xo K)) (kC:Kp K fC) (bC:Binds K lj ["case"] []) (mC:Mg mg "_law_count" fC)
  (len:∀vs H Q E,sp vs H Q E→vs.length=1) (rd:∀(D:Ends) vs H Q E,sp vs H Q E→D.rt=Q→xF K Pt D (L2.start Fq vs) H) :
  bu P w K mg base br 12 f fd ["script"] sp:=by
 refine F.ok qy (λvs H Q E h=>len vs H Q E h) (λbV A outer s H vs Q E hr h=>?_);have iN:dt 1 _:=hr.mono (by decide);have Fy:dt 2 _:=hr.mono (by decide);have xC:dt 3 _:=hr.mono (by decide);refine⟨xF K Pt,?_,rd _ vs H Q E h rfl⟩;unfold xF;refine bh ?_ ?_
 ·exact bY (i:=1) qy.nd rfl (.inl rfl) (cT GP Fy rfl mP kP bP .nil cU (aL (pv 0) aR))
 refine bh ?_ ?_
 ·exact bY (i:=2) qy.nd rfl (.inl rfl) (cT GL xC rfl mL kL bL .nil cU (aL (pv 0) (aL (pv 1) aR)))
 refine bh ?_ ?_
 ·exact bY (i:=3) qy.nd rfl (.inl rfl) (cT GW Fy rfl mW kW bW .nil cU (aL (pv 2) aR))
 refine bh ?_ ?_
 ·unfold qz;refine mY (i:=4) (N:=["left","kept","right","after"]) (own:=4) (caps:=[]) (te:=sy K 0 2) rfl qy.nd rfl rfl ?_ ?_ ?_ ?_ ?_
  ·unfold xD;exact ja K rfl (cT GU xC rfl mU kU bU .nil cU (aL (pv 1) (aL (pv 2) aR)))
  ·exact(show du Fq (bx lV) ["left","kept","right","after"] 4 [] _ from .mk' (by decide +kernel))
  ·exact λ_ _ _ _ _=>pj (n:=4) K rfl rfl (eV (cq (i:=0) n4 rfl (.inl rfl)) (eV (cq (i:=1) n4 rfl (.inl rfl)) (eV (cq (i:=2) n4 rfl (.inl rfl)) (eV (cq (i:=3) n4 rfl (.inl rfl)) oY))))
  ·exact λ_ _ _ _ _=>gG
  ·exact λ_ _ _ _ _=>by
    unfold sy;exact aY (dY K rfl) (aY (dY K rfl) (aY (dY K rfl) (pv 0) (pv 1)) (pv 2)) (pv 3)
 refine bh ?_ ?_
 ·refine dX ?_ ?_ fg
  ·unfold Fs;refine de gF (aY eW ?_ aU) aU (da _);unfold lC;exact cT GD iN rfl mD kD bD .nil cU (aL (pv 0) (aL aU aR))
  ·refine bh ?_ ?_
   ·exact bY (i:=3) (te:=Ft) qy.nd rfl (.inl rfl) (aY nC (cB (aL cP aR)) (pv 3))
   ·refine bK ?_;unfold qz;refine mY (i:=4) (N:=["left","kept","right","after"]) (own:=4) (caps:=[]) (te:=sy K 2 0) rfl qy.nd rfl rfl ?_ ?_ ?_ ?_ ?_
    ·unfold xD;exact ja K rfl (cT GU xC rfl mU kU bU .nil cU (aL (pv 1) (aL (pv 2) aR)))
    ·exact(show du Fq (bx lV) ["left","kept","right","after"] 4 [] _ from .mk' (by decide +kernel))
    ·exact λ_ _ _ _ _=>pj (n:=4) K rfl rfl (eV (cq (i:=0) n4 rfl (.inl rfl)) (eV (cq (i:=1) n4 rfl (.inl rfl)) (eV (cq (i:=2) n4 rfl (.inl rfl)) (eV (cq (i:=3) n4 rfl (.inl rfl)) oY))))
    ·exact λ_ _ _ _ _=>gG
    ·exact λ_ _ _ _ _=>by
      unfold sy;exact aY (dY K rfl) (aY (dY K rfl) (aY (dY K rfl) (pv 2) (pv 1)) (pv 0)) (pv 3)
 unfold Bz;refine bh ?_ ?_
 ·exact bY (i:=5) (te:=Fx K Pt) qy.nd rfl (.inl rfl) (cT GT hr rfl mT kT bT .nil cU (aL (pv 1) (aL (pv 3) aR)))
 refine bh ?_ ?_
 ·refine dX ?_ ?_ fg
  ·unfold Fw;exact vx (qQ (cT GS iN rfl mS kS bS .nil cU (aL (pv 5) (aL (pv 1) aR))))
  ·exact bK (cQ vt)
 refine bK ?_;refine cQ (te:=xE K) ?_;unfold xE;refine B5 (yN K rfl hr.units) (pv 5) ?_ (da _);refine cT GR Fy rfl mR kR bR .nil cU ?_;refine aL (pv 1) ?_ ?_
 ·refine aL (pv 4) ?_ ?_
  ·refine aL ?_ aR ?_
   ·unfold Fv Fu;exact aY fh (aY fh (cf (cJ K rfl) (pv 2) aU (λ_ _=>rfl)) (cf (cJ K rfl) (pv 2) aU (λ_ _=>rfl))) (aY j5 aU (cT GC iN rfl mC kC bC .nil cU (aL (pv 2) aR)))
   ·rfl
  ·rfl
 ·rfl
theorem M9{p:Int}:∀{ls:List (List Bx)}{L R:Nat},eS p L ls R→ls≠[]→(e9 ls).bc.length≤16*ls.length
 | [],_,_,_,h=>absurd rfl h
 | [x],_,_,⟨m,o,_⟩,_=>by
  have:=so x o.ne
  have:=o.len
  show(bN x).bc.length≤16;lia
 |x::y::xs,_,_,⟨m,o,h⟩,_=>by
  have:=so x o.ne
  have:=o.len
  have ih:=M9 (ls:=y::xs) h (by simp);show(V.str "then"::((bN x).bc++(e9 (y::xs)).bc)).length≤16*(xs.length+1+1);rw[eF,bQ];have e:(y::xs).length=xs.length+1:=rfl;lia
theorem Na(n:Nat)(h:1≤n):(bN (cg n)).bc.length≤3*n:=by
 have:=so (cg n) (by unfold cg;cases n with|zero=>lia|succ n=>simp)
 unfold cg at this ⊢;rwa[ee]at this
theorem Yl{l r:Nat}(h:kn p l r lp ls):(iT l r lp ls).bc.length≤200:=by
 have e:=M9 h.ko h.ne
 have:=h.len
 have:=h.l4
 have:=h.r4
 rcases h.sk with rfl|⟨rfl,_⟩
 ·show(e9 ls).bc.length≤200;lia
 ·have a:=Na l h.l1;have b:=Na r h.r1;show(V.str "then"::((V.str "beside"::([V.str "cup"]++(bN (cg l)).bc))++(V.str "then"::((V.str "beside"::([V.str "id"]++(e9 ls).bc))++(V.str "beside"::((V.str "back"::[V.str "cup"])++(bN (cg r)).bc)))))).length≤200;simp only[eF,bQ,pU];lia
open Classical in
theorem Nb{aw lr:Addr}{l r n:Nat}{d:Drw}{RS:List V}{aQ:LL}(pp:p∈c7)(hC:iS K H ac l r lp ls)(hc:kn p l r lp ls)(hw:H aw=some (.tup d.bc))(hL:lT H Pt (wC oI) wZ)
  (hd:d.eQ p) (hs:d.sm) (vH:d.bc.length≤900000) (ic:d.aJ≤40) (hr:H lr=some (.lst RS)) (hA:bG K H RS (aQ.map cG)) (hn:aQ.length≤1000) (en:l+r+2*cS ls=n) (hR:cj p n aQ)
  (Ym:dw p ((d.dz p d.aJ 0).map (gW d.aK d.aN d.aJ))=dw p aQ) (q:∀H',D.rt (.bl true) H') :
  Bz K Pt D [some (.ref a),some (.int p),some (.ref ac),some (.ref aw),some (.ref lr),none] H:=by
 obtain⟨p2,cX⟩:=gI p pp;obtain⟨ps,hT⟩:=hL.tab;have le:cS ls≤20:=by have:=hc.ko.aJ;have:=hc.len;lia
 have l4:=hc.l4;have r4:=hc.r4;have red:=ng pp hR;unfold Bz Fx;refine⟨_,rfl,_,rfl,p,aw,d,rfl,pp,hd,hs,vH,ic,hw,hL,λv DS H1 s1 tQ hv hD=>?_⟩;rw[Ym]at hD;have Nc:=(hC.del hT).mono s1;have iN:=s1 _ _ (pH hT hr λ_ z=>nomatch z);have zH:=bG.mono s1 (bG.del hT hA);unfold Fw;refine⟨_,rfl,_,rfl,p,v,DS,_,rfl,hv,hD,λx hx y hy=>(red.rws x hx).2 y hy,true,rfl,eP ?_⟩;show xE K _ _ _;unfold xE Fv Fu;have Yn:=Nc;obtain⟨al,LS,c1,c2,c3⟩:=Nc;have lb:∀bs∈ls,bs.length≤100:=λbs hb=>by
  obtain⟨_,_,o⟩:=eS.at' hc.ko bs hb
  have:=o.len
  lia
 refine⟨_,rfl,_,rfl,_,rfl,_,rfl,ac,_,0,.int (l:Int),rfl,rfl,c1,cH (j:=0) rfl,_,rfl,ac,_,1,.int (r:Int),rfl,rfl,c1,cH (j:=1) rfl,(l:Int),(r:Int),rfl,rfl,_,rfl,ac,l,r,lp,ls,rfl,Yn,by have:=hc.len;lia,lb,λH2 s2=>?_⟩;refine⟨2,(cS ls:Int),rfl,rfl,.inl ⟨by decide,by decide⟩,_,_,rfl,rfl,p,lr,true,RS,aQ,n,_,rfl,by lia,pp,.of (s2 _ _ iN),bG.mono s2 zH,hn,by lia,hR,λt H3 ES s3 ht hE=>?_⟩;refine⟨.tuple ((dw p aQ).map cG),.tuple ((dw p aQ).map cG),.tuple ((s2.trans s3).bE hv) (bG.mono (s2.trans s3) hD),.tuple ht hE,JI _,JI _,?_⟩;rw[ah (by decide),aE rfl];exact q _
theorem Yo{l r:Nat}(p2:2≤p)(cX:p≤97)(h1:σ[1]?=some (some (.int p)))(h2:σ[2]?=some (some (.ref ac)))(hC:iS K H ac l r lp ls)(hc:kn p l r lp ls)
  (q:∀t RS H',aM H H'→H' t=some (.lst RS)→oK K H' RS p l (cS ls) lp ls (l+cS ls)→Q (.ref t) H'):xD K σ H Q:=by
 have le:cS ls≤20:=by have:=hc.ko.aJ;have:=hc.len;lia
 have l4:=hc.l4;have lb:∀bs∈ls,bs.length≤100:=λbs hb=>by
  obtain⟨_,_,o⟩:=eS.at' hc.ko bs hb
  have:=o.len
  lia
 unfold xD;refine⟨_,h1,_,h2,p,ac,l,r,lp,ls,rfl,p2,cX,hC,by have:=hc.len;lia,lb,by lia,λi hi=>?_,q⟩;obtain⟨x1,x2⟩:=pM hi;obtain⟨n1,n2⟩:=AH p2 hi;obtain⟨u1,u2,u3,u4,_⟩:=MX (by lia) hc x1 x2 n1 n2;exact⟨X6 hc,u1,u2,u3,u4⟩
theorem Nd{l r:Nat}{j:Nat}(F:Nat→List Int)(Yp:(i=0∧j=2∧F=md l (cS ls) (qw p lp ls))∨(i=2∧j=0∧F=me l (cS ls) (qw p lp ls)))(p2:2≤p)(cX:p≤97)(h1:σ[1]?=some (some (.int p)))(h2:σ[2]?=some (some (.ref ac)))(hC:iS K H ac l r lp ls)(hc:kn p l r lp ls)
  (q:∀v VS H',aM H H'→H' v=some (.lst VS)→bG K H' VS (((List.range (l+cS ls)).map F).map cG)→Q (.ref v) H'):qz K i j σ H Q:=by
 have le:cS ls≤20:=by have:=hc.ko.aJ;have:=hc.len;lia
 have l4:=hc.l4;have r4:=hc.r4;have C:=MW (by lia) hc;unfold qz;refine Yo p2 cX h1 h2 hC hc λt RS H1 s1 ht hR=>?_;refine⟨t,rfl,⟨_,.of ht⟩,Yj F ht hR (by lia) (λk t1 t2 t3 t4 H' R hk g1 g2 g3 g4 qq=>?_) λv VS H2 s2 hv hA=>q v VS H2 (s1.trans s2) hv hA⟩;obtain⟨x1,x2⟩:=pM hk;obtain⟨n1,n2⟩:=AH p2 hk;obtain⟨_,_,_,_,u5,u6⟩:=MX (by lia) hc x1 x2 n1 n2;obtain⟨y1,y2⟩:=C.ok.len _ _ (by rw[C.lf];exact x1) (by rw[C.la];exact x2);rw[C.rg]at y1;rw[C.la]at y2;rw[u5]at g3;rw[u6]at g4;rcases Yp with⟨rfl,rfl,rfl⟩|⟨rfl,rfl,rfl⟩
 ·exact M8 rfl rfl rfl rfl g1 g2 g3 g4 (by lia) (by lia) (by lia) (by lia) qq
 ·exact M8 rfl rfl rfl rfl g3 g2 g1 g4 (by lia) (by lia) (by lia) (by lia) qq
theorem Yq(hS:cM K H a (ns.map V.int))(cA:ns.length≤63)(hL:lT H Pt (wC oI) wZ)(q:∀H',D.rt (.bl true) H'):xF K Pt D [some (.ref a),none,none,none,none,none] H:=by
 unfold xF;refine⟨_,rfl,a,ns,rfl,hS,cA,λp H1 pp s1=>?_⟩;obtain⟨p2,cX⟩:=gI p pp;refine⟨_,rfl,_,rfl,a,ns,p,rfl,s1.seq hS,cA,p2,cX,λac l r lp ls H2 s2 hC hc=>?_⟩;have C:=MW (by lia) hc;have le:=C.le;have l4:=hc.l4;refine⟨_,rfl,p,ac,l,r,lp,ls,rfl,hC,hc,λaw H3 s3 hw=>?_⟩;have ic:(iT l r lp ls).aJ≤40:=by rw[C.la];lia
 have wl:=Yl hc;show bZ (cy (qz K 0 2) (bq 4)) _ D [some (.ref a),some (.int p),some (.ref ac),some (.ref aw),none,none] H3;refine Nd _ (.inl ⟨rfl,rfl,rfl⟩) p2 cX rfl rfl (hC.mono s3) hc λlr VS H4 s4 rE hA=>?_;have sA:=s1.trans (s2.trans (s3.trans s4));have Fz:=hC.mono (s3.trans s4);have Nf:=s4 _ _ hw;have en:l+r+2*cS ls=l+r+2*cS ls:=rfl;have U:=Wt pp C.ok C.rn C.sm ic;have UB:=Wu pp C.ok C.rn C.sm ic;unfold Fs lC;refine⟨_,rfl,a,ns,4,rfl,sA.seq hS,cA,by decide,by decide,λdd d0 d1=>⟨_,_,rfl,rfl,(by show(0:Int)<2;decide),rfl,_,rfl,?_⟩⟩;refine j8 (λ_=>?_) (λ_=>?_)
 ·unfold Ft;refine⟨by show 1≤sizeLine;decide,λt ht=>⟨_,rfl,t,aw,_,_,rfl,rfl,aX,aM.upd ht _ _ Nf,?_,λYr H5 s5 hb=>?_⟩⟩
  ·have:(1000000:Nat)≤sizeLine:=by decide
   show 1+_≤sizeLine;lia
  have sB:=(aM.upd (o:=.tup [.str "back"]) ht).trans s5;show qz K 2 0 [some (.ref a),some (.int p),some (.ref ac),some (.ref Yr),some (.ref lr),none] H5 _;refine Nd _ (.inr ⟨rfl,rfl,rfl⟩) p2 cX rfl rfl (Fz.mono sB) hc λlr' jg H6 s6 Ys Yt=>?_;have sC:=sA.trans (sB.trans s6);refine Nb (d:=.back (iT l r lp ls)) (aQ:=nB l (cS ls) (qw p lp ls)) pp (Fz.mono (sB.trans s6)) hc (s6 _ _ hb) (hL.mono sC) C.ok.wf C.sm ?_ ic Ys Yt ?_ rfl ?_ ?_ q
  ·show(V.str "back"::_).length≤900000;rw[eF];lia
  ·unfold nB;rw[bz,ml];lia
  ·have:=UB.2
   rwa[C.lf,C.rg,C.la]at this
  ·have:=UB.1
   rw[C.lf,C.rg,C.la]at this;show dw p (((Drw.back (iT l r lp ls)).dz p (iT l r lp ls).aJ 0).map (gW (iT l r lp ls).aN (iT l r lp ls).aK (iT l r lp ls).aJ))=_;rw[C.lf,C.rg,C.la];exact this
 ·refine Nb (d:=iT l r lp ls) (aQ:=nA l (cS ls) (qw p lp ls)) pp Fz hc Nf (hL.mono sA) C.ok.wf C.sm (by lia) ic rE hA ?_ rfl ?_ ?_ q
  ·unfold nA;rw[bz,ml];lia
  ·have:=U.2
   rwa[C.lf,C.rg,C.la]at this
  ·have:=U.1
   rw[C.lf,C.rg,C.la]at this ⊢;exact this
theorem Yu{fP fW fS fR:Addr}{xG qk jH xH:FuncData}(F:cC K "law" "law" lV f fd)
  (GP:bu P w K mg base br 2 fP xG ["script"] (Ao K)) (kP:Kp K fP) (bP:Binds K xG ["script"] []) (mP:Mg mg "_law_prime" fP)
  (GL:bu P w K mg base br 3 fL jI ["script","p"] (xy K)) (kL:Kp K fL) (bL:Binds K jI ["script","p"] []) (mL:Mg mg "_law_layers" fL)
  (GW:bu P w K mg base br 2 fW qk ["case"] (xB K)) (kW:Kp K fW) (bW:Binds K qk ["case"] []) (mW:Mg mg "_law_words" fW)
  (GU:bu P w K mg base br 3 fU uL ["p","case"] (Bb K)) (kU:Kp K fU) (bU:Binds K uL ["p","case"] []) (mU:Mg mg "_law_units" fU)
  (GD:bu P w K mg base br 1 fD fH ["script","k"] (oA K)) (kD:Kp K fD) (bD:Binds K fH ["script","k"] []) (mD:Mg mg "_law_draw" fD)
  (GT:bu P w K mg base br 11 fT jv ["p","words"] (AE K Pt)) (kT:Kp K fT) (bT:Binds K jv ["p","words"] []) (mT:Mg mg "ticks" fT)
  (GS:bu P w K mg base br 1 fS jH ["found","p"] (Bu K)) (kS:Kp K fS) (bS:Binds K jH ["found","p"] []) (mS:Mg mg "_law_shaped" fS)
  (GR:bu P w K mg base br 2 fR xH ["p","rows","width"] (Aq K)) (kR:Kp K fR) (bR:Binds K xH ["p","rows","width"] []) (mR:Mg mg "_law_reduced" fR)
  (GC:bu P w K mg base br 1 fC lj ["case"] (xo K)) (kC:Kp K fC) (bC:Binds K lj ["case"] []) (mC:Mg mg "_law_count" fC) :
  bu P w K mg base br 12 f fd ["script"] (By K Pt):=
 Yk F GP kP bP mP GL kL bL mL GW kW bW mW GU kU bU mU GD kD bD mD GT kT bT mT GS kS bS mS GR kR bR mR GC kC bC mC (λvs H Q E h=>by obtain⟨a,ns,rfl,_⟩:=h;rfl)
  λD vs H Q E h hD=>by
   obtain⟨a,ns,rfl,hS,cA,hL,q⟩:=h;exact Yq hS cA hL λH'=>by rw[hD];exact q H'
noncomputable def nI(K:Frag)(x:Str):Addr:=match nsIn K mainGlobals x with
 |some (some (.ref a))=>a
 |_=>0
noncomputable def xI(K:Frag)(x:Str):Bool:=match nsIn K mainGlobals x with
 |some (some (.ref _))=>true
 |_=>false
theorem FD{K:Frag}(h:xI K x=true):nsIn K mainGlobals x=some (some (.ref (nI K x))):=by
 unfold xI at h;split at h
 case h_2=>cases h
 case h_1 a e=>
  unfold nI;rw[e]
noncomputable def va(K:Frag):Bool:=xI K "PARTS"&&xI K "SIDES"&&xI K "BOX_ROWS"&&zg K (nI K "PARTS")&&decide (ib K (nI K "PARTS")=zM)&&wx K (nI K "SIDES") (nI K "BOX_ROWS")
section
variable{K:Frag}{h:Heap}{mg:Str→Option Value}
theorem Ng(X:K.In h)(G:h.Ns mainGlobals mg)(e:va K=true):Parts K mg (nI K "PARTS"):=by
 simp only[va,gP,aG]at e;obtain⟨⟨⟨⟨⟨e1,_⟩,_⟩,e4⟩,e5⟩,_⟩:=e;exact⟨dB X G (FD e1),λh X=>e5▸Dk X e4⟩
theorem FE(X:K.In h)(G:h.Ns mainGlobals mg)(e:va K=true):lY K mg (nI K "SIDES") (nI K "BOX_ROWS"):=by
 simp only[va,gP,aG]at e;obtain⟨⟨⟨⟨⟨_,e2⟩,e3⟩,_⟩,_⟩,e6⟩:=e;exact⟨dB X G (FD e2),dB X G (FD e3),e6⟩
end
noncomputable def FF(K:Frag):Bool:=va K&&uy K (nI K "SIDES")
theorem xJ{K:Frag}(e:FF K=true):va K=true:=(gP _ _▸e:_∧_).1
theorem Yv{K:Frag}(e:FF K=true):uy K (nI K "SIDES")=true:=(gP _ _▸e:_∧_).2
theorem sE(h:∀a0,bindArgs fd ⟨[a0],[]⟩=pure (ps.zip [a0])):∀(us:List Value),us.length=1→bindArgs fd ⟨us,[]⟩=pure (ps.zip us)
 | [a0],_=>h a0
theorem nJ(h:∀a0 a1,bindArgs fd ⟨[a0,a1],[]⟩=pure (ps.zip [a0,a1])):∀(us:List Value),us.length=2→bindArgs fd ⟨us,[]⟩=pure (ps.zip us)
 | [a0,a1],_=>h a0 a1
theorem qA(h:∀a0 a1 a2,bindArgs fd ⟨[a0,a1,a2],[]⟩=pure (ps.zip [a0,a1,a2])):∀(us:List Value),us.length=3→bindArgs fd ⟨us,[]⟩=pure (ps.zip us)
 | [a0,a1,a2],_=>h a0 a1 a2
theorem sF(h:∀a0 a1 a2 a3,bindArgs fd ⟨[a0,a1,a2,a3],[]⟩=pure (ps.zip [a0,a1,a2,a3])):∀(us:List Value),us.length=4→bindArgs fd ⟨us,[]⟩=pure (ps.zip us)
 | [a0,a1,a2,a3],_=>h a0 a1 a2 a3
theorem Yw(h:∀a0 a1 a2 a3 a4,bindArgs fd ⟨[a0,a1,a2,a3,a4],[]⟩=pure (ps.zip [a0,a1,a2,a3,a4])):∀(us:List Value),us.length=5→bindArgs fd ⟨us,[]⟩=pure (ps.zip us)
 | [a0,a1,a2,a3,a4],_=>h a0 a1 a2 a3 a4
structure FA(K:Frag)(x:Str)(st:Stmt)(f:Addr)(fd:FuncData):Prop where
 a:nsIn K mainGlobals x=some (some (.ref f))
 F:cC K x x st f fd
 k:keepIn K (.ref f)=true
theorem FA.of{K:Frag}{st:Stmt}{od an:Option Addr}{sl:Array (Option Value)}{oc kV dc pm cd ct:Value}(a:nsIn K mainGlobals x=some (some (.ref f)))(l:K.lookup f=some ⟨oc,od,.func (fnOf x x (pb st) (j7 st) (bx st) .none kV dc pm an cd ct),sl⟩)(c:PySem.W.codeIn K cd x=true)(k:keepIn K (.ref f)=true):FA K x st f (fnOf x x (pb st) (j7 st) (bx st) .none kV dc pm an cd ct):=⟨a,Cp l c k,k⟩
theorem all_mk{l:PySem.W.OpenLaw}{w:World}{K:Frag}{h:Heap}{mg:Str→Option Value}{fa f1 f2 f3 f4 f5 f6 f7 f8 f9 Yx Yy Yz YA YB YC YD YE FG YF YG YH YI YJ YK YL YM YN YO YQ YR YT YU YV YW FH:Addr}(X:K.In h)(G:h.Ns mainGlobals mg)(YX:mg "law"=some (.ref fa))
  {YY YZ Y0 Nh:Option Addr} {Y1 Y2:Array (Option Value)} {Y3 Y4 Y5 Y6 Ni Y7 Y8 Nj Nk Nl FI Nm:Value} {d1 d2 d3 d4 d5 d6 d7 d8 d9 Y9 Za HX Zb Zc Zd Ze Zf Zg Zh Zi Zj Zk Zl Zm Zn Zo Zp Zq Zr Zs Zt Zu Zv:FuncData}
  (A1:FA K "turned" v9 f1 d1)
  (A2:FA K "added" pw f2 d2)
  (A3:FA K "summed" wa f3 d3)
  (A4:FA K "ones" zh f4 d4)
  (A5:FA K "reduced" tZ f5 d5)
  (A6:FA K "led" zi f6 d6)
  (A7:FA K "cleared" zj f7 d7)
  (A8:FA K "wires" Dm f8 d8)
  (A9:FA K "folded" Dn f9 d9)
  (Zw:FA K "all_folded" zm Yx Y9)
  (Zx:FA K "measured" Dp Yy Za)
  (Zy:FA K "measure" zo Yz HX)
  (Zz:FA K "form" Dq YA Zb)
  (ZA:FA K "form_of_back" zp YB Zc)
  (ZC:FA K "form_of_beside" wb YC Zd)
  (ZD:FA K "form_of_then" zq YD Ze)
  (ZE:FA K "facing" wc YE Zf)
  (a18:nsIn K mainGlobals "ticks"=some (some (.ref FG))) (l18:K.lookup FG=some ⟨Y3,YY,.func (fnOf "ticks" "ticks" (pb iM) (j7 iM) (bx iM) .none Y4 Y5 Y6 YZ Ni Y7),Y1⟩) (c18:PySem.W.codeIn K Ni "ticks"=true) (k18:keepIn K (.ref FG)=true)
  (ZF:FA K "tick_form" zt YF Zg)
  (ZG:FA K "_law_draw" Dr YG Zh)
  (ZH:FA K "_law_prime" Ds YH Zi)
  (ZI:FA K "_law_box" Dt YI Zj)
  (ZJ:FA K "_law_layer" zu YJ Zk)
  (ZK:FA K "_law_layers" zv YK Zl)
  (ZL:FA K "_law_beside" Du YL Zm)
  (ZM:FA K "_law_words" zw YM Zn)
  (ZN:FA K "_law_count" zy YN Zo)
  (ZO:FA K "_law_boxes" Dv YO Zp)
  (ZP:FA K "_law_tick" wd YQ Zq)
  (ZQ:FA K "_law_unit" Dw YR Zr)
  (ZR:FA K "_law_less" zA YT Zs)
  (ZT:FA K "_law_reduced" oj YU Zt)
  (ZU:FA K "_law_units" Dx YV Zu)
  (ZV:FA K "_law_shaped" Dy YW Zv)
  (a35:nsIn K mainGlobals "law"=some (some (.ref FH))) (l35:K.lookup FH=some ⟨Y8,Y0,.func (fnOf "law" "law" (pb lV) (j7 lV) (bx lV) .none Nj Nk Nl Nh FI Nm),Y2⟩) (c35:PySem.W.codeIn K FI "law"=true) (k35:keepIn K (.ref FH)=true)
  (z1:nsIn K mainGlobals "range"=some none) (z2:nsIn K mainGlobals "zip"=some none) (z3:nsIn K mainGlobals "tuple"=some none) (z4:nsIn K mainGlobals "list"=some none) (z5:nsIn K mainGlobals "int"=some none) (z6:nsIn K mainGlobals "bool"=some none) (z7:nsIn K mainGlobals "isinstance"=some none) (z8:nsIn K mainGlobals "len"=some none) (z9:nsIn K mainGlobals "sum"=some none) (z10:nsIn K mainGlobals "max"=some none) (z11:nsIn K mainGlobals "min"=some none) (z12:nsIn K mainGlobals "enumerate"=some none) (z13:nsIn K mainGlobals "any"=some none) (z14:nsIn K mainGlobals "all"=some none) (hs1:(tabIn K "ticks").isSome=true) (hx1:FF K=true) :
  ∃fd:FuncData,(∀(s:Shared)(v:Value),BindsTo s fd ⟨[v],[]⟩ [("script",v)])∧∀base:Heap,K.In base→base.Ns mainGlobals mg→qa mg base→(∀q∈[lU K "ticks"],CodeHd base q.1 q.2)→bu l.prog w K mg base br 12 fa fd ["script"] (By K (lU K "ticks").2):=by
 have e:=YX.symm.trans (dB X G a35);cases e;have T:Txt mg:=⟨lH X G z1,lH X G z2,lH X G z3,lH X G z4,lH X G z5,lH X G z6,lH X G z7,lH X G z8,lH X G z9,lH X G z10,lH X G z11,lH X G z12,lH X G z13,lH X G z14⟩;obtain⟨a1,F1,k1⟩:=A1;obtain⟨a2,F2,k2⟩:=A2;obtain⟨a3,F3,k3⟩:=A3;obtain⟨a4,F4,k4⟩:=A4;obtain⟨a5,F5,k5⟩:=A5;obtain⟨a6,F6,k6⟩:=A6;obtain⟨a7,F7,k7⟩:=A7;obtain⟨a8,F8,k8⟩:=A8;obtain⟨a9,F9,k9⟩:=A9;obtain⟨ZW,FJ,Nn⟩:=Zw;obtain⟨ZX,Np,ZY⟩:=Zx;obtain⟨ZZ,FK,k12⟩:=Zy;obtain⟨Z0,Nq,Z1⟩:=Zz;obtain⟨Z2,Nr,Z3⟩:=ZA;obtain⟨Z4,Nt,Z5⟩:=ZC;obtain⟨Z6,Nu,Z7⟩:=ZD;obtain⟨Z8,Nv,Z9⟩:=ZE;have Nw:=Cp (st:=iM) l18 c18 k18;obtain⟨a19,Nx,k19⟩:=ZF;obtain⟨a20,xK,BA⟩:=ZG;obtain⟨a21,Ny,k21⟩:=ZH;obtain⟨a22,Nz,k22⟩:=ZI;obtain⟨a23,NA,k23⟩:=ZJ;obtain⟨a24,NB,k24⟩:=ZK;obtain⟨a25,NC,k25⟩:=ZL;obtain⟨a26,ND,k26⟩:=ZM;obtain⟨a27,FN,NF⟩:=ZN;obtain⟨a28,NG,k28⟩:=ZO;obtain⟨a29,NH,k29⟩:=ZP;obtain⟨a30,NI,k30⟩:=ZQ;obtain⟨a31,NJ,k31⟩:=ZR;obtain⟨a32,NK,k32⟩:=ZT;obtain⟨a33,NL,k33⟩:=ZU;obtain⟨a34,NM,k34⟩:=ZV;have F35:=Cp (st:=lV) l35 c35 k35;have b1:=F1.binds (ps:=["p","number"]) λ_ _ _ _ _ _=>nJ λ_ _=>rfl;have m1:=dB X G a1;have b2:=F2.binds (ps:=["p","row","factor","other"]) λ_ _ _ _ _ _=>sF λ_ _ _ _=>rfl;have m2:=dB X G a2;have b3:=F3.binds (ps:=["p","rows","factors","length"]) λ_ _ _ _ _ _=>sF λ_ _ _ _=>rfl;have m3:=dB X G a3;have b4:=F4.binds (ps:=["count"]) λ_ _ _ _ _ _=>sE λ_=>rfl;have m4:=dB X G a4;have b5:=F5.binds (ps:=["p","rows"]) λ_ _ _ _ _ _=>nJ λ_ _=>rfl;have m5:=dB X G a5;have b6:=F6.binds (ps:=["p","row","place"]) λ_ _ _ _ _ _=>qA λ_ _ _=>rfl;have m6:=dB X G a6;have b7:=F7.binds (ps:=["p","row","lead","place"]) λ_ _ _ _ _ _=>sF λ_ _ _ _=>rfl;have m7:=dB X G a7;have b8:=F8.binds (ps:=["words"]) λ_ _ _ _ _ _=>sE λ_=>rfl;have m8:=dB X G a8;have b9:=F9.binds (ps:=["words","made"]) λ_ _ _ _ _ _=>nJ λ_ _=>rfl;have m9:=dB X G a9;have NO:=FJ.binds (ps:=["words","made"]) λ_ _ _ _ _ _=>nJ λ_ _=>rfl;have NP:=dB X G ZW;have b11:=Np.binds (ps:=["words"]) λ_ _ _ _ _ _=>sE λ_=>rfl;have m11:=dB X G ZX;have b12:=FK.binds (ps:=["place","word","parts"]) λ_ _ _ _ _ _=>qA λ_ _ _=>rfl;have m12:=dB X G ZZ;have b13:=Nq.binds (ps:=["p","word","parts"]) λ_ _ _ _ _ _=>qA λ_ _ _=>rfl;have m13:=dB X G Z0;have b14:=Nr.binds (ps:=["p","one"]) λ_ _ _ _ _ _=>nJ λ_ _=>rfl;have m14:=dB X G Z2;have b15:=Nt.binds (ps:=["p","one","other"]) λ_ _ _ _ _ _=>qA λ_ _ _=>rfl;have m15:=dB X G Z4;have b16:=Nu.binds (ps:=["p","one","other"]) λ_ _ _ _ _ _=>qA λ_ _ _=>rfl;have m16:=dB X G Z6;have b17:=Nv.binds (ps:=["p","one","other"]) λ_ _ _ _ _ _=>qA λ_ _ _=>rfl;have m17:=dB X G Z8;have b18:=Nw.binds (ps:=["p","words"]) λ_ _ _ _ _ _=>nJ λ_ _=>rfl;have m18:=dB X G a18;have b19:=Nx.binds (ps:=["p","words","place","parts"]) λ_ _ _ _ _ _=>sF λ_ _ _ _=>rfl;have m19:=dB X G a19;have BC:=xK.binds (ps:=["script","k"]) λ_ _ _ _ _ _=>nJ λ_ _=>rfl;have BD:=dB X G a20;have b21:=Ny.binds (ps:=["script"]) λ_ _ _ _ _ _=>sE λ_=>rfl;have m21:=dB X G a21;have b22:=Nz.binds (ps:=["draw","p","left"]) λ_ _ _ _ _ _=>qA λ_ _ _=>rfl;have m22:=dB X G a22;have b23:=NA.binds (ps:=["script","at","p","left"]) λ_ _ _ _ _ _=>sF λ_ _ _ _=>rfl;have m23:=dB X G a23;have b24:=NB.binds (ps:=["script","p"]) λ_ _ _ _ _ _=>nJ λ_ _=>rfl;have m24:=dB X G a24;have b25:=NC.binds (ps:=["parts"]) λ_ _ _ _ _ _=>sE λ_=>rfl;have m25:=dB X G a25;have b26:=ND.binds (ps:=["case"]) λ_ _ _ _ _ _=>sE λ_=>rfl;have m26:=dB X G a26;have NQ:=FN.binds (ps:=["case"]) λ_ _ _ _ _ _=>sE λ_=>rfl;have NR:=dB X G a27;have b28:=NG.binds (ps:=["p","boxes","given","kept","fresh"]) λ_ _ _ _ _ _=>Yw λ_ _ _ _ _=>rfl;have m28:=dB X G a28;have b29:=NH.binds (ps:=["p","case","asked","kept"]) λ_ _ _ _ _ _=>sF λ_ _ _ _=>rfl;have m29:=dB X G a29;have b30:=NI.binds (ps:=["length","at"]) λ_ _ _ _ _ _=>nJ λ_ _=>rfl;have m30:=dB X G a30;have b31:=NJ.binds (ps:=["p","row","head","at"]) λ_ _ _ _ _ _=>sF λ_ _ _ _=>rfl;have m31:=dB X G a31;have b32:=NK.binds (ps:=["p","rows","width"]) λ_ _ _ _ _ _=>qA λ_ _ _=>rfl;have m32:=dB X G a32;have b33:=NL.binds (ps:=["p","case"]) λ_ _ _ _ _ _=>nJ λ_ _=>rfl;have m33:=dB X G a33;have b34:=NM.binds (ps:=["found","p"]) λ_ _ _ _ _ _=>nJ λ_ _=>rfl;have m34:=dB X G a34;exact⟨fnOf "law" "law" (pb lV) (j7 lV) (bx lV) .none Nj Nk Nl Nh FI Nm,λs v=>.of_eq rfl,λbase _ _ bb cc=>Yu F35 (Vk Ny (An xK T) BA BC BD) k21 b21 m21 (XU NB T (An xK T) BA BC BD (XH NA T (An xK T) BA BC BD (WC Nz) k22 b22 m22) k23 b23 m23) k24 b24 m24 (X1 ND (WD NC) k25 b25 m25) k26 b26 m26 (Xl NL T (Mu FN T) NF NQ NR (Vm NI) k30 b30 m30 (Xi NH T (WW NG T) k28 b28 m28) k29 b29 m29) k33 b33 m33 (An xK T) BA BC BD (X9 Nw (So a18 l18 (Jz hs1)) (cc _ cZ) bb (Kc F9 (J1 FJ T (Ng X G (xJ hx1))) Nn NO NP) k9 b9 m9 (Wb Nx T (FE X G (xJ hx1)) (Yv hx1) (Vg F4 T) k4 b4 m4 (UT Nq (FE X G (xJ hx1)) (T8 Nr (zG F5 T F2 b2 m2 F1 b1 m1 F3 b3 m3 F7 b7 m7 F6 b6 m6) k5 b5 m5) Z3 b14 m14 (Us Nt (zG F5 T F2 b2 m2 F1 b1 m1 F3 b3 m3 F7 b7 m7 F6 b6 m6) k5 b5 m5) Z5 b15 m15 (UO Nu T (zG F5 T F2 b2 m2 F1 b1 m1 F3 b3 m3 F7 b7 m7 F6 b6 m6) k5 b5 m5 (UI Nv T) Z9 b17 m17) Z7 b16 m16 (T4 F8 (T2 Np (Kc F9 (J1 FJ T (Ng X G (xJ hx1))) Nn NO NP) k9 b9 m9 (TX FK (FE X G (xJ hx1))) FK b12 m12) ZY b11 m11) k8 b8 m8) Z1 b13 m13) k19 b19 m19 (zG F5 T F2 b2 m2 F1 b1 m1 F3 b3 m3 F7 b7 m7 F6 b6 m6) k5 b5 m5) k18 b18 m18 (X7 NM T) k34 b34 m34 (Vx NK T (Vs NJ T) k31 b31 m31) k32 b32 m32 (Mu FN T) NF NQ NR⟩
theorem walk{l:PySem.W.OpenLaw}{q:Program}{tw:List Str}{XP:(Str→Option Value)→Heap→Prop}{YP:World→Heap→Prop}{d:DefRec}{K:Params→Frag}(hn:l.most=some 63)(vI:d.params.defaults=[])
  (hY:∀(w:World)(h:Heap),YP w h→(K w.params).In h) (noT:∀w:World,PySem.W.noTabs (K w.params)=true)
  (hT:∀(w:World){v7:ExcName→Option Value}{lo:List Str}{mg mb:Str→Option Value}{h:Heap},PyProof.Rows.Top q lo v7 mg mb h→(K w.params).In h→PySem.W.TabsAt [lU (K w.params) "ticks"] h)
  (F:∀(w:World)(mg:Str→Option Value)(fa:Addr)(h:Heap),(K w.params).In h→h.Ns mainGlobals mg→mg d.name=some (.ref fa)→
   ∃fd:FuncData,(∀(s:Shared)(u:Value),BindsTo s fd ⟨[u],[]⟩ [("script",u)])∧∀base:Heap,(K w.params).In base→base.Ns mainGlobals mg→qa mg base→(∀q∈[lU (K w.params) "ticks"],CodeHd base q.1 q.2)→bu l.prog w (K w.params) mg base br 12 fa fd ["script"] (By (K w.params) (lU (K w.params) "ticks").2)) :
  PySem.W.WalkO q tw XP YP l.row.toRowW d [] (λf vs=>PySem.call f vs):=
 L2.SE (n:=63) (k:=12) (x := "script") (tabs:=λw=>[lU (K w.params) "ticks"]) (sp:=λw=>By (K w.params) (lU (K w.params) "ticks").2) hn (by decide) vI ⟨rfl,by decide,by decide⟩ hY noT hT F λ_ _ a ns hl hS tU=>⟨a,ns,rfl,hS,hl,.inl (tU _ cZ),λ_=>rfl⟩
end S21
structure PySem.W.Fast:Prop where
 (tw2606249638690907763 tw3686246254125824150 tw16852795658307257486 tw10808889061345339074 tw847598705973822698 tw1893405581498203220 tw3396825145796819670 tw4619257267943476963 tw17201794682176184524 tw6566734149605187535 tw6463817696983385482 tw9357863911065924988 tw8218074687615271282 tw16455804469565935042 tw13664680310500605272 tw12711125238557009487 tw4822765978394622177 tw4388417116629376853 tw15809521233555932968 tw16464209734830210028 tw8315044058794867105 tw13643810780700280487 tw8814778330163513959 tw17634664192668041162 tw15174883564834521927 tw7041282661457162624 tw17049675856140302704 tw10433587042366685694 tw5224510741419026671 tw10324133583018011504 tw11016523261006607874 tw4737514639371992549 tw3943619568828259029 tw9531366296943897558 tw2173116573740306923 tw14639207805438418524 tw1380850739987692089 tw3928927384564029737 tw17376000603265933437 tw6895710080032807466 tw6624593341751369441 tw13263627459393468350 tw12922704223098032564 tw12074263591637315705 tw14456802984851990567 tw13992910870781346704 tw2168307539014354400 tw4068219757512453638 tw11398503060409529569 tw3251644961513623780 tw14607244351520897592 tw17854903932380700872 tw14355388544161775832 tw18313107141468738935 tw6628153314657359268 tw69272948956039185 tw10656465215308442060 tw5507548100926362366 tw11508172006373509946 tw13321457589715689248 tw5346753771730727492 tw13307973695100982767 tw12717987708074862276 tw2548137197877122221 tw15724432831334729755 tw5329329079751962328 tw12200036884304792601 tw8540293002625145023 tw12472157975531296605 tw12687269627048970382 tw10144406345906585183 tw5908426370527229867 tw13743888205970663999 tw3485742865936920054 tw18002081583644048150 tw4939994987886945883 tw12999566302049069110 tw6118532760891320400 tw13338886472855468540 tw6191577208274476807 tw9425641937510288305 tw6879268759079530715 tw9926543265317332067 tw801200627919666354 tw8438261878386899579 tw11042352062995861868 tw3930632868085250067 tw2762824557531739198 tw14425085386476110493 tw10147869243507136050 tw251825728505635985 tw7044000652401165519 tw824234852034128458 tw8897018833332560211 tw13735357728726492646 tw5831829848159985111 tw17083398098832918110 tw15281355030742191498 tw16499558633086950268 tw14862024507483209922:True)
open PySem PySem.W PyProof.Rows
set_option maxRecDepth 100000 in
set_option maxHeartbeats 0 in
theorem PySem.Challenge.cw_bentwires_k61_ticks_holds : PySem.Challenge.rw_bentwires_k61_ticks.Holds := by
 w_on;o_law;k_head;(case hw=>w_witness2)
 k_fill
 refine S21.walk (l:=PySem.Challenge.rw_bentwires_k61_ticks) rfl rfl (fun w h Y=>PySem.W.km_in_of Y) ?noT ?hT ?F
 (case noT=>exact fun w=>by kernel_rfl)
 (case hT=>exact fun w {_ _ _ _ _} T X=>L2.tabs_cons T X rfl (by kernel_rfl) (L2.tabs_nil))
 case F =>
  intro w mg fa h KX G hmg
  refine' S21.all_mk KX G hmg ?_ ?_ ?_ ?_ ?_ ?_ ?_ ?_ ?_ ?_ ?_ ?_ ?_ ?_ ?_ ?_ ?_ ?a18 ?l18 ?c18 ?k18 ?_ ?_ ?_ ?_ ?_ ?_ ?_ ?_ ?_ ?_ ?_ ?_ ?_ ?_ ?_ ?_ ?a35 ?l35 ?c35 ?k35 ?z1 ?z2 ?z3 ?z4 ?z5 ?z6 ?z7 ?z8 ?z9 ?z10 ?z11 ?z12 ?z13 ?z14 ?hs1 ?hx1
  (case a18=>k_is)
  (case l18=>k_is)
  (case c18=>k_is)
  (case k18=>k_is)
  (case a35=>k_is)
  (case l35=>k_is)
  (case c35=>k_is)
  (case k35=>k_is)
  (case hs1=>kernel_rfl)
  (case hx1=>kernel_rfl)
  any_goals refine' S21.FA.of ?_ ?_ ?_ ?_
  any_goals k_is
